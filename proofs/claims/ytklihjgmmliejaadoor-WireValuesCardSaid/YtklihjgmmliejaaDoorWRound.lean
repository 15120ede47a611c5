/- The walk of WireRoundTrip: it returns true, whatever comes in. -/
import Derived.Test.YtklihjgmmliejaaDoorWSmall
namespace Go.Proofs.YtklihjgmmliejaaDoor.W
set_option linter.unusedVariables false
open Go.RowKit
open Go.Lib (byteCells byteCells_length byteCells_append byteCells_snoc)

theorem sameV_refl (v : GV) : sameV v v = true := by simp [sameV]
def box (v : GV) (I L : Option Addr) (ci cl : Nat) : Array Value := #[.int .i64 v.kind, .int .i64 v.n, .string ⟨v.s.toArray⟩, .slice I v.i.length ci, .slice L v.l.length cl]

set_option maxRecDepth 100000 in
set_option maxHeartbeats 1000000 in
theorem round_no (v : GV) (I L : Option Addr) (ci cl : Nat) (x : Nat) (y : Int) (A A' : Option Addr) (c c' n n' : Nat) (w : World) (hv : GVraw w w.heap.size v I L ci cl) (ht : Tab w)
    (hbad : smallV v = false ∨ v.ok = false ∨ 100 < n ∨ 100 < n') (hn : n ≤ 9223372036854775807) (hn' : n' ≤ 9223372036854775807) :
    Calls Tryd.prog 7 #[gvV v I L ci cl, .int .u64 x, .int .i64 y, .slice A n c, .slice A' n' c'] w fun e w' => e = .returned (.bool true) ∧ Below w.heap.size w w' := by
  have hb0 := (Below.refl w.heap.size w).alloc (Nat.le_refl _) (.cells (box v I L ci cl) 55)
  have CA := Lib.hid (awake_any _ (ht.on hb0))
  have CS := Lib.hid (fun W (hW : Below w.heap.size w W) => small_any v I L ci cl w.heap.size W (hv.below hW) hW.size)
  have CV := Lib.hid (fun (hs : smallV v = true) W (hW : Below w.heap.size w W) => valid_any v I L ci cl w.heap.size W ((hv.arg hs).below hW) hW.size)
  obtain ⟨k, m, s, i, l⟩ := v
  dsimp only [gvV, strV, box] at *
  have hB0 := Lib.hid (Blk.new w 55 #[.int .i64 k, .int .i64 m, .string ⟨s.toArray⟩, .slice I i.length ci, .slice L l.length cl])
  clear hv ht
  cases hsm : smallV ⟨k, m, s, i, l⟩
  · rw [hsm] at CS
    clear hbad hsm
    go_enter Tryd.func7, Tryd.ntmps7
    go_wp2_with (first
      | (go_at_call 13; refine CA.out.mono ?_; rintro e w1 ⟨rfl, hq1⟩; obtain ⟨hb1, hB1⟩ := hB0.out.step hb0 hq1; obtain ⟨q0, q1, q2, q3, q4⟩ := hB1.box5)
      | (go_at_call 38; refine (CS.out _ hb1).mono ?_; rintro e w2 ⟨rfl, hq2⟩; obtain ⟨hb2, hB2⟩ := hB1.step hb1 hq2))
    go_ret
    exact ⟨rfl, hb2⟩
  · rw [hsm] at CS
    have CV2 := Lib.hid (CV.out hsm)
    cases hok : GV.ok ⟨k, m, s, i, l⟩
    · rw [hok] at CV2
      clear hbad hsm hok CV
      go_enter Tryd.func7, Tryd.ntmps7
      go_wp2_with (first
        | (go_at_call 13; refine CA.out.mono ?_; rintro e w1 ⟨rfl, hq1⟩; obtain ⟨hb1, hB1⟩ := hB0.out.step hb0 hq1; obtain ⟨q0, q1, q2, q3, q4⟩ := hB1.box5)
        | (go_at_call 38; refine (CS.out _ hb1).mono ?_; rintro e w2 ⟨rfl, hq2⟩; obtain ⟨hb2, hB2⟩ := hB1.step hb1 hq2; clear q0 q1 q2 q3 q4; obtain ⟨q0, q1, q2, q3, q4⟩ := hB2.box5)
        | (go_at_call 42; refine (CV2.out _ hb2).mono ?_; rintro e w3 ⟨rfl, hq3⟩; obtain ⟨hb3, hB3⟩ := hB2.step hb2 hq3))
      go_ret
      exact ⟨rfl, hb3⟩
    · rw [hok] at CV2
      have hbad2 : 100 < n ∨ 100 < n' := by
        rcases hbad with h | h | h | h
        · rw [hsm] at h; cases h
        · rw [hok] at h; cases h
        · exact .inl h
        · exact .inr h
      clear hbad hsm hok CV
      by_cases h1 : 100 < n
      · have h1' : (100 : Int) < (n : Int) := by omega
        clear hbad2
        go_enter Tryd.func7, Tryd.ntmps7
        go_wp2_with (first
          | (go_at_call 13; refine CA.out.mono ?_; rintro e w1 ⟨rfl, hq1⟩; obtain ⟨hb1, hB1⟩ := hB0.out.step hb0 hq1; obtain ⟨q0, q1, q2, q3, q4⟩ := hB1.box5)
          | (go_at_call 38; refine (CS.out _ hb1).mono ?_; rintro e w2 ⟨rfl, hq2⟩; obtain ⟨hb2, hB2⟩ := hB1.step hb1 hq2; clear q0 q1 q2 q3 q4; obtain ⟨q0, q1, q2, q3, q4⟩ := hB2.box5)
          | (go_at_call 42; refine (CV2.out _ hb2).mono ?_; rintro e w3 ⟨rfl, hq3⟩; obtain ⟨hb3, hB3⟩ := hB2.step hb2 hq3))
        go_ret
        exact ⟨rfl, hb3⟩
      · have h1' : ¬ (100 : Int) < (n : Int) := by omega
        have h2' : (100 : Int) < (n' : Int) := by omega
        clear hbad2
        go_enter Tryd.func7, Tryd.ntmps7
        go_wp2_with (first
          | (go_at_call 13; refine CA.out.mono ?_; rintro e w1 ⟨rfl, hq1⟩; obtain ⟨hb1, hB1⟩ := hB0.out.step hb0 hq1; obtain ⟨q0, q1, q2, q3, q4⟩ := hB1.box5)
          | (go_at_call 38; refine (CS.out _ hb1).mono ?_; rintro e w2 ⟨rfl, hq2⟩; obtain ⟨hb2, hB2⟩ := hB1.step hb1 hq2; clear q0 q1 q2 q3 q4; obtain ⟨q0, q1, q2, q3, q4⟩ := hB2.box5)
          | (go_at_call 42; refine (CV2.out _ hb2).mono ?_; rintro e w3 ⟨rfl, hq3⟩; obtain ⟨hb3, hB3⟩ := hB2.step hb2 hq3))
        go_ret
        exact ⟨rfl, hb3⟩
/- YES -/

theorem bstep {a b c : World} (h : Below a.heap.size a b) (hq : Below b.heap.size b c) : Below a.heap.size a c := h.trans (hq.mono h.size)
theorem join_at {A A' : Option Addr} {c c' n n' : Nat} {xs ys : List UInt8} {w : World} (ha : Reads w w.heap.size 1 A n (byteCells xs)) (hb : Reads w w.heap.size 1 A' n' (byteCells ys)) (hl : xs.length + ys.length ≤ 4398046511104) (m : Nat) (hm : (xs ++ ys).length = m) :
    Calls Tryd.prog 20 #[.slice A n c, .slice A' n' c'] w (OwnS w.heap.size w (xs ++ ys) m) :=
  (join_any A A' c c' n n' xs ys w ha hb hl).mono fun _ _ h => h.to _ m rfl hm
theorem int_at {A : Option Addr} {c B n : Nat} {bs : List UInt8} {w : World} (hr : Reads w B 1 A n (byteCells bs)) (hn : bs.length ≤ 1099511627776) (v : Int) (k e : Nat) (h : rdI bs = (v, k, e)) :
    Calls Tryd.prog 16 #[.slice A n c] w fun e' w' => e' = .returned (.tuple #[.int .i64 v, .int .i64 k, .int .i64 e]) ∧ w = w' := by
  obtain rfl := hr.len
  have h1 := int_any A c B bs w hr hn
  rw [h] at h1
  exact h1
theorem uint_at' {A : Option Addr} {c B n : Nat} {bs : List UInt8} {w : World} (hr : Reads w B 1 A n (byteCells bs)) (hn : bs.length ≤ 1099511627776) (v k e : Nat) (h : rdU bs = (v, k, e)) :
    Calls Tryd.prog 14 #[.slice A n c] w fun e' w' => e' = .returned (.tuple #[.int .u64 v, .int .i64 k, .int .i64 e]) ∧ w = w' := by
  obtain rfl := hr.len
  have h1 := uint_any A c B bs w hr hn
  rw [h] at h1
  exact h1
theorem same_at {A A' : Option Addr} {c c' n n' B B' : Nat} {xs ys : List UInt8} {w : World} (ha : Reads w B 1 A n (byteCells xs)) (hb : Reads w B' 1 A' n' (byteCells ys)) (b : Bool) (h : (xs == ys) = b) :
    Calls Tryd.prog 18 #[.slice A n c, .slice A' n' c'] w fun e w' => e = .returned (.bool b) ∧ w = w' := by
  subst h
  exact same_any A A' c c' n n' B B' xs ys w ha hb
theorem appendValue_at {v : GV} {I L A : Option Addr} {c ci cl n : Nat} {bs : List UInt8} {w : World} (hr : Reads w w.heap.size 1 A n (byteCells bs)) (h : GVarg w w.heap.size v I L ci cl) (hl : bs.length + (enV v).length ≤ 1099511627776) (hok : v.ok = true) (m : Nat) (hm : (bs ++ enV v).length = m) :
    Calls Tryd.prog 45 #[.slice A n c, gvV v I L ci cl] w (OwnS w.heap.size w (bs ++ enV v) m) := by
  obtain rfl := hr.len
  exact (appendValue_ok v A I L c ci cl bs w hr h hl hok).mono fun _ _ h => h.to _ m rfl hm
theorem appendUint_at {A : Option Addr} {c n x : Nat} {bs : List UInt8} {w : World} (hr : Reads w w.heap.size 1 A n (byteCells bs)) (hl : bs.length ≤ 1099511627776) (hx : x < 18446744073709551616) (m : Nat) (hm : (bs ++ enU x).length = m) :
    Calls Tryd.prog 19 #[.slice A n c, .int .u64 x] w (OwnS w.heap.size w (bs ++ enU x) m) := by
  obtain rfl := hr.len
  exact (AppendUint_any A c bs x w hr hl hx).mono fun _ _ h => h.to _ m rfl hm
theorem appendInt_at {A : Option Addr} {c n : Nat} {x : Int} {bs : List UInt8} {w : World} (hr : Reads w w.heap.size 1 A n (byteCells bs)) (hl : bs.length ≤ 1099511627776) (hx : In64 x) (m : Nat) (hm : (bs ++ enI x).length = m) :
    Calls Tryd.prog 22 #[.slice A n c, .int .i64 x] w (OwnS w.heap.size w (bs ++ enI x) m) := by
  obtain rfl := hr.len
  exact (AppendInt_any A c bs x w hr hl hx).mono fun _ _ h => h.to _ m rfl hm
/-- How long the encoding of a small value can be. -/
theorem enIs_len {l : List Int} (h : ∀ x ∈ l, In64 x) : (l.flatMap enI).length ≤ 10 * l.length := by
  induction l with
  | nil => simp
  | cons x l ih =>
    have := ih (fun y hy => h y (by simp [hy]))
    have := enI_len (h x (by simp))
    rw [List.flatMap_cons, List.length_append, List.length_cons]; omega
theorem enSs_len {l : List (List UInt8)} (h : ∀ s ∈ l, s.length ≤ 64) : (l.flatMap enS).length ≤ 74 * l.length := by
  induction l with
  | nil => simp
  | cons x l ih =>
    have := ih (fun y hy => h y (by simp [hy]))
    have h1 := h x (by simp)
    have := enU_len (x := x.length) (by omega)
    have : (enS x).length = (enU x.length).length + x.length := List.length_append
    rw [List.flatMap_cons, List.length_append, List.length_cons]; omega
theorem enV_small {v : GV} (h : v.ok = true) (hi : ∀ x ∈ v.i, In64 x) (hn : In64 v.n) : (enV v).length ≤ 2000 := by
  obtain ⟨k, n, s, i, l⟩ := v
  dsimp only at hi hn
  rcases (GV.ok_iff _).1 h with h | h | h | h | h | h <;> dsimp only at h
  · obtain ⟨rfl, rfl, rfl, rfl, rfl⟩ := h; simp [enV]
  · obtain ⟨rfl, rfl, rfl, rfl⟩ := h
    have := enI_len hn
    simp [enV]; omega
  · obtain ⟨rfl, _, rfl, rfl, rfl⟩ := h; simp [enV]
  · obtain ⟨rfl, hs, rfl, rfl, rfl⟩ := h
    have := enU_len (x := s.length) (by omega)
    simp [enV, enS]; omega
  · obtain ⟨rfl, hl, rfl, rfl, rfl⟩ := h
    have := enU_len (x := i.length) (by omega)
    have := enIs_len hi
    have e : (enV ⟨4, 0, [], i, []⟩).length = 1 + ((enU i.length).length + (i.flatMap enI).length) := by
      show (_ :: (enU i.length ++ i.flatMap enI)).length = _
      rw [List.length_cons, List.length_append]; omega
    omega
  · obtain ⟨rfl, hl, ht, rfl, rfl, rfl⟩ := h
    have := enU_len (x := l.length) (by omega)
    have := enSs_len (tooL_no ht)
    have e : (enV ⟨5, 0, [], [], l⟩).length = 1 + ((enU l.length).length + (l.flatMap enS).length) := by
      show (_ :: (enU l.length ++ l.flatMap enS)).length = _
      rw [List.length_cons, List.length_append]; omega
    omega

set_option maxRecDepth 100000 in
set_option maxHeartbeats 2000000 in
theorem round_yes (v : GV) (I L : Option Addr) (ci cl : Nat) (x : Nat) (y : Int) (A A' : Option Addr) (c c' n n' : Nat) (ahead behind : List UInt8) (w : World) (hv : GVraw w w.heap.size v I L ci cl) (ht : Tab w)
    (ha : Reads w w.heap.size 1 A n (byteCells ahead)) (hb : Reads w w.heap.size 1 A' n' (byteCells behind)) (hx : x < 18446744073709551616) (hy : In64 y)
    (hsm : smallV v = true) (hok : v.ok = true) (hn : n ≤ 100) (hn' : n' ≤ 100) :
    Calls Tryd.prog 7 #[gvV v I L ci cl, .int .u64 x, .int .i64 y, .slice A n c, .slice A' n' c'] w fun e w' => e = .returned (.bool true) ∧ Below w.heap.size w w' := by
  have hb0 := (Below.refl w.heap.size w).alloc (Nat.le_refl _) (.cells (box v I L ci cl) 55)
  obtain rfl := ha.len
  obtain rfl := hb.len
  have CA := Lib.hid (awake_any _ (ht.on hb0))
  have CS := Lib.hid (fun W (hW : Below w.heap.size w W) => small_any v I L ci cl w.heap.size W (hv.below hW) hW.size)
  rw [hsm] at CS
  have hg := hv.arg hsm
  have CV := Lib.hid (fun W (hW : Below w.heap.size w W) => valid_any v I L ci cl w.heap.size W (hg.below hW) hW.size)
  rw [hok] at CV
  have hin : v.in64 := ⟨hg.n64, hg.i64⟩
  have hvl := enV_small hok hg.i64 hg.n64
  have hul := enU_len hx
  have hil := enI_len hy
  -- the answers
  have RV := Lib.hid (rdV_back hok hin behind)
  have RU := Lib.hid (rdU_back hx behind)
  have RI := Lib.hid (rdI_back hy behind)
  have cav0 := fun W (hW : Below w.heap.size w W) => appendValue_at (c := 0) (A := none) (bs := []) (w := W) Reads.nothing ((hg.below hW).more hW.size) (by simp; omega) hok (enV v).length (by simp)
  simp only [List.nil_append] at cav0
  have CAV := Lib.hid cav0
  clear cav0
  have CAV2 := Lib.hid (fun W (hW : Below w.heap.size w W) => appendValue_at (c := c) (bs := ahead) (w := W) ((ha.below hW).more hW.size) ((hg.below hW).more hW.size) (by omega) hok (ahead.length + (enV v).length) (by simp))
  have cau0 := fun (W : World) => appendUint_at (c := 0) (A := none) (bs := []) (w := W) Reads.nothing (by simp) hx (enU x).length (by simp)
  simp only [List.nil_append] at cau0
  have CAU := Lib.hid cau0
  clear cau0
  have CAU2 := Lib.hid (fun W (hW : Below w.heap.size w W) => appendUint_at (c := c) (bs := ahead) (w := W) ((ha.below hW).more hW.size) (by omega) hx (ahead.length + (enU x).length) (by simp))
  have cai0 := fun (W : World) => appendInt_at (c := 0) (A := none) (bs := []) (w := W) Reads.nothing (by simp) hy (enI y).length (by simp)
  simp only [List.nil_append] at cai0
  have CAI := Lib.hid cai0
  clear cai0
  have RA := Lib.hid (fun W (hW : Below w.heap.size w W) => (ha.below hW).more hW.size)
  have RB := Lib.hid (fun W (hW : Below w.heap.size w W) => (hb.below hW).more hW.size)
  have HG := Lib.hid (fun W (hW : Below w.heap.size w W) => (hg.below hW).more hW.size)
  have hh1 : ¬ (100 : Int) < (ahead.length : Int) := by omega
  have hh2 : ¬ (100 : Int) < (behind.length : Int) := by omega
  generalize hEV : enV v = EV at *
  generalize hEU : enU x = EU at *
  generalize hEI : enI y = EI at *
  have HB0 := Lib.hid (Blk.new w 55 (box v I L ci cl))
  have hvv : gvV v I L ci cl = .agg (box v I L ci cl) := rfl
  have SV := Lib.hid (fun W I' L' ci' cl' B (h1 : GVarg W B v I' L' ci' cl') (h2 : GVarg W B v I L ci cl) hB => sameValue_any v v I' L' I L ci' cl' ci cl B W h1 h2 hB)
  rw [sameV_refl] at SV
  obtain ⟨k, m, s, i, l⟩ := v
  dsimp only [gvV, strV, box] at *
  clear hv ht hg hsm hok hin hEV hEU hEI ha hb hvv
  generalize hLV : EV.length = lv at *
  generalize hLU : EU.length = lu at *
  generalize hLI : EI.length = li at *
  have HLV := Lib.hid hLV
  have HLU := Lib.hid hLU
  have HLI := Lib.hid hLI
  clear hLV hLU hLI
  go_enter Tryd.func7, Tryd.ntmps7
  go_upto_region 6 with (first
    | (go_at_call 13; refine CA.out.mono ?_; rintro e w1 ⟨rfl, hq1⟩; obtain ⟨hb1, hB1⟩ := HB0.out.step hb0 hq1; obtain ⟨q0, q1, q2, q3, q4⟩ := hB1.box5)
    | (go_at_call 38; refine (CS.out _ hb1).mono ?_; rintro e w2 ⟨rfl, hq2⟩; obtain ⟨hb2, hB2⟩ := hB1.step hb1 hq2; clear q0 q1 q2 q3 q4; obtain ⟨q0, q1, q2, q3, q4⟩ := hB2.box5)
    | (go_at_call 42; refine (CV.out _ hb2).mono ?_; rintro e w3 ⟨rfl, hq3⟩; obtain ⟨hb3, hB3⟩ := hB2.step hb2 hq3; clear q0 q1 q2 q3 q4; obtain ⟨q0, q1, q2, q3, q4⟩ := hB3.box5)
    | (go_at_call 45; refine (CAV.out _ hb3).mono ?_; rintro e w4 ⟨A4, c4, rfl, hc4, ho4, hr4, hq4⟩; obtain ⟨hb4, hB4⟩ := hB3.step hb3 hq4))
  go_upto_region 7 with (first
    | (go_at_call 20; refine (join_at hr4 (RB.out _ hb4) (by rw [HLV.out]; omega) (lv + behind.length) (by rw [List.length_append, HLV.out])).mono ?_; rintro e w5 ⟨A5, c5, rfl, hc5, ho5, hr5, hq5⟩; obtain ⟨hb5, hB5⟩ := hB4.step hb4 hq5)
    | (go_at_call 39; refine ((value_at hr5 (by rw [List.length_append, HLV.out]; omega) hc5).mono fun _ _ h => h.to ⟨k, m, s, i, l⟩ i.length l.length lv 0 (by rw [RV.out]) rfl rfl (by rw [RV.out]) (by rw [RV.out]; rfl)).mono ?_; rintro e w6 ⟨I6, ci6, L6, cl6, rfl, hi6, hl6, hri6, hrl6, hq6⟩; obtain ⟨hb6, hB6⟩ := hB5.step hb5 hq6))
  have hb7 := hb6.alloc hb6.size (.cells #[.int .i64 k, .int .i64 m, .string ⟨s.toArray⟩, .slice I6 i.length ci6, .slice L6 l.length cl6] 55)
  have hB7 := hB6.alloc (.cells #[.int .i64 k, .int .i64 m, .string ⟨s.toArray⟩, .slice I6 i.length ci6, .slice L6 l.length cl6] 55)
  have hC7 := Blk.new w6 55 #[.int .i64 k, .int .i64 m, .string ⟨s.toArray⟩, .slice I6 i.length ci6, .slice L6 l.length cl6]
  have hd7 : Below w4.heap.size w4 (w6.alloc (.cells #[.int .i64 k, .int .i64 m, .string ⟨s.toArray⟩, .slice I6 i.length ci6, .slice L6 l.length cl6] 55)) := (bstep hq5 hq6).alloc (bstep hq5 hq6).size _
  have hf7 : Below w6.heap.size w6 (w6.alloc (.cells #[.int .i64 k, .int .i64 m, .string ⟨s.toArray⟩, .slice I6 i.length ci6, .slice L6 l.length cl6] 55)) := (Below.refl _ _).alloc (Nat.le_refl _) _
  have HB7 := Lib.hid hb7
  have HBB7 := Lib.hid hB7
  have HCC7 := Lib.hid hC7
  have HD7 := Lib.hid hd7
  have HF7 := Lib.hid hf7
  clear q0 q1 q2 q3 q4 hb7 hB7 hC7 hd7 hf7 hB1 hB2 hB3 hB4 hB5 hq1 hq2 hq3
  go_upto_region 8 with (go_at_call 19; refine (CAU.out _).mono ?_; rintro e w8 ⟨A8, c8, rfl, hc8, ho8, hr8, hq8⟩; obtain ⟨hb8, hB8⟩ := HBB7.out.step HB7.out hq8; have hC8 := HCC7.out.below hq8 HCC7.out.lt; have hd8 := bstep HD7.out hq8; have hf8 := bstep HF7.out hq8)
  go_upto_region 9 with (first
    | (go_at_call 20; refine (join_at hr8 (RB.out _ hb8) (by rw [HLU.out]; omega) (lu + behind.length) (by rw [List.length_append, HLU.out])).mono ?_; rintro e w9 ⟨A9, c9, rfl, hc9, ho9, hr9, hq9⟩; obtain ⟨hb9, hB9⟩ := hB8.step hb8 hq9; have hC9 := hC8.below hq9 hC8.lt; have hd9 := bstep hd8 hq9; have hf9 := bstep hf8 hq9)
    | (go_at_call 14; refine (uint_at' hr9 (by rw [List.length_append, HLU.out]; omega) x lu 0 RU.out).mono ?_; rintro e w' ⟨rfl, rfl⟩))
  go_upto_region 10 with (go_at_call 22; refine (CAI.out _).mono ?_; rintro e w11 ⟨A11, c11, rfl, hc11, ho11, hr11, hq11⟩; obtain ⟨hb11, hB11⟩ := hB9.step hb9 hq11; have hC11 := hC9.below hq11 hC9.lt; have hd11 := bstep hd9 hq11; have he11 := bstep hq9 hq11; have hf11 := bstep hf9 hq11)
  go_upto_region 11 with (first
    | (go_at_call 20; refine (join_at hr11 (RB.out _ hb11) (by rw [HLI.out]; omega) (li + behind.length) (by rw [List.length_append, HLI.out])).mono ?_; rintro e w12 ⟨A12, c12, rfl, hc12, ho12, hr12, hq12⟩; obtain ⟨hb12, hB12⟩ := hB11.step hb11 hq12; have hC12 := hC11.below hq12 hC11.lt; have hd12 := bstep hd11 hq12; have he12 := bstep he11 hq12; have hf12 := bstep hf11 hq12)
    | (go_at_call 16; refine (int_at hr12 (by rw [List.length_append, HLI.out]; omega) y li 0 RI.out).mono ?_; rintro e w' ⟨rfl, rfl⟩))
  obtain ⟨q0, q1, q2, q3, q4⟩ := hB12.box5
  obtain ⟨p0, p1, p2, p3, p4⟩ := hC12.box5
  have hg6 : GVarg w12 w12.heap.size ⟨k, m, s, i, l⟩ I6 L6 ci6 cl6 :=
    { ri := (hri6.below hf12).more hf12.size, rl := (hrl6.below hf12).more hf12.size, hci := hi6, hcl := hl6, k64 := (HG.out _ hb12).k64, n64 := (HG.out _ hb12).n64, i64 := (HG.out _ hb12).i64, s40 := (HG.out _ hb12).s40, i40 := (HG.out _ hb12).i40, l40 := (HG.out _ hb12).l40, e40 := (HG.out _ hb12).e40 }
  have HS12 := Lib.hid (SV.out w12 I6 L6 ci6 cl6 w12.heap.size hg6 (HG.out _ hb12) (Nat.le_refl _))
  clear hB8 hB9 hB11 hC8 hC9 hC11 hg6
  go_wp2_with (first
    | (go_at_call 44; refine HS12.out.mono ?_; rintro e w13 ⟨rfl, hq13⟩; obtain ⟨hb13, hB13⟩ := hB12.step hb12 hq13; clear q0 q1 q2 q3 q4 p0 p1 p2 p3 p4; obtain ⟨q0, q1, q2, q3, q4⟩ := hB13.box5; have hd13 := bstep hd12 hq13; have he13 := bstep he12 hq13)
    | (go_at_call 45; refine (CAV2.out _ hb13).mono ?_; rintro e w14 ⟨A14, c14, rfl, hc14, ho14, hr14, hq14⟩; have hb14 := bstep hb13 hq14; have hd14 := bstep hd13 hq14; have he14 := bstep he13 hq14))
  refine (join_at (RA.out _ hb14) ((hr4.below hd14).more hd14.size) (by rw [HLV.out]; omega) (ahead.length + lv) (by rw [List.length_append, HLV.out])).mono ?_
  rintro e w15 ⟨A15, c15, rfl, hc15, ho15, hr15, hq15⟩
  have hb15 := bstep hb14 hq15
  have he15 := bstep he14 hq15
  go_wp2_with fail
  refine (same_at ((hr14.below hq15).more hq15.size) hr15 true (by simp)).mono ?_
  rintro e w' ⟨rfl, rfl⟩
  go_wp2_with fail
  refine (CAU2.out _ hb15).mono ?_
  rintro e w16 ⟨A16, c16, rfl, hc16, ho16, hr16, hq16⟩
  have hb16 := bstep hb15 hq16
  have he16 := bstep he15 hq16
  go_wp2_with fail
  refine (join_at (RA.out _ hb16) ((hr8.below (bstep hq9 (bstep hq11 (bstep hq12 (bstep hq13 (bstep hq14 (bstep hq15 hq16))))))).more (bstep hq9 (bstep hq11 (bstep hq12 (bstep hq13 (bstep hq14 (bstep hq15 hq16)))))).size) (by rw [HLU.out]; omega) (ahead.length + lu) (by rw [List.length_append, HLU.out])).mono ?_
  rintro e w17 ⟨A17, c17, rfl, hc17, ho17, hr17, hq17⟩
  have hb17 := bstep hb16 hq17
  go_wp2_with fail
  refine (same_at ((hr16.below hq17).more hq17.size) hr17 true (by simp)).mono ?_
  rintro e w' ⟨rfl, rfl⟩
  go_wp2_with fail
  go_ret
  exact ⟨rfl, hb17⟩
end Go.Proofs.YtklihjgmmliejaaDoor.W
