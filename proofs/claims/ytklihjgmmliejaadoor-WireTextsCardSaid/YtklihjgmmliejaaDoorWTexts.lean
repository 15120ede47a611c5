/- The walk of WireTexts: it returns true, whatever comes in. -/
import Derived.Test.YtklihjgmmliejaaDoorWRefL
import Derived.Test.YtklihjgmmliejaaDoorWMath6
namespace Go.Proofs.YtklihjgmmliejaaDoor.W
set_option linter.unusedVariables false
open Go.RowKit
open Go.Lib (byteCells byteCells_length byteCells_append byteCells_snoc)

theorem rdLoop_err {α : Type} {el : List UInt8 → α × Nat × Nat} {b : List UInt8} : ∀ (k : Nat) (out : List α) (n : Nat) (l : List α) (m e : Nat), rdLoop el b k out n = (l, m, e) → e ≠ 0 → l = []
  | 0, out, n, l, m, e, h, he => by simp [rdLoop] at h; omega
  | k + 1, out, n, l, m, e, h, he => by
    rw [rdLoop] at h
    split at h
    · simp at h; exact h.1
    · exact rdLoop_err k _ _ l m e h he
theorem rdL_err {α : Type} {el : List UInt8 → α × Nat × Nat} {b : List UInt8} {max : Int} {l : List α} {m e : Nat} (h : rdL el b max = (l, m, e)) (he : e ≠ 0) : l = [] := by
  unfold rdL at h
  split at h
  · simp at h; exact h.1
  · exact rdLoop_err _ _ _ l m e h he
theorem len_flat {α : Type} {f : α → List UInt8} (hf : ∀ x, 1 ≤ (f x).length) : ∀ l : List α, l.length ≤ (l.flatMap f).length
  | [] => by simp
  | x :: l => by
    have := len_flat hf l
    have := hf x
    rw [List.flatMap_cons, List.length_append, List.length_cons]; omega
theorem rdIs_len {b : List UInt8} {max : Int} {l : List Int} {n e : Nat} (h : rdIs b max = (l, n, e)) : l.length ≤ b.length := by
  by_cases he : e = 0
  · subst he
    obtain ⟨_, _, _, r, hb⟩ := rdIs_canon h
    have := len_flat (f := enI) (fun x => enU_pos _) l
    rw [hb, List.length_append, enIs, List.length_append]; omega
  · rw [rdL_err h he]; simp
theorem rdSs_len {b : List UInt8} {max : Int} {l : List (List UInt8)} {n e : Nat} (h : rdSs b max = (l, n, e)) : l.length ≤ b.length := by
  by_cases he : e = 0
  · subst he
    obtain ⟨_, _, _, r, hb⟩ := rdSs_canon h
    have := len_flat (f := enS) (fun x => by have := enU_pos x.length; rw [enS, List.length_append]; omega) l
    rw [hb, List.length_append, enSs, List.length_append]; omega
  · rw [rdL_err h he]; simp
theorem enSs_len2 {l : List (List UInt8)} (h : bigL l = false) : (l.flatMap enS).length ≤ 210 * l.length := by
  induction l with
  | nil => simp
  | cons x l ih =>
    simp only [bigL, List.any_cons, Bool.or_eq_false_iff, decide_eq_false_iff_not] at h
    have := ih h.2
    have h1 := h.1
    have := enU_len (x := x.length) (by omega)
    have : (enS x).length = (enU x.length).length + x.length := List.length_append
    rw [List.flatMap_cons, List.length_append, List.length_cons]; omega
/-- A decoded list, written out. -/
def RowT (w : World) (xs : List Value) (k n err : Nat) (en : Ending) (w' : World) : Prop :=
  ∃ A c, en = .returned (.tuple #[.slice A k c, .int .i64 n, .int .i64 err]) ∧ k ≤ c ∧ Reads w' w'.heap.size 1 A k xs ∧ Below w.heap.size w w'
theorem ListPost.to {w : World} {e : TypeId} {xs : List Value} {n err : Nat} {en : Ending} {w' : World} (h : ListPost w e xs n err en w') (k : Nat) (hk : xs.length = k) : RowT w xs k n err en w' := by
  subst hk
  obtain ⟨v, he, ho, hb⟩ := h
  obtain ⟨L, d, rfl, hd, hL⟩ := SliceOf.of_own ho
  exact ⟨L, d, he, hd, hL, hb⟩
section
variable {A A' : Option Addr} {c c' n B B' : Nat} {bs : List UInt8} {w : World}
theorem tString_at (max : Int) (hr : Reads w B 1 A bs.length (byteCells bs)) (hn : bs.length ≤ 2000) (hcap : bs.length ≤ c) (hmax : In64 max) (s : List UInt8) (k e : Nat) (h : rdS bs max = (s, k, e)) :
    Calls Tryd.prog 24 #[.slice A bs.length c, .int .i64 max] w fun e' w' => e' = .returned (.tuple #[.string ⟨s.toArray⟩, .int .i64 k, .int .i64 e]) ∧ w = w' := by
  have h1 := string_any A c B bs max w hr (by omega) hcap hmax
  rw [h] at h1
  exact h1
theorem tRefString_at (max : Int) (hr : Reads w B 1 A bs.length (byteCells bs)) (hn : bs.length ≤ 2000) (hcap : bs.length ≤ c) (hmax : In64 max) (s : List UInt8) (k e : Nat) (h : rdS bs max = (s, k, e)) :
    Calls Tryd.prog 25 #[.slice A bs.length c, .int .i64 max] w fun e' w' => e' = .returned (.tuple #[.string ⟨s.toArray⟩, .int .i64 k, .int .i64 e]) ∧ w = w' := by
  have h1 := refReadString_any A c B bs max w hr (by omega) hcap hmax
  rw [h] at h1
  exact h1
theorem tInts_at (max : Int) (hr : Reads w w.heap.size 1 A bs.length (byteCells bs)) (hn : bs.length ≤ 2000) (hcap : bs.length ≤ c) (hmax : In64 max) (l : List Int) (q k e : Nat) (hq : l.length = q) (h : rdIs bs max = (l, k, e)) :
    Calls Tryd.prog 26 #[.slice A bs.length c, .int .i64 max] w (RowT w (l.map intV) q k e) := by
  have h1 := IntList_any A c bs max w hr (by omega) hcap hmax
  rw [h] at h1
  exact h1.mono fun _ _ h => h.to q (by simpa using hq)
theorem tRefInts_at (max : Int) (hr : Reads w w.heap.size 1 A bs.length (byteCells bs)) (hn : bs.length ≤ 2000) (hcap : bs.length ≤ c) (hmax : In64 max) (l : List Int) (q k e : Nat) (hq : l.length = q) (h : rdIs bs max = (l, k, e)) :
    Calls Tryd.prog 27 #[.slice A bs.length c, .int .i64 max] w (RowT w (l.map intV) q k e) := by
  have h1 := refReadIntList_any A c bs max w hr (by omega) hcap hmax
  rw [h] at h1
  exact h1.mono fun _ _ h => h.to q (by simpa using hq)
theorem tStrs_at (max : Int) (hr : Reads w w.heap.size 1 A bs.length (byteCells bs)) (hn : bs.length ≤ 2000) (hcap : bs.length ≤ c) (hmax : In64 max) (l : List (List UInt8)) (q k e : Nat) (hq : l.length = q) (h : rdSs bs max = (l, k, e)) :
    Calls Tryd.prog 28 #[.slice A bs.length c, .int .i64 max] w (RowT w (l.map strV) q k e) := by
  have h1 := StringList_any A c bs max w hr (by omega) hcap hmax
  rw [h] at h1
  exact h1.mono fun _ _ h => h.to q (by simpa using hq)
theorem tRefStrs_at (max : Int) (hr : Reads w w.heap.size 1 A bs.length (byteCells bs)) (hn : bs.length ≤ 2000) (hcap : bs.length ≤ c) (hmax : In64 max) (l : List (List UInt8)) (q k e : Nat) (hq : l.length = q) (h : rdSs bs max = (l, k, e)) :
    Calls Tryd.prog 29 #[.slice A bs.length c, .int .i64 max] w (RowT w (l.map strV) q k e) := by
  have h1 := refReadStringList_any A c bs max w hr (by omega) hcap hmax
  rw [h] at h1
  exact h1.mono fun _ _ h => h.to q (by simpa using hq)
theorem tSameI_at {l : List Int} (ha : Reads w B 1 A n (l.map intV)) (hb : Reads w B' 1 A' n (l.map intV)) (hl : n ≤ 2000) :
    Calls Tryd.prog 30 #[.slice A n c, .slice A' n c'] w fun e w' => e = .returned (.bool true) ∧ Below w.heap.size w w' := by
  have hn : l.length = n := by have := ha.1; simpa using this
  subst hn
  refine (refSameInts_any A A' c c' B B' l l w ha hb (by omega) (by omega)).mono fun e w' ⟨he, k, hk⟩ => ⟨by rw [he]; simp, ?_⟩
  rw [hk]; exact below_drewN (Below.refl _ _) k
theorem tSameS_at {l : List (List UInt8)} (ha : Reads w B 1 A n (l.map strV)) (hb : Reads w B' 1 A' n (l.map strV)) (hl : n ≤ 2000) :
    Calls Tryd.prog 31 #[.slice A n c, .slice A' n c'] w fun e w' => e = .returned (.bool true) ∧ Below w.heap.size w w' := by
  have hn : l.length = n := by have := ha.1; simpa using this
  subst hn
  refine (refSameStrings_any A A' c c' B B' l l w ha hb (by omega) (by omega)).mono fun e w' ⟨he, k, hk⟩ => ⟨by rw [he]; simp, ?_⟩
  rw [hk]; exact below_drewN (Below.refl _ _) k
end


theorem len_str (l : List UInt8) : (ByteArray.mk l.toArray).size = l.length := by show l.toArray.size = _; simp
set_option maxRecDepth 100000 in
set_option maxHeartbeats 1000000 in
theorem texts_no (A I L : Option Addr) (c d g n nl nt : Nat) (s : List UInt8) (max : Int) (w : World) (ht : Tab w) (hbad : 2000 < n ∨ 500 < s.length ∨ 100 < nl ∨ 100 < nt) (hn : n ≤ 9223372036854775807) (hs : s.length ≤ 9223372036854775807) (hnl : nl ≤ 9223372036854775807) (hnt : nt ≤ 9223372036854775807) :
    Calls Tryd.prog 4 #[.slice A n c, .string ⟨s.toArray⟩, .slice I nl d, .slice L nt g, .int .i64 max] w fun e w' => e = .returned (.bool true) ∧ Below w.heap.size w w' := by
  have CA := Lib.hid (awake_any _ ht)
  have hls := len_str s
  clear ht
  by_cases h0 : 2000 < n
  · have f0 : (2000 : Int) < (n : Int) := by omega
    clear hbad h0
    go_enter Tryd.func4, Tryd.ntmps4
    go_wp2_with (go_at_call 13; refine CA.out.mono ?_; rintro e w1 ⟨rfl, hq1⟩)
    go_ret
    exact ⟨rfl, hq1⟩
  have f0 : ¬ (2000 : Int) < (n : Int) := by omega
  by_cases h1 : 500 < s.length
  · have f1 : (500 : Int) < (s.length : Int) := by omega
    clear hbad h1
    go_enter Tryd.func4, Tryd.ntmps4
    go_wp2_with (go_at_call 13; refine CA.out.mono ?_; rintro e w1 ⟨rfl, hq1⟩)
    go_ret
    exact ⟨rfl, hq1⟩
  have f1 : ¬ (500 : Int) < (s.length : Int) := by omega
  by_cases h2 : 100 < nl
  · have f2 : (100 : Int) < (nl : Int) := by omega
    clear hbad h2
    go_enter Tryd.func4, Tryd.ntmps4
    go_wp2_with (go_at_call 13; refine CA.out.mono ?_; rintro e w1 ⟨rfl, hq1⟩)
    go_ret
    exact ⟨rfl, hq1⟩
  have f2 : ¬ (100 : Int) < (nl : Int) := by omega
  by_cases h3 : 100 < nt
  · have f3 : (100 : Int) < (nt : Int) := by omega
    clear hbad h3
    go_enter Tryd.func4, Tryd.ntmps4
    go_wp2_with (go_at_call 13; refine CA.out.mono ?_; rintro e w1 ⟨rfl, hq1⟩)
    go_ret
    exact ⟨rfl, hq1⟩
  have f3 : ¬ (100 : Int) < (nt : Int) := by omega
  omega

set_option maxRecDepth 100000 in
set_option maxHeartbeats 4000000 in
theorem texts_yes (A I L : Option Addr) (c d g : Nat) (bs s : List UInt8) (l : List Int) (t : List (List UInt8)) (max : Int) (w : World) (ht : Tab w)
    (ha : Reads w w.heap.size 1 A bs.length (byteCells bs)) (hI : Reads w w.heap.size 1 I l.length (l.map intV)) (hL : Reads w w.heap.size 1 L t.length (t.map strV)) (hcap : bs.length ≤ c) (hmax : In64 max)
    (hel : ∀ x ∈ l, In64 x) (hes : ∀ x ∈ t, x.length ≤ 9223372036854775807) (hn : bs.length ≤ 2000) (hs : s.length ≤ 500) (hnl : l.length ≤ 100) (hnt : t.length ≤ 100) :
    Calls Tryd.prog 4 #[.slice A bs.length c, .string ⟨s.toArray⟩, .slice I l.length d, .slice L t.length g, .int .i64 max] w fun e w' => e = .returned (.bool true) ∧ Below w.heap.size w w' := by
  have CA := Lib.hid (awake_any _ ht)
  have hls := len_str s
  have f1 : ¬ (2000 : Int) < (bs.length : Int) := by omega
  have f2 : ¬ (500 : Int) < (s.length : Int) := by omega
  have f3 : ¬ (100 : Int) < (l.length : Int) := by omega
  have f4 : ¬ (100 : Int) < (t.length : Int) := by omega
  have RA := Lib.hid (fun W (hW : Below w.heap.size w W) => (ha.below hW).more hW.size)
  have RI := Lib.hid (fun W (hW : Below w.heap.size w W) => (hI.below hW).more hW.size)
  have RL := Lib.hid (fun W (hW : Below w.heap.size w W) => (hL.below hW).more hW.size)
  obtain ⟨⟨xs, xn, xe⟩, hx⟩ : ∃ r, rdS bs max = r := ⟨_, rfl⟩
  obtain ⟨⟨ps, pn, pe⟩, hp⟩ : ∃ r, rdIs bs max = r := ⟨_, rfl⟩
  obtain ⟨⟨us, un, ue⟩, hu⟩ : ∃ r, rdSs bs max = r := ⟨_, rfl⟩
  obtain ⟨kp, hkp⟩ : ∃ kp, ps.length = kp := ⟨_, rfl⟩
  obtain ⟨ku, hku⟩ : ∃ ku, us.length = ku := ⟨_, rfl⟩
  have hpl : kp ≤ 2000 := by have := rdIs_len hp; omega
  have hul : ku ≤ 2000 := by have := rdSs_len hu; omega
  have C1 := Lib.hid (fun W (hW : Below w.heap.size w W) => tString_at (c := c) max (RA.out W hW) hn hcap hmax xs xn xe hx)
  have C2 := Lib.hid (fun W (hW : Below w.heap.size w W) => tRefString_at (c := c) max (RA.out W hW) hn hcap hmax xs xn xe hx)
  have C3 := Lib.hid (fun W (hW : Below w.heap.size w W) => tInts_at (c := c) max (RA.out W hW) hn hcap hmax ps kp pn pe hkp hp)
  have C4 := Lib.hid (fun W (hW : Below w.heap.size w W) => tRefInts_at (c := c) max (RA.out W hW) hn hcap hmax ps kp pn pe hkp hp)
  have C5 := Lib.hid (fun W (hW : Below w.heap.size w W) => tStrs_at (c := c) max (RA.out W hW) hn hcap hmax us ku un ue hku hu)
  have C6 := Lib.hid (fun W (hW : Below w.heap.size w W) => tRefStrs_at (c := c) max (RA.out W hW) hn hcap hmax us ku un ue hku hu)
  have hlS : (enS s).length ≤ 520 := by
    have := enU_len (x := s.length) (by omega)
    rw [enS, List.length_append]; omega
  have hlI : (enIs l).length ≤ 1100 := by
    have := enU_len (x := l.length) (by omega)
    have := enIs_len hel
    rw [enIs, List.length_append]; omega
  have hlL : bigL t = false → (enSs t).length ≤ 21100 := fun hb => by
    have := enU_len (x := t.length) (by omega)
    have := enSs_len2 hb
    rw [enSs, List.length_append]; omega
  obtain ⟨mS, hmS⟩ : ∃ m, (bs ++ enS s).length = m := ⟨_, rfl⟩
  obtain ⟨mI, hmI⟩ : ∃ m, (bs ++ enIs l).length = m := ⟨_, rfl⟩
  obtain ⟨mL, hmL⟩ : ∃ m, (bs ++ enSs t).length = m := ⟨_, rfl⟩
  have E1 := Lib.hid (fun W (hW : Below w.heap.size w W) => (AppendStr_any A c bs s W (RA.out W hW) (by omega) (by omega)).mono fun _ _ h => h.to _ mS rfl hmS)
  have E2 := Lib.hid (fun W => (refStr_any s W (by omega)).mono fun _ _ h => h.to (enS s) (enS s).length rfl rfl)
  have E3 := Lib.hid (fun W (hW : Below w.heap.size w W) => (AppendInts_any A I c d bs l W (RA.out W hW) (RI.out W hW) (by omega) (by omega) hel).mono fun _ _ h => h.to _ mI rfl hmI)
  have E4 := Lib.hid (fun W (hW : Below w.heap.size w W) => (refIntsList_any I d l W (RI.out W hW) (by omega) (by omega) hel).mono fun _ _ h => h.to (enIs l) (enIs l).length rfl rfl)
  have E5 := Lib.hid (fun (hb : bigL t = false) W (hW : Below w.heap.size w W) => (AppendStrings_any A L c g bs t W (RA.out W hW) (RL.out W hW) (by have := hlL hb; omega) (by omega)).mono fun _ _ h => h.to _ mL rfl hmL)
  have E6 := Lib.hid (fun (hb : bigL t = false) W (hW : Below w.heap.size w W) => (refStringsList_any L g t W (RL.out W hW) (by have := hlL hb; omega) (by omega)).mono fun _ _ h => h.to (enSs t) (enSs t).length rfl rfl)
  have J1 := Lib.hid (fun W (hW : Below w.heap.size w W) A' c' (h : Reads W W.heap.size 1 A' (enS s).length (byteCells (enS s))) => join_at (c := c) (c' := c') (RA.out W hW) h (by omega) mS hmS)
  have J2 := Lib.hid (fun W (hW : Below w.heap.size w W) A' c' (h : Reads W W.heap.size 1 A' (enIs l).length (byteCells (enIs l))) => join_at (c := c) (c' := c') (RA.out W hW) h (by omega) mI hmI)
  have J3 := Lib.hid (fun (hb : bigL t = false) W (hW : Below w.heap.size w W) A' c' (h : Reads W W.heap.size 1 A' (enSs t).length (byteCells (enSs t))) => join_at (c := c) (c' := c') (RA.out W hW) h (by have := hlL hb; omega) mL hmL)
  dsimp only [strV] at E1 E2
  generalize enS s = ES at *
  generalize enIs l = EI at *
  generalize enSs t = EL at *
  generalize ES.length = lS at *
  generalize EI.length = lI at *
  generalize EL.length = lL at *
  have e40 := Lib.hid hes
  have RL2 := Lib.hid hL
  clear ht ha hI hx hp hu hkp hku hmS hmI hmL hlL hel hes hL
  go_enter Tryd.func4, Tryd.ntmps4
  go_wp2_with (go_at_call 13; refine CA.out.mono ?_; rintro e w1 ⟨rfl, hb1⟩)
  all_goals try (exfalso; omega)
  have hrl := RL.out w1 hb1
  go_loop [11] (fun j => ∃ q : Nat, q ≤ t.length ∧ j = .int .i64 q ∧ bigL t = bigL (t.drop q)) (fun j => t.length - (intOf j).toNat)
  case atStart => exact ⟨0, Nat.zero_le _, rfl, rfl⟩
  case round =>
    obtain ⟨q, hq, rfl, hd⟩ := hrel
    by_cases hlt : q < t.length
    · obtain ⟨ad, u, rfl, _, hx, hcell⟩ := hrl.at_ hlt
      have hux : u = .string ⟨(t[q]).toArray⟩ := by simp [hlt, strV] at hx; exact hx.symm
      rw [hux] at hcell
      have hdk : t.drop q = t[q] :: t.drop (q + 1) := List.drop_eq_getElem_cons hlt
      have hxs := e40.out t[q] (List.getElem_mem hlt)
      generalize t[q] = x at *
      rw [hdk] at hd
      have HD := Lib.hid hd
      have hlx := len_str x
      clear hd hdk hx hux
      have hlt2 : (q : Int) < (t.length : Int) := by omega
      by_cases hb : 200 < x.length
      · have hb2 : (200 : Int) < (x.length : Int) := by omega
        go_wp2_with fail
        go_ret
        exact ⟨rfl, hb1⟩
      · have hT := Lib.hid (show bigL t = bigL (t.drop (q + 1)) by rw [HD.out]; simp [bigL, hb])
        have hb2 : ¬ (200 : Int) < (x.length : Int) := by omega
        go_wp2_with fail
        go_round
        case rel => exact ⟨q + 1, by omega, by go_num, hT.out⟩
        case measure => simp [intOf]; omega
    · have hT : bigL t = false := by rw [hd, List.drop_eq_nil_of_le (by omega)]; rfl
      have D5 := Lib.hid (E5.out hT)
      have D6 := Lib.hid (E6.out hT)
      have D3 := Lib.hid (J3.out hT)
      clear hd hT E5 E6 J3 hrl
      have hlt2 : ¬ (q : Int) < (t.length : Int) := by omega
      go_wp2_with (first
        | (go_at_call 24; (with_reducible refine (C1.out _ hb1).mono ?_); rintro e wz ⟨rfl, rfl⟩)
        | (go_at_call 25; (with_reducible refine (C2.out _ hb1).mono ?_); rintro e wz ⟨rfl, rfl⟩)
        | (go_at_call 26; (with_reducible refine (C3.out _ hb1).mono ?_); rintro e w2 ⟨A2, c2, rfl, hc2, hr2, hq2⟩; (have hb2 := bstep hb1 hq2))
        | (go_at_call 27; (with_reducible refine (C4.out _ hb2).mono ?_); rintro e w3 ⟨A3, c3, rfl, hc3, hr3, hq3⟩; (have hb3 := bstep hb2 hq3); (have hr2b := (hr2.below hq3).more hq3.size))
        | (go_at_call 28; (with_reducible refine (C5.out _ hb3).mono ?_); rintro e w4 ⟨A4, c4, rfl, hc4, hr4, hq4⟩; (have hb4 := bstep hb3 hq4); (have hr2c := (hr2b.below hq4).more hq4.size); (have hr3c := (hr3.below hq4).more hq4.size))
        | (go_at_call 29; (with_reducible refine (C6.out _ hb4).mono ?_); rintro e w5 ⟨A5, c5, rfl, hc5, hr5, hq5⟩; (have hb5 := bstep hb4 hq5); (have hr2d := (hr2c.below hq5).more hq5.size); (have hr3d := (hr3c.below hq5).more hq5.size); (have hr4d := (hr4.below hq5).more hq5.size); clear hr2 hr2b hr2c hr3 hr3c hr4)
        | (go_at_call 30; (with_reducible refine (tSameI_at hr2d hr3d hpl).mono ?_); rintro e w6 ⟨rfl, hq6⟩; (have hb6 := bstep hb5 hq6); (have hr4e := (hr4d.below hq6).more hq6.size); (have hr5e := (hr5.below hq6).more hq6.size); clear hr2d hr3d hr4d hr5)
        | (go_at_call 31; (with_reducible refine (tSameS_at hr4e hr5e hul).mono ?_); rintro e w7 ⟨rfl, hq7⟩; (have hb7 := bstep hb6 hq7); clear hr4e hr5e)
        | (go_at_call 32; (with_reducible refine (E1.out _ hb7).mono ?_); rintro e w8 ⟨A8, c8, rfl, hc8, ho8, hr8, hq8⟩; (have hb8 := bstep hb7 hq8))
        | (go_at_call 33; (with_reducible refine (E2.out _).mono ?_); rintro e w9 ⟨A9, c9, rfl, hc9, ho9, hr9, hq9⟩; (have hb9 := bstep hb8 hq9); (have hr8b := (hr8.below hq9).more hq9.size))
        | (go_at_call 20; (with_reducible refine (J1.out _ hb9 _ _ hr9).mono ?_); rintro e w10 ⟨A10, c10, rfl, hc10, ho10, hr10, hq10⟩; (have hb10 := bstep hb9 hq10); (have hr8c := (hr8b.below hq10).more hq10.size))
        | (go_at_call 18; (with_reducible refine (same_at hr8c hr10 true (by simp)).mono ?_); rintro e wz ⟨rfl, rfl⟩; clear hr8 hr8b hr8c hr9 hr10 ho8 ho9 ho10)
        | (go_at_call 34; (with_reducible refine (E3.out _ hb10).mono ?_); rintro e w11 ⟨A11, c11, rfl, hc11, ho11, hr11, hq11⟩; (have hb11 := bstep hb10 hq11))
        | (go_at_call 35; (with_reducible refine (E4.out _ hb11).mono ?_); rintro e w12 ⟨A12, c12, rfl, hc12, ho12, hr12, hq12⟩; (have hb12 := bstep hb11 hq12); (have hr11b := (hr11.below hq12).more hq12.size))
        | (go_at_call 20; (with_reducible refine (J2.out _ hb12 _ _ hr12).mono ?_); rintro e w13 ⟨A13, c13, rfl, hc13, ho13, hr13, hq13⟩; (have hb13 := bstep hb12 hq13); (have hr11c := (hr11b.below hq13).more hq13.size))
        | (go_at_call 18; (with_reducible refine (same_at hr11c hr13 true (by simp)).mono ?_); rintro e wz ⟨rfl, rfl⟩; clear hr11 hr11b hr11c hr12 hr13 ho11 ho12 ho13)
        | (go_at_call 36; (with_reducible refine (D5.out _ hb13).mono ?_); rintro e w14 ⟨A14, c14, rfl, hc14, ho14, hr14, hq14⟩; (have hb14 := bstep hb13 hq14))
        | (go_at_call 37; (with_reducible refine (D6.out _ hb14).mono ?_); rintro e w15 ⟨A15, c15, rfl, hc15, ho15, hr15, hq15⟩; (have hb15 := bstep hb14 hq15); (have hr14b := (hr14.below hq15).more hq15.size))
        | (go_at_call 20; (with_reducible refine (D3.out _ hb15 _ _ hr15).mono ?_); rintro e w16 ⟨A16, c16, rfl, hc16, ho16, hr16, hq16⟩; (have hb16 := bstep hb15 hq16); (have hr14c := (hr14b.below hq16).more hq16.size))
        | (go_at_call 18; (with_reducible refine (same_at hr14c hr16 true (by simp)).mono ?_); rintro e wz ⟨rfl, rfl⟩; clear hr14 hr14b hr14c hr15 hr16 ho14 ho15 ho16))
      go_ret
      exact ⟨rfl, hb16⟩
end Go.Proofs.YtklihjgmmliejaaDoor.W
