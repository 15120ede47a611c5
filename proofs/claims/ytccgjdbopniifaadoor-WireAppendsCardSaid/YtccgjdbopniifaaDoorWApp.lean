/- The walk of WireAppends: it returns true, whatever comes in. -/
import Derived.Test.YtccgjdbopniifaaDoorWRound
import Derived.Deep.RegionHeld3
namespace Go.Proofs.YtccgjdbopniifaaDoor.W
set_option linter.unusedVariables false
open Go.RowKit
open Go.Lib (byteCells byteCells_length byteCells_append byteCells_snoc)

set_option maxRecDepth 100000 in
set_option maxHeartbeats 1000000 in
theorem app_no (v : GV) (I L : Option Addr) (ci cl : Nat) (x : Nat) (s4 : ByteArray) (A A' : Option Addr) (c c' n n' : Nat) (w : World) (hv : GVraw w w.heap.size v I L ci cl) (ht : Tab w)
    (hbad : 300 < n ∨ 300 < n' ∨ smallV v = false ∨ 200 < s4.size) (hn : n ≤ 9223372036854775807) (hn' : n' ≤ 9223372036854775807) (hs4 : s4.size ≤ 9223372036854775807) :
    Calls Tryd.prog 12 #[.slice A n c, .slice A' n' c', gvV v I L ci cl, .int .u64 x, .string s4] w fun e w' => e = .returned (.bool true) ∧ Below w.heap.size w w' := by
  have hb0 := (Below.refl w.heap.size w).alloc (Nat.le_refl _) (.cells (box v I L ci cl) 55)
  have CA := Lib.hid (awake_any _ (ht.on hb0))
  have CS := Lib.hid (fun W (hW : Below w.heap.size w W) => small_any v I L ci cl w.heap.size W (hv.below hW) hW.size)
  obtain ⟨k, m, s, i, l⟩ := v
  dsimp only [gvV, strV, box] at *
  have hB0 := Lib.hid (Blk.new w 55 #[.int .i64 k, .int .i64 m, .string ⟨s.toArray⟩, .slice I i.length ci, .slice L l.length cl])
  clear hv ht
  by_cases h1 : 300 < n
  · have f1 : (300 : Int) < (n : Int) := by omega
    clear hbad
    go_enter Tryd.func12, Tryd.ntmps12
    go_wp2_with (go_at_call 13; refine CA.out.mono ?_; rintro e w1 ⟨rfl, hq1⟩; obtain ⟨hb1, hB1⟩ := hB0.out.step hb0 hq1; obtain ⟨q0, q1, q2, q3, q4⟩ := hB1.box5)
    go_ret
    exact ⟨rfl, hb1⟩
  have f1 : ¬ (300 : Int) < (n : Int) := by omega
  by_cases h2 : 300 < n'
  · have f2 : (300 : Int) < (n' : Int) := by omega
    clear hbad h1
    go_enter Tryd.func12, Tryd.ntmps12
    go_wp2_with (go_at_call 13; refine CA.out.mono ?_; rintro e w1 ⟨rfl, hq1⟩; obtain ⟨hb1, hB1⟩ := hB0.out.step hb0 hq1; obtain ⟨q0, q1, q2, q3, q4⟩ := hB1.box5)
    all_goals (go_ret; exact ⟨rfl, hb1⟩)
  have f2 : ¬ (300 : Int) < (n' : Int) := by omega
  cases hsm : smallV ⟨k, m, s, i, l⟩
  · rw [hsm] at CS
    clear hbad h1 h2 hsm
    go_enter Tryd.func12, Tryd.ntmps12
    go_wp2_with (first
      | (go_at_call 13; refine CA.out.mono ?_; rintro e w1 ⟨rfl, hq1⟩; obtain ⟨hb1, hB1⟩ := hB0.out.step hb0 hq1; obtain ⟨q0, q1, q2, q3, q4⟩ := hB1.box5)
      | (go_at_call 38; refine (CS.out _ hb1).mono ?_; rintro e w2 ⟨rfl, hq2⟩; obtain ⟨hb2, hB2⟩ := hB1.step hb1 hq2; clear q0 q1 q2 q3 q4; obtain ⟨q0, q1, q2, q3, q4⟩ := hB2.box5))
    all_goals (go_ret; first | exact ⟨rfl, hb2⟩ | exact ⟨rfl, hb1⟩)
  · rw [hsm] at CS
    have f3 : (200 : Int) < (s4.size : Int) := by
      rcases hbad with h | h | h | h
      · omega
      · omega
      · rw [hsm] at h; cases h
      · omega
    clear hbad h1 h2 hsm
    go_enter Tryd.func12, Tryd.ntmps12
    go_wp2_with (first
      | (go_at_call 13; refine CA.out.mono ?_; rintro e w1 ⟨rfl, hq1⟩; obtain ⟨hb1, hB1⟩ := hB0.out.step hb0 hq1; obtain ⟨q0, q1, q2, q3, q4⟩ := hB1.box5)
      | (go_at_call 38; refine (CS.out _ hb1).mono ?_; rintro e w2 ⟨rfl, hq2⟩; obtain ⟨hb2, hB2⟩ := hB1.step hb1 hq2; clear q0 q1 q2 q3 q4; obtain ⟨q0, q1, q2, q3, q4⟩ := hB2.box5))
    all_goals (go_ret; first | exact ⟨rfl, hb2⟩ | exact ⟨rfl, hb1⟩)
theorem slice_to0 {w : World} {B n c k : Nat} {A : Option Addr} {bs : List UInt8} (h : Reads w B 1 A n (byteCells bs)) (hn : n ≤ c) (hk : k ≤ n) :
    ∀ (W : World), (Instr.slice 22 (.slice A n c) none (some (.int .i64 (k : Int))) none).run Tryd.prog W = .ok (.slice A k c) W := by
  intro W
  rw [run_slice_h W 22 A n c (by simp [go_sem]) .i64 k (by omega) (by omega)]
  simp [go_sem]
theorem appendString_at {A : Option Addr} {c n : Nat} {s : ByteArray} {bs : List UInt8} {w : World} (hr : Reads w w.heap.size 1 A n (byteCells bs)) (hl : bs.length ≤ 1099511627776) (hs : s.size ≤ 1099511627776) (m : Nat) (hm : (bs ++ enS s.data.toList).length = m) :
    Calls Tryd.prog 32 #[.slice A n c, .string s] w (OwnS w.heap.size w (bs ++ enS s.data.toList) m) := by
  obtain rfl := hr.len
  exact (AppendString_any A c bs s w hr hl hs).mono fun _ _ h => h.to _ m rfl hm
theorem enS_pos (s : List UInt8) : 0 < (enS s).length := by
  have := enU_pos s.length
  unfold enS
  rw [List.length_append]; omega
theorem enV_pos' (v : GV) : 0 < (enV v).length := by
  unfold enV
  rw [List.length_cons]; omega
theorem take_of {a b : List UInt8} {k : Nat} (h : k = a.length) : (a ++ b).take k = a := by subst h; exact List.take_left

set_option maxRecDepth 100000 in
set_option maxHeartbeats 2000000 in
theorem app_yes (v : GV) (I L : Option Addr) (ci cl : Nat) (x : Nat) (s4 : ByteArray) (A A' : Option Addr) (c c' n n' : Nat) (b room : List UInt8) (w : World) (hv : GVraw w w.heap.size v I L ci cl) (ht : Tab w)
    (ha : Reads w w.heap.size 1 A n (byteCells b)) (hb : Reads w w.heap.size 1 A' n' (byteCells room)) (hx : x < 18446744073709551616)
    (hsm : smallV v = true) (hok : v.ok = true) (hn : n ≤ 300) (hn' : n' ≤ 300) (hs4 : s4.size ≤ 200) :
    Calls Tryd.prog 12 #[.slice A n c, .slice A' n' c', gvV v I L ci cl, .int .u64 x, .string s4] w fun e w' => e = .returned (.bool true) ∧ Below w.heap.size w w' := by
  have hb0 := (Below.refl w.heap.size w).alloc (Nat.le_refl _) (.cells (box v I L ci cl) 55)
  obtain rfl := ha.len
  have hlr := hb.len
  have CA := Lib.hid (awake_any _ (ht.on hb0))
  have CS := Lib.hid (fun W (hW : Below w.heap.size w W) => small_any v I L ci cl w.heap.size W (hv.below hW) hW.size)
  rw [hsm] at CS
  have hg := hv.arg hsm
  have CV2 := Lib.hid (fun W (hW : Below w.heap.size w W) => valid_any v I L ci cl w.heap.size W (hg.below hW) hW.size)
  rw [hok] at CV2
  have hul := enU_len hx
  have hup := enU_pos x
  have hsp := enS_pos s4.data.toList
  have hsl : (enS s4.data.toList).length ≤ 300 := by
    have h1 : (enS s4.data.toList).length = (enU s4.data.toList.length).length + s4.data.toList.length := List.length_append
    have h2 : s4.data.toList.length = s4.size := by simp
    have h3 := enU_len (x := s4.data.toList.length) (by omega)
    omega
  obtain ⟨na, hna⟩ : ∃ na, na = b.length + (enU x).length := ⟨_, rfl⟩
  obtain ⟨nc, hnc⟩ : ∃ nc, nc = b.length + (enS s4.data.toList).length := ⟨_, rfl⟩
  have hvl := enV_small hok hg.i64 hg.n64
  have hvp := enV_pos' v
  obtain ⟨nd, hnd⟩ : ∃ nd, nd = b.length + (enV v).length := ⟨_, rfl⟩
  have CV := Lib.hid (fun (W : World) (Ax : Option Addr) (cx : Nat) (hW : Below w.heap.size w W) (h : Reads W W.heap.size 1 Ax b.length (byteCells b)) => appendValue_at (c := cx) h ((hg.below hW).more hW.size) (by omega) hok nd (by rw [hnd]; simp))
  generalize hEV : enV v = EV at *
  generalize hLV : EV.length = lv at *
  have g3 : (b.length : Int) < (nd : Int) := by omega
  have n3 : nd ≤ 2400 := by omega
  have h3 : b.length ≤ nd := by omega
  clear hnd
  have JN := Lib.hid (fun W (hW : Below w.heap.size w W) => join_at (c := c) (c' := c') (w := W) ((ha.below hW).more hW.size) ((hb.below hW).more hW.size) (by omega) (b.length + n') (by rw [List.length_append, hlr]))
  have cu0 := fun (W : World) (Ax : Option Addr) (cx : Nat) (h : Reads W W.heap.size 1 Ax b.length (byteCells b)) => appendUint_at (c := cx) h (by omega) hx na (by rw [hna]; simp)
  have CU := Lib.hid cu0
  have CT := Lib.hid (fun (W : World) (Ax : Option Addr) (cx : Nat) (h : Reads W W.heap.size 1 Ax b.length (byteCells b)) => appendString_at (c := cx) (s := s4) h (by omega) (by omega) nc (by rw [hnc]; simp))
  have cn0 := fun (W : World) => appendString_at (c := 0) (A := none) (bs := []) (s := s4) (w := W) Reads.nothing (by simp) (by omega) (enS s4.data.toList).length (by simp)
  simp only [List.nil_append] at cn0
  have CN := Lib.hid cn0
  clear cu0 cn0
  have RA := Lib.hid (fun W (hW : Below w.heap.size w W) => (ha.below hW).more hW.size)
  have hh1 : ¬ (300 : Int) < (b.length : Int) := by omega
  have hh2 : ¬ (300 : Int) < (n' : Int) := by omega
  have hh3 : ¬ (200 : Int) < (s4.size : Int) := by omega
  generalize hEU : enU x = EU at *
  generalize hES : enS s4.data.toList = ES at *
  generalize hLU : EU.length = lu at *
  generalize hLS : ES.length = ls at *
  have hB0 := Lib.hid (Blk.new w 55 (box v I L ci cl))
  have g1 : (b.length : Int) < (na : Int) := by omega
  have g2 : ((nc : Int) == (ls : Int) + (b.length : Int)) = true := beqT (by omega)
  have h1 : b.length ≤ na := by omega
  have h2 : b.length ≤ nc := by omega
  clear hna hnc
  have hvv : gvV v I L ci cl = .agg (box v I L ci cl) := rfl
  obtain ⟨k, m, s, i, l⟩ := v
  dsimp only [gvV, strV, box] at *
  clear hv ht hg hsm hok hEU hES ha hb hvv hEV hLV hLU hLS hlr
  go_enter Tryd.func12, Tryd.ntmps12
  go_upto_region 6 with (first
    | (go_at_call 13; refine CA.out.mono ?_; rintro e w1 ⟨rfl, hq1⟩; obtain ⟨hb1, hB1⟩ := hB0.out.step hb0 hq1; obtain ⟨q0, q1, q2, q3, q4⟩ := hB1.box5)
    | (go_at_call 38; refine (CS.out _ hb1).mono ?_; rintro e w2 ⟨rfl, hq2⟩; obtain ⟨hb2, hB2⟩ := hB1.step hb1 hq2; clear q0 q1 q2 q3 q4; obtain ⟨q0, q1, q2, q3, q4⟩ := hB2.box5)
    | (go_at_call 20; refine (JN.out _ hb2).mono ?_; rintro e w5 ⟨A5, c5, rfl, hc5, ho5, hr5, hq5⟩; obtain ⟨hb5, hB5⟩ := hB2.step hb2 hq5))
  have hs5 := run_str (P := Tryd.prog) Tryd.underlying22 Tryd.underlying5 Tryd.underlying9 hr5 c5
  have hsl5 := slice_to0 hr5 hc5 (k := b.length) (by omega)
  go_upto_region 8 with fail
  have hy5 : Reads w5 w5.heap.size 1 A5 b.length (byteCells b) := by
    have := hr5.takeTo (k := b.length) (by omega)
    rwa [take_of rfl] at this
  have HR5 := Lib.hid hr5
  have HY5 := Lib.hid hy5
  have HB5 := Lib.hid hB5
  clear q0 q1 q2 q3 q4 hr5 hy5 hB1 hB2 hs5 hsl5
  have CU5 := Lib.hid (fun W (hW : Below w5.heap.size w5 W) => CU.out W A5 c5 ((HY5.out.below hW).more hW.size))
  have CT5 := Lib.hid (fun W (hW : Below w5.heap.size w5 W) => CT.out W A5 c5 ((HY5.out.below hW).more hW.size))
  have CV5 := Lib.hid (fun W (hW : Below w5.heap.size w5 W) => CV.out W A5 c5 (bstep hb5 hW) ((HY5.out.below hW).more hW.size))
  go_region_held3 (fun w' => w'.cell? ⟨w.heap.size, 0, none⟩ = some (.int .i64 k) ∧ w'.cell? ⟨w.heap.size, 1, none⟩ = some (.int .i64 m) ∧ w'.cell? ⟨w.heap.size, 2, none⟩ = some (.string ⟨s.toArray⟩) ∧ w'.cell? ⟨w.heap.size, 3, none⟩ = some (.slice I i.length ci) ∧ w'.cell? ⟨w.heap.size, 4, none⟩ = some (.slice L l.length cl))
      (first | exact HB9.out.box5 | exact HB8.out.box5 | exact HB7.out.box5 | exact HB5.out.box5)
      (first
        | (go_at_call 19; (with_reducible refine (CU5.out _ (by exact (Below.refl _ _).drew)).mono ?_); rintro e w7 ⟨A7, c7, rfl, hc7, ho7, hr7, hq7⟩; (have hb7 : Below w5.heap.size w5 w7 := ((Below.refl _ _).drew).trans hq7); (have HB7 := Lib.hid (HB5.out.below hb7 HB5.out.lt)))
        | (go_at_call 32; (with_reducible refine (CT5.out _ (by exact hb7)).mono ?_); rintro e w8 ⟨A8, c8, rfl, hc8, ho8, hr8, hq8⟩; (have hb8 : Below w5.heap.size w5 w8 := bstep hb7 hq8); (have HB8 := Lib.hid (HB5.out.below hb8 HB5.out.lt)))
        | (go_at_call 45; (with_reducible refine (CV5.out _ (by exact hb8)).mono ?_); rintro e w9 ⟨A9, c9, rfl, hc9, ho9, hr9, hq9⟩; (have hb9 : Below w5.heap.size w5 w9 := bstep hb8 hq9); (have HB9 := Lib.hid (HB5.out.below hb9 HB5.out.lt))))
  have hs9 := run_str (P := Tryd.prog) Tryd.underlying22 Tryd.underlying5 Tryd.underlying9 (HR5.out.below hb9) c5
  have hz7 : Reads w9 w9.heap.size 1 A7 b.length (byteCells b) := by
    have := (((hr7.below hq8).more hq8.size).below hq9).more hq9.size |>.takeTo (k := b.length) h1
    rwa [take_of rfl] at this
  have hz8 : Reads w9 w9.heap.size 1 A8 b.length (byteCells b) := by
    have := ((hr8.below hq9).more hq9.size).takeTo (k := b.length) h2
    rwa [take_of rfl] at this
  have hsl7 := slice_to0 hr7 hc7 h1
  have hsl8 := slice_to0 hr8 hc8 h2
  have hw9 := bstep hb5 hb9
  have S7 := Lib.hid (fun W (hW : Below w9.heap.size w9 W) => same_at (c := c7) (c' := c) ((hz7.below hW).more hW.size) (RA.out W (bstep hw9 hW)) true (by simp))
  have S8 := Lib.hid (fun W (hW : Below w9.heap.size w9 W) => same_at (c := c8) (c' := c) ((hz8.below hW).more hW.size) (RA.out W (bstep hw9 hW)) true (by simp))
  have hz9 : Reads w9 w9.heap.size 1 A9 b.length (byteCells b) := by
    have := hr9.takeTo (k := b.length) h3
    rwa [take_of rfl] at this
  have hsl9 := slice_to0 hr9 hc9 h3
  have S9 := Lib.hid (fun W (hW : Below w9.heap.size w9 W) => same_at (c := c9) (c' := c) ((hz9.below hW).more hW.size) (RA.out W (bstep hw9 hW)) true (by simp))
  clear hz9 hr9
  clear hz7 hz8 hr7 hr8 HB5
  go_wp2_with (first
    | (go_at_call 18; (with_reducible refine (S7.out _ (by exact Below.refl _ _)).mono ?_); rintro e w99 ⟨rfl, rfl⟩)
    | (go_at_call 32; refine (CN.out _).mono ?_; rintro e w10 ⟨A10, c10, rfl, hc10, ho10, hr10, hq10⟩; (have hB10 := HB9.out.below hq10 HB9.out.lt); obtain ⟨q0, q1, q2, q3, q4⟩ := hB10.box5)
    | (go_at_call 18; (with_reducible refine (S8.out _ (by exact hq10)).mono ?_); rintro e w99 ⟨rfl, rfl⟩)
    | (go_at_call 42; refine (CV2.out _ (bstep hw9 hq10)).mono ?_; rintro e w11 ⟨rfl, hq11⟩)
    | (go_at_call 18; (with_reducible refine (S9.out _ (by exact bstep hq10 hq11)).mono ?_); rintro e w99 ⟨rfl, rfl⟩))
  go_ret
  exact ⟨rfl, bstep (bstep hw9 hq10) hq11⟩

set_option maxRecDepth 100000 in
set_option maxHeartbeats 2000000 in
theorem app_bad (v : GV) (I L : Option Addr) (ci cl : Nat) (x : Nat) (s4 : ByteArray) (A A' : Option Addr) (c c' n n' : Nat) (b room : List UInt8) (w : World) (hv : GVraw w w.heap.size v I L ci cl) (ht : Tab w)
    (ha : Reads w w.heap.size 1 A n (byteCells b)) (hb : Reads w w.heap.size 1 A' n' (byteCells room)) (hx : x < 18446744073709551616)
    (hsm : smallV v = true) (hok : v.ok = false) (hn : n ≤ 300) (hn' : n' ≤ 300) (hs4 : s4.size ≤ 200) :
    Calls Tryd.prog 12 #[.slice A n c, .slice A' n' c', gvV v I L ci cl, .int .u64 x, .string s4] w fun e w' => e = .returned (.bool true) ∧ Below w.heap.size w w' := by
  have hb0 := (Below.refl w.heap.size w).alloc (Nat.le_refl _) (.cells (box v I L ci cl) 55)
  obtain rfl := ha.len
  have hlr := hb.len
  have CA := Lib.hid (awake_any _ (ht.on hb0))
  have CS := Lib.hid (fun W (hW : Below w.heap.size w W) => small_any v I L ci cl w.heap.size W (hv.below hW) hW.size)
  rw [hsm] at CS
  have hg := hv.arg hsm
  have CV2 := Lib.hid (fun W (hW : Below w.heap.size w W) => valid_any v I L ci cl w.heap.size W (hg.below hW) hW.size)
  rw [hok] at CV2
  have hul := enU_len hx
  have hup := enU_pos x
  have hsp := enS_pos s4.data.toList
  have hsl : (enS s4.data.toList).length ≤ 300 := by
    have h1 : (enS s4.data.toList).length = (enU s4.data.toList.length).length + s4.data.toList.length := List.length_append
    have h2 : s4.data.toList.length = s4.size := by simp
    have h3 := enU_len (x := s4.data.toList.length) (by omega)
    omega
  obtain ⟨na, hna⟩ : ∃ na, na = b.length + (enU x).length := ⟨_, rfl⟩
  obtain ⟨nc, hnc⟩ : ∃ nc, nc = b.length + (enS s4.data.toList).length := ⟨_, rfl⟩
  have CV := Lib.hid (fun (W : World) (Ax : Option Addr) (cx : Nat) (hW : Below w.heap.size w W) => appendValue_no v Ax I L cx ci cl b W ((hg.below hW).more hW.size) hok)
  have JN := Lib.hid (fun W (hW : Below w.heap.size w W) => join_at (c := c) (c' := c') (w := W) ((ha.below hW).more hW.size) ((hb.below hW).more hW.size) (by omega) (b.length + n') (by rw [List.length_append, hlr]))
  have cu0 := fun (W : World) (Ax : Option Addr) (cx : Nat) (h : Reads W W.heap.size 1 Ax b.length (byteCells b)) => appendUint_at (c := cx) h (by omega) hx na (by rw [hna]; simp)
  have CU := Lib.hid cu0
  have CT := Lib.hid (fun (W : World) (Ax : Option Addr) (cx : Nat) (h : Reads W W.heap.size 1 Ax b.length (byteCells b)) => appendString_at (c := cx) (s := s4) h (by omega) (by omega) nc (by rw [hnc]; simp))
  have cn0 := fun (W : World) => appendString_at (c := 0) (A := none) (bs := []) (s := s4) (w := W) Reads.nothing (by simp) (by omega) (enS s4.data.toList).length (by simp)
  simp only [List.nil_append] at cn0
  have CN := Lib.hid cn0
  clear cu0 cn0
  have RA := Lib.hid (fun W (hW : Below w.heap.size w W) => (ha.below hW).more hW.size)
  have hh1 : ¬ (300 : Int) < (b.length : Int) := by omega
  have hh2 : ¬ (300 : Int) < (n' : Int) := by omega
  have hh3 : ¬ (200 : Int) < (s4.size : Int) := by omega
  generalize hEU : enU x = EU at *
  generalize hES : enS s4.data.toList = ES at *
  generalize hLU : EU.length = lu at *
  generalize hLS : ES.length = ls at *
  have hB0 := Lib.hid (Blk.new w 55 (box v I L ci cl))
  have g1 : (b.length : Int) < (na : Int) := by omega
  have g2 : ((nc : Int) == (ls : Int) + (b.length : Int)) = true := beqT (by omega)
  have h1 : b.length ≤ na := by omega
  have h2 : b.length ≤ nc := by omega
  clear hna hnc
  have hvv : gvV v I L ci cl = .agg (box v I L ci cl) := rfl
  obtain ⟨k, m, s, i, l⟩ := v
  dsimp only [gvV, strV, box] at *
  clear hv ht hg hsm hok hEU hES ha hb hvv hLU hLS hlr
  go_enter Tryd.func12, Tryd.ntmps12
  go_upto_region 6 with (first
    | (go_at_call 13; refine CA.out.mono ?_; rintro e w1 ⟨rfl, hq1⟩; obtain ⟨hb1, hB1⟩ := hB0.out.step hb0 hq1; obtain ⟨q0, q1, q2, q3, q4⟩ := hB1.box5)
    | (go_at_call 38; refine (CS.out _ hb1).mono ?_; rintro e w2 ⟨rfl, hq2⟩; obtain ⟨hb2, hB2⟩ := hB1.step hb1 hq2; clear q0 q1 q2 q3 q4; obtain ⟨q0, q1, q2, q3, q4⟩ := hB2.box5)
    | (go_at_call 20; refine (JN.out _ hb2).mono ?_; rintro e w5 ⟨A5, c5, rfl, hc5, ho5, hr5, hq5⟩; obtain ⟨hb5, hB5⟩ := hB2.step hb2 hq5))
  have hs5 := run_str (P := Tryd.prog) Tryd.underlying22 Tryd.underlying5 Tryd.underlying9 hr5 c5
  have hsl5 := slice_to0 hr5 hc5 (k := b.length) (by omega)
  go_upto_region 8 with fail
  have hy5 : Reads w5 w5.heap.size 1 A5 b.length (byteCells b) := by
    have := hr5.takeTo (k := b.length) (by omega)
    rwa [take_of rfl] at this
  have HR5 := Lib.hid hr5
  have HY5 := Lib.hid hy5
  have HB5 := Lib.hid hB5
  clear q0 q1 q2 q3 q4 hr5 hy5 hB1 hB2 hs5 hsl5
  have CU5 := Lib.hid (fun W (hW : Below w5.heap.size w5 W) => CU.out W A5 c5 ((HY5.out.below hW).more hW.size))
  have CT5 := Lib.hid (fun W (hW : Below w5.heap.size w5 W) => CT.out W A5 c5 ((HY5.out.below hW).more hW.size))
  have CV5 := Lib.hid (fun W (hW : Below w5.heap.size w5 W) => CV.out W A5 c5 (bstep hb5 hW))
  go_region_held3 (fun w' => w'.cell? ⟨w.heap.size, 0, none⟩ = some (.int .i64 k) ∧ w'.cell? ⟨w.heap.size, 1, none⟩ = some (.int .i64 m) ∧ w'.cell? ⟨w.heap.size, 2, none⟩ = some (.string ⟨s.toArray⟩) ∧ w'.cell? ⟨w.heap.size, 3, none⟩ = some (.slice I i.length ci) ∧ w'.cell? ⟨w.heap.size, 4, none⟩ = some (.slice L l.length cl))
      (first | exact HB9.out.box5 | exact HB8.out.box5 | exact HB7.out.box5 | exact HB5.out.box5)
      (first
        | (go_at_call 19; (with_reducible refine (CU5.out _ (by exact (Below.refl _ _).drew)).mono ?_); rintro e w7 ⟨A7, c7, rfl, hc7, ho7, hr7, hq7⟩; (have hb7 : Below w5.heap.size w5 w7 := ((Below.refl _ _).drew).trans hq7); (have HB7 := Lib.hid (HB5.out.below hb7 HB5.out.lt)))
        | (go_at_call 32; (with_reducible refine (CT5.out _ (by exact hb7)).mono ?_); rintro e w8 ⟨A8, c8, rfl, hc8, ho8, hr8, hq8⟩; (have hb8 : Below w5.heap.size w5 w8 := bstep hb7 hq8); (have HB8 := Lib.hid (HB5.out.below hb8 HB5.out.lt)))
        | (go_at_call 45; (with_reducible refine (CV5.out _ (by exact hb8)).mono ?_); rintro e w9 ⟨rfl, hq9⟩; (have hb9 : Below w5.heap.size w5 w9 := bstep hb8 hq9); (have HB9 := Lib.hid (HB5.out.below hb9 HB5.out.lt))))
  have hs9 := run_str (P := Tryd.prog) Tryd.underlying22 Tryd.underlying5 Tryd.underlying9 (HR5.out.below hb9) c5
  have hz7 : Reads w9 w9.heap.size 1 A7 b.length (byteCells b) := by
    have := (((hr7.below hq8).more hq8.size).below hq9).more hq9.size |>.takeTo (k := b.length) h1
    rwa [take_of rfl] at this
  have hz8 : Reads w9 w9.heap.size 1 A8 b.length (byteCells b) := by
    have := ((hr8.below hq9).more hq9.size).takeTo (k := b.length) h2
    rwa [take_of rfl] at this
  have hsl7 := slice_to0 hr7 hc7 h1
  have hsl8 := slice_to0 hr8 hc8 h2
  have hw9 := bstep hb5 hb9
  have S7 := Lib.hid (fun W (hW : Below w9.heap.size w9 W) => same_at (c := c7) (c' := c) ((hz7.below hW).more hW.size) (RA.out W (bstep hw9 hW)) true (by simp))
  have S8 := Lib.hid (fun W (hW : Below w9.heap.size w9 W) => same_at (c := c8) (c' := c) ((hz8.below hW).more hW.size) (RA.out W (bstep hw9 hW)) true (by simp))
  clear hz7 hz8 hr7 hr8 HB5
  go_wp2_with (first
    | (go_at_call 18; (with_reducible refine (S7.out _ (by exact Below.refl _ _)).mono ?_); rintro e w99 ⟨rfl, rfl⟩)
    | (go_at_call 32; refine (CN.out _).mono ?_; rintro e w10 ⟨A10, c10, rfl, hc10, ho10, hr10, hq10⟩; (have hB10 := HB9.out.below hq10 HB9.out.lt); obtain ⟨q0, q1, q2, q3, q4⟩ := hB10.box5)
    | (go_at_call 18; (with_reducible refine (S8.out _ (by exact hq10)).mono ?_); rintro e w99 ⟨rfl, rfl⟩)
    | (go_at_call 42; refine (CV2.out _ (bstep hw9 hq10)).mono ?_; rintro e w11 ⟨rfl, hq11⟩)
    | (go_at_call 18; (with_reducible refine (S9.out _ (by exact bstep hq10 hq11)).mono ?_); rintro e w99 ⟨rfl, rfl⟩))
  go_ret
  exact ⟨rfl, bstep (bstep hw9 hq10) hq11⟩
end Go.Proofs.YtccgjdbopniifaaDoor.W
