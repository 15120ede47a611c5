/- The reference's Value: the encoding of a valid value. -/
import Derived.Test.YtklihjgmmliejaaDoorWRefV
import Derived.Test.YtklihjgmmliejaaDoorWRefL
namespace Go.Proofs.YtklihjgmmliejaaDoor.W
set_option linter.unusedVariables false
open Go.RowKit
open Go.Lib (byteCells byteCells_length byteCells_append byteCells_snoc)

theorem cell_new2 (W : World) (o : Obj) (t : TypeId) (u : Value) : ((W.alloc o).alloc (.cells #[u] t)).cell? ⟨W.heap.size + 1, 0, none⟩ = some u := by
  have h := cell_new1 (W.alloc o) t u
  rwa [show (W.alloc o).heap.size = W.heap.size + 1 by simp] at h

set_option maxRecDepth 100000 in
set_option maxHeartbeats 1000000 in
theorem refValue_k0 (n : Int) (s : List UInt8) (i : List Int) (l : List (List UInt8)) (I L : Option Addr) (ci cl : Nat) (w : World) (h : GVarg w w.heap.size ⟨0, n, s, i, l⟩ I L ci cl) (hok : GV.ok ⟨0, n, s, i, l⟩ = true) (hl : (enV ⟨0, n, s, i, l⟩).length ≤ 1099511627776) :
    Calls Tryd.prog 46 #[gvV ⟨0, n, s, i, l⟩ I L ci cl] w (OwnPost w.heap.size w (enV ⟨0, n, s, i, l⟩)) := by
  have HV := Lib.hid (fun W (hW : Below w.heap.size w W) => refValid_any ⟨0, n, s, i, l⟩ I L ci cl w.heap.size W (h.below hW) hW.size)
  rw [hok] at HV
  have hbx := (Below.refl w.heap.size w).alloc (Nat.le_refl _) (.cells #[.int .i64 0, .int .i64 n, .string ⟨s.toArray⟩, .slice I i.length ci, .slice L l.length cl] 55)
  have hbk := Lib.hid (Blk.new w 55 #[.int .i64 0, .int .i64 n, .string ⟨s.toArray⟩, .slice I i.length ci, .slice L l.length cl])
  have hsz0 : (w.alloc (.cells #[.int .i64 0, .int .i64 n, .string ⟨s.toArray⟩, .slice I i.length ci, .slice L l.length cl] 55)).heap.size = w.heap.size + 1 := by simp
  have HSZ := Lib.hid hsz0
  have H := Lib.hid h
  dsimp only [gvV, strV] at *
  clear h hok hsz0 hl
  go_enter Tryd.func46, Tryd.ntmps46
  go_wp2_with (first
    | (go_at_call 43; refine (HV.out _ hbx).mono ?_; rintro e w2 ⟨rfl, hq2⟩; (have hb2 : Below w.heap.size w w2 := hbx.trans (hq2.mono (by rw [HSZ.out]; omega))); (have hB2 := hbk.out.below hq2 (by rw [HSZ.out]; omega)); obtain ⟨q0, q1, q2, q3, q4⟩ := hB2.box5; obtain ⟨p0, p1, p2, p3, p4⟩ := (hB2.alloc (.cells #[.int .u8 0] 5)).box5; (have hb3 := hb2.alloc hb2.size (.cells #[.int .u8 0] 5)); (have O3 := Lib.hid (own_base (own_new w2 #[.int .u8 0] [0] 1 rfl rfl (by decide)) hb2.size))))
  go_ret
  exact ⟨_, rfl, O3.out, hb3⟩

set_option maxRecDepth 100000 in
set_option maxHeartbeats 1000000 in
theorem refValue_k1 (n : Int) (s : List UInt8) (i : List Int) (l : List (List UInt8)) (I L : Option Addr) (ci cl : Nat) (w : World) (h : GVarg w w.heap.size ⟨1, n, s, i, l⟩ I L ci cl) (hok : GV.ok ⟨1, n, s, i, l⟩ = true) (hl : (enV ⟨1, n, s, i, l⟩).length ≤ 1099511627776) :
    Calls Tryd.prog 46 #[gvV ⟨1, n, s, i, l⟩ I L ci cl] w (OwnPost w.heap.size w (enV ⟨1, n, s, i, l⟩)) := by
  have HV := Lib.hid (fun W (hW : Below w.heap.size w W) => refValid_any ⟨1, n, s, i, l⟩ I L ci cl w.heap.size W (h.below hW) hW.size)
  rw [hok] at HV
  have hbx := (Below.refl w.heap.size w).alloc (Nat.le_refl _) (.cells #[.int .i64 1, .int .i64 n, .string ⟨s.toArray⟩, .slice I i.length ci, .slice L l.length cl] 55)
  have hbk := Lib.hid (Blk.new w 55 #[.int .i64 1, .int .i64 n, .string ⟨s.toArray⟩, .slice I i.length ci, .slice L l.length cl])
  have hsz0 : (w.alloc (.cells #[.int .i64 1, .int .i64 n, .string ⟨s.toArray⟩, .slice I i.length ci, .slice L l.length cl] 55)).heap.size = w.heap.size + 1 := by simp
  have HSZ := Lib.hid hsz0
  have H := Lib.hid h
  have C1 := Lib.hid (fun W => (refInt_any n W h.n64).mono fun _ _ h => h.to (enI n) (enI n).length rfl rfl)
  have HE := Lib.hid (enI_len h.n64)
  dsimp only [gvV, strV] at *
  clear h hok hsz0 hl
  go_enter Tryd.func46, Tryd.ntmps46
  go_wp2_with (first
    | (go_at_call 43; refine (HV.out _ hbx).mono ?_; rintro e w2 ⟨rfl, hq2⟩; (have hb2 : Below w.heap.size w w2 := hbx.trans (hq2.mono (by rw [HSZ.out]; omega))); (have hB2 := hbk.out.below hq2 (by rw [HSZ.out]; omega)); obtain ⟨q0, q1, q2, q3, q4⟩ := hB2.box5; obtain ⟨p0, p1, p2, p3, p4⟩ := (hB2.alloc (.cells #[.int .u8 1] 5)).box5; (have hb3 := hb2.alloc hb2.size (.cells #[.int .u8 1] 5)); (have O3 := Lib.hid (own_base (own_new w2 #[.int .u8 1] [1] 1 rfl rfl (by decide)) hb2.size)))
    | (go_at_call 23; (with_reducible refine (C1.out _).mono ?_); rintro e w4 ⟨A4, c4, rfl, hc4, ho4, hr4, hq4⟩; (have hb4 := bstep hb3 hq4); (have O4 := Lib.hid (own_below O3.out hq4)))
    | (at_builtin; refine wp_append_bytes _ rfl (.tmp 15) (.tmp 18) rfl w.heap.size _ [1] (enI n) _ _ _ _ rfl O4.out rfl hr4 (by have := HE.out; simp; omega) hb4.size ?_; intro v5 w5 ho5 hq5; (have hb5 : Below w.heap.size w w5 := hb4.trans hq5)))
  go_ret
  exact ⟨_, rfl, ho5, hb5⟩

set_option maxRecDepth 100000 in
set_option maxHeartbeats 1000000 in
theorem refValue_k2 (n : Int) (s : List UInt8) (i : List Int) (l : List (List UInt8)) (I L : Option Addr) (ci cl : Nat) (w : World) (h : GVarg w w.heap.size ⟨2, n, s, i, l⟩ I L ci cl) (hok : GV.ok ⟨2, n, s, i, l⟩ = true) (hl : (enV ⟨2, n, s, i, l⟩).length ≤ 1099511627776) :
    Calls Tryd.prog 46 #[gvV ⟨2, n, s, i, l⟩ I L ci cl] w (OwnPost w.heap.size w (enV ⟨2, n, s, i, l⟩)) := by
  have HV := Lib.hid (fun W (hW : Below w.heap.size w W) => refValid_any ⟨2, n, s, i, l⟩ I L ci cl w.heap.size W (h.below hW) hW.size)
  rw [hok] at HV
  have hbx := (Below.refl w.heap.size w).alloc (Nat.le_refl _) (.cells #[.int .i64 2, .int .i64 n, .string ⟨s.toArray⟩, .slice I i.length ci, .slice L l.length cl] 55)
  have hbk := Lib.hid (Blk.new w 55 #[.int .i64 2, .int .i64 n, .string ⟨s.toArray⟩, .slice I i.length ci, .slice L l.length cl])
  have hsz0 : (w.alloc (.cells #[.int .i64 2, .int .i64 n, .string ⟨s.toArray⟩, .slice I i.length ci, .slice L l.length cl] 55)).heap.size = w.heap.size + 1 := by simp
  have HSZ := Lib.hid hsz0
  have H := Lib.hid h
  have hn : n = 0 ∨ n = 1 := by
    simp [GV.ok] at hok
    omega
  have hn0 : 0 ≤ n := by omega
  have hn1 : n ≤ 1 := by omega
  have HNZ := Lib.hid (show n = (n.toNat : Int) by omega)
  clear hn
  dsimp only [gvV, strV] at *
  clear h hok hsz0 hl
  go_enter Tryd.func46, Tryd.ntmps46
  go_wp2_with (first
    | (go_at_call 43; refine (HV.out _ hbx).mono ?_; rintro e w2 ⟨rfl, hq2⟩; (have hb2 : Below w.heap.size w w2 := hbx.trans (hq2.mono (by rw [HSZ.out]; omega))); (have hB2 := hbk.out.below hq2 (by rw [HSZ.out]; omega)); obtain ⟨q0, q1, q2, q3, q4⟩ := hB2.box5; obtain ⟨p0, p1, p2, p3, p4⟩ := (hB2.alloc (.cells #[.int .u8 2] 5)).box5; (have hb3 := hb2.alloc hb2.size (.cells #[.int .u8 2] 5)); (have O3 := Lib.hid (own_base (own_new w2 #[.int .u8 2] [2] 1 rfl rfl (by decide)) hb2.size)))
    | (at_builtin; refine wp_append_byte _ rfl (.tmp 22) (.tmp 26) rfl w.heap.size _ [2] n.toNat _ _ rfl (own_below O3.out ((Below.refl _ _).alloc (Nat.le_refl _) _)) rfl (cell_new2 _ _ _ _) HNZ.out (by omega) (by simp) (by have := hb3.size; simp at this ⊢; omega) ?_; intro v5 w5 ho5 hq5; (have hb5 : Below w.heap.size w w5 := (hb3.alloc hb3.size _).trans hq5)))
  go_ret
  exact ⟨_, rfl, ho5, hb5⟩

set_option maxRecDepth 100000 in
set_option maxHeartbeats 1000000 in
theorem refValue_k3 (n : Int) (s : List UInt8) (i : List Int) (l : List (List UInt8)) (I L : Option Addr) (ci cl : Nat) (w : World) (h : GVarg w w.heap.size ⟨3, n, s, i, l⟩ I L ci cl) (hok : GV.ok ⟨3, n, s, i, l⟩ = true) (hl : (enV ⟨3, n, s, i, l⟩).length ≤ 1099511627776) :
    Calls Tryd.prog 46 #[gvV ⟨3, n, s, i, l⟩ I L ci cl] w (OwnPost w.heap.size w (enV ⟨3, n, s, i, l⟩)) := by
  have HV := Lib.hid (fun W (hW : Below w.heap.size w W) => refValid_any ⟨3, n, s, i, l⟩ I L ci cl w.heap.size W (h.below hW) hW.size)
  rw [hok] at HV
  have hbx := (Below.refl w.heap.size w).alloc (Nat.le_refl _) (.cells #[.int .i64 3, .int .i64 n, .string ⟨s.toArray⟩, .slice I i.length ci, .slice L l.length cl] 55)
  have hbk := Lib.hid (Blk.new w 55 #[.int .i64 3, .int .i64 n, .string ⟨s.toArray⟩, .slice I i.length ci, .slice L l.length cl])
  have hsz0 : (w.alloc (.cells #[.int .i64 3, .int .i64 n, .string ⟨s.toArray⟩, .slice I i.length ci, .slice L l.length cl] 55)).heap.size = w.heap.size + 1 := by simp
  have HSZ := Lib.hid hsz0
  have H := Lib.hid h
  have hsl := h.s40
  have C1 := Lib.hid (fun W => (refStr_any s W hsl).mono fun _ _ h => h.to (enS s) (enS s).length rfl rfl)
  have HE := Lib.hid (show (enS s).length ≤ 1099511627776 by have e : (enV ⟨3, n, s, i, l⟩).length = 1 + (enS s).length := (by show (_ :: enS s).length = _; simp; omega); omega)
  dsimp only [gvV, strV] at *
  clear h hok hsz0 hl
  go_enter Tryd.func46, Tryd.ntmps46
  go_wp2_with (first
    | (go_at_call 43; refine (HV.out _ hbx).mono ?_; rintro e w2 ⟨rfl, hq2⟩; (have hb2 : Below w.heap.size w w2 := hbx.trans (hq2.mono (by rw [HSZ.out]; omega))); (have hB2 := hbk.out.below hq2 (by rw [HSZ.out]; omega)); obtain ⟨q0, q1, q2, q3, q4⟩ := hB2.box5; obtain ⟨p0, p1, p2, p3, p4⟩ := (hB2.alloc (.cells #[.int .u8 3] 5)).box5; (have hb3 := hb2.alloc hb2.size (.cells #[.int .u8 3] 5)); (have O3 := Lib.hid (own_base (own_new w2 #[.int .u8 3] [3] 1 rfl rfl (by decide)) hb2.size)))
    | (go_at_call 33; (with_reducible refine (C1.out _).mono ?_); rintro e w4 ⟨A4, c4, rfl, hc4, ho4, hr4, hq4⟩; (have hb4 := bstep hb3 hq4); (have O4 := Lib.hid (own_below O3.out hq4)))
    | (at_builtin; refine wp_append_bytes _ rfl (.tmp 30) (.tmp 33) rfl w.heap.size _ [3] (enS s) _ _ _ _ rfl O4.out rfl hr4 (by have := HE.out; simp; omega) hb4.size ?_; intro v5 w5 ho5 hq5; (have hb5 : Below w.heap.size w w5 := hb4.trans hq5)))
  go_ret
  exact ⟨_, rfl, ho5, hb5⟩

set_option maxRecDepth 100000 in
set_option maxHeartbeats 1000000 in
theorem refValue_k4 (n : Int) (s : List UInt8) (i : List Int) (l : List (List UInt8)) (I L : Option Addr) (ci cl : Nat) (w : World) (h : GVarg w w.heap.size ⟨4, n, s, i, l⟩ I L ci cl) (hok : GV.ok ⟨4, n, s, i, l⟩ = true) (hl : (enV ⟨4, n, s, i, l⟩).length ≤ 1099511627776) :
    Calls Tryd.prog 46 #[gvV ⟨4, n, s, i, l⟩ I L ci cl] w (OwnPost w.heap.size w (enV ⟨4, n, s, i, l⟩)) := by
  have HV := Lib.hid (fun W (hW : Below w.heap.size w W) => refValid_any ⟨4, n, s, i, l⟩ I L ci cl w.heap.size W (h.below hW) hW.size)
  rw [hok] at HV
  have hbx := (Below.refl w.heap.size w).alloc (Nat.le_refl _) (.cells #[.int .i64 4, .int .i64 n, .string ⟨s.toArray⟩, .slice I i.length ci, .slice L l.length cl] 55)
  have hbk := Lib.hid (Blk.new w 55 #[.int .i64 4, .int .i64 n, .string ⟨s.toArray⟩, .slice I i.length ci, .slice L l.length cl])
  have hsz0 : (w.alloc (.cells #[.int .i64 4, .int .i64 n, .string ⟨s.toArray⟩, .slice I i.length ci, .slice L l.length cl] 55)).heap.size = w.heap.size + 1 := by simp
  have HSZ := Lib.hid hsz0
  have H := Lib.hid h
  have HE := Lib.hid (show (enIs i).length ≤ 1099511627776 by have e : (enV ⟨4, n, s, i, l⟩).length = 1 + (enIs i).length := (by show (_ :: enIs i).length = _; simp; omega); omega)
  have C1 := Lib.hid (fun W (hW : Below w.heap.size w W) => (refIntsList_any I ci i W ((h.ri.below hW).more hW.size) HE.out h.i40 h.i64).mono fun _ _ h => h.to (enIs i) (enIs i).length rfl rfl)
  dsimp only [gvV, strV] at *
  clear h hok hsz0 hl
  go_enter Tryd.func46, Tryd.ntmps46
  go_wp2_with (first
    | (go_at_call 43; refine (HV.out _ hbx).mono ?_; rintro e w2 ⟨rfl, hq2⟩; (have hb2 : Below w.heap.size w w2 := hbx.trans (hq2.mono (by rw [HSZ.out]; omega))); (have hB2 := hbk.out.below hq2 (by rw [HSZ.out]; omega)); obtain ⟨q0, q1, q2, q3, q4⟩ := hB2.box5; obtain ⟨p0, p1, p2, p3, p4⟩ := (hB2.alloc (.cells #[.int .u8 4] 5)).box5; (have hb3 := hb2.alloc hb2.size (.cells #[.int .u8 4] 5)); (have O3 := Lib.hid (own_base (own_new w2 #[.int .u8 4] [4] 1 rfl rfl (by decide)) hb2.size)))
    | (go_at_call 35; (with_reducible refine (C1.out _ hb3).mono ?_); rintro e w4 ⟨A4, c4, rfl, hc4, ho4, hr4, hq4⟩; (have hb4 := bstep hb3 hq4); (have O4 := Lib.hid (own_below O3.out hq4)))
    | (at_builtin; refine wp_append_bytes _ rfl (.tmp 37) (.tmp 40) rfl w.heap.size _ [4] (enIs i) _ _ _ _ rfl O4.out rfl hr4 (by have := HE.out; simp; omega) hb4.size ?_; intro v5 w5 ho5 hq5; (have hb5 : Below w.heap.size w w5 := hb4.trans hq5)))
  go_ret
  exact ⟨_, rfl, ho5, hb5⟩

set_option maxRecDepth 100000 in
set_option maxHeartbeats 1000000 in
theorem refValue_k5 (n : Int) (s : List UInt8) (i : List Int) (l : List (List UInt8)) (I L : Option Addr) (ci cl : Nat) (w : World) (h : GVarg w w.heap.size ⟨5, n, s, i, l⟩ I L ci cl) (hok : GV.ok ⟨5, n, s, i, l⟩ = true) (hl : (enV ⟨5, n, s, i, l⟩).length ≤ 1099511627776) :
    Calls Tryd.prog 46 #[gvV ⟨5, n, s, i, l⟩ I L ci cl] w (OwnPost w.heap.size w (enV ⟨5, n, s, i, l⟩)) := by
  have HV := Lib.hid (fun W (hW : Below w.heap.size w W) => refValid_any ⟨5, n, s, i, l⟩ I L ci cl w.heap.size W (h.below hW) hW.size)
  rw [hok] at HV
  have hbx := (Below.refl w.heap.size w).alloc (Nat.le_refl _) (.cells #[.int .i64 5, .int .i64 n, .string ⟨s.toArray⟩, .slice I i.length ci, .slice L l.length cl] 55)
  have hbk := Lib.hid (Blk.new w 55 #[.int .i64 5, .int .i64 n, .string ⟨s.toArray⟩, .slice I i.length ci, .slice L l.length cl])
  have hsz0 : (w.alloc (.cells #[.int .i64 5, .int .i64 n, .string ⟨s.toArray⟩, .slice I i.length ci, .slice L l.length cl] 55)).heap.size = w.heap.size + 1 := by simp
  have HSZ := Lib.hid hsz0
  have H := Lib.hid h
  have HE := Lib.hid (show (enSs l).length ≤ 1099511627776 by have e : (enV ⟨5, n, s, i, l⟩).length = 1 + (enSs l).length := (by show (_ :: enSs l).length = _; simp; omega); omega)
  have C1 := Lib.hid (fun W (hW : Below w.heap.size w W) => (refStringsList_any L cl l W ((h.rl.below hW).more hW.size) HE.out h.l40).mono fun _ _ h => h.to (enSs l) (enSs l).length rfl rfl)
  dsimp only [gvV, strV] at *
  clear h hok hsz0 hl
  go_enter Tryd.func46, Tryd.ntmps46
  go_wp2_with (first
    | (go_at_call 43; refine (HV.out _ hbx).mono ?_; rintro e w2 ⟨rfl, hq2⟩; (have hb2 : Below w.heap.size w w2 := hbx.trans (hq2.mono (by rw [HSZ.out]; omega))); (have hB2 := hbk.out.below hq2 (by rw [HSZ.out]; omega)); obtain ⟨q0, q1, q2, q3, q4⟩ := hB2.box5; obtain ⟨p0, p1, p2, p3, p4⟩ := (hB2.alloc (.cells #[.int .u8 5] 5)).box5; (have hb3 := hb2.alloc hb2.size (.cells #[.int .u8 5] 5)); (have O3 := Lib.hid (own_base (own_new w2 #[.int .u8 5] [5] 1 rfl rfl (by decide)) hb2.size)))
    | (go_at_call 37; (with_reducible refine (C1.out _ hb3).mono ?_); rintro e w4 ⟨A4, c4, rfl, hc4, ho4, hr4, hq4⟩; (have hb4 := bstep hb3 hq4); (have O4 := Lib.hid (own_below O3.out hq4)))
    | (at_builtin; refine wp_append_bytes _ rfl (.tmp 44) (.tmp 47) rfl w.heap.size _ [5] (enSs l) _ _ _ _ rfl O4.out rfl hr4 (by have := HE.out; simp; omega) hb4.size ?_; intro v5 w5 ho5 hq5; (have hb5 : Below w.heap.size w w5 := hb4.trans hq5)))
  go_ret
  exact ⟨_, rfl, ho5, hb5⟩

theorem refValue_any (v : GV) (I L : Option Addr) (ci cl : Nat) (w : World) (h : GVarg w w.heap.size v I L ci cl) (hok : v.ok = true) (hl : (enV v).length ≤ 1099511627776) :
    Calls Tryd.prog 46 #[gvV v I L ci cl] w (OwnPost w.heap.size w (enV v)) := by
  obtain ⟨hk0, hk5⟩ := ok_kind hok
  obtain ⟨k, n, s, i, l⟩ := v
  dsimp only at hk0 hk5
  have hcases : k = 0 ∨ k = 1 ∨ k = 2 ∨ k = 3 ∨ k = 4 ∨ k = 5 := by omega
  rcases hcases with rfl | rfl | rfl | rfl | rfl | rfl
  · exact refValue_k0 n s i l I L ci cl w h hok hl
  · exact refValue_k1 n s i l I L ci cl w h hok hl
  · exact refValue_k2 n s i l I L ci cl w h hok hl
  · exact refValue_k3 n s i l I L ci cl w h hok hl
  · exact refValue_k4 n s i l I L ci cl w h hok hl
  · exact refValue_k5 n s i l I L ci cl w h hok hl
end Go.Proofs.YtklihjgmmliejaaDoor.W
