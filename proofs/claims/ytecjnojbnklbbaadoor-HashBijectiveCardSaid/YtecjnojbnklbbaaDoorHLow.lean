/- awake; the contracts as the law's walks take them. -/
import Derived.Test.YtecjnojbnklbbaaDoorHText
namespace Go.Proofs.YtecjnojbnklbbaaDoor.H
set_option linter.unusedVariables false
open Go.RowKit

theorem bstep {w w1 w2 : World} (hb : Below w.heap.size w w1) (hq : Below w1.heap.size w1 w2) : Below w.heap.size w w2 := hb.trans (hq.mono hb.size)
theorem Tab.on {w W : World} (h : Tab w) (hb : Below w.heap.size w W) : Tab W := by
  have hs := h.size
  exact ⟨(hb.cell (p := ⟨0, 0, none⟩) (by show 0 < _; omega)).trans h.s0, (hb.cell (p := ⟨0, 1, none⟩) (by show 0 < _; omega)).trans h.s1, (hb.cell (p := ⟨0, 2, none⟩) (by show 0 < _; omega)).trans h.s2,
    (hb.cell (p := ⟨1, 0, none⟩) (by show 1 < _; omega)).trans h.f0, (hb.cell (p := ⟨1, 1, none⟩) (by show 1 < _; omega)).trans h.f1,
    (hb.cell (p := ⟨2, 0, none⟩) (by show 2 < _; omega)).trans h.i0, (hb.cell (p := ⟨2, 1, none⟩) (by show 2 < _; omega)).trans h.i1⟩
theorem Gives.lays {w : World} {r : BitVec 64} {e : Ending} {w' : World} (h : Gives w r e w') : Lays w r e w' := by
  obtain ⟨h1, k, rfl⟩ := h
  exact ⟨h1, below_drewN (Below.refl _ _) k⟩
/-- A literal in the place of the word. -/
def LaysL (w : World) (r : Int) (e : Ending) (w' : World) : Prop := e = .returned (.int .u64 r) ∧ Below w.heap.size w w'
theorem Gives.lit {w : World} {r : BitVec 64} {n : Int} {e : Ending} {w' : World} (h : Gives w r e w') (hn : (r.toNat : Int) = n) : LaysL w n e w' := by
  subst hn
  exact h.lays
section
variable {w W : World}
theorem mix_lit (n r : Int) (x : BitVec 64) (ht : Tab w) (hb : Below w.heap.size w W) (hn : (x.toNat : Int) = n) (hr : ((mix x).toNat : Int) = r) : Calls Tryd.prog 9 #[.int .u64 n] W (LaysL W r) := by
  subst hn
  exact (mix_any x W (ht.on hb)).mono fun _ _ h => h.lit hr
theorem unmix_lit (n r : Int) (x : BitVec 64) (ht : Tab w) (hb : Below w.heap.size w W) (hn : (x.toNat : Int) = n) (hr : ((unmix x).toNat : Int) = r) : Calls Tryd.prog 11 #[.int .u64 n] W (LaysL W r) := by
  subst hn
  exact (unmix_any x W (ht.on hb)).mono fun _ _ h => h.lit hr
theorem comb_lit (n m r : Int) (x y : BitVec 64) (ht : Tab w) (hb : Below w.heap.size w W) (hn : (x.toNat : Int) = n) (hm : (y.toNat : Int) = m) (hr : ((comb x y).toNat : Int) = r) : Calls Tryd.prog 12 #[.int .u64 n, .int .u64 m] W (LaysL W r) := by
  subst hn hm
  exact (combine_any x y W (ht.on hb)).mono fun _ _ h => h.lit hr
theorem text_lit (r : Int) (ht : Tab w) (hb : Below w.heap.size w W) (hr : ((text []).toNat : Int) = r) : Calls Tryd.prog 14 #[.string ⟨#[]⟩] W (LaysL W r) :=
  (text_any [] W (by decide) (ht.on hb)).mono fun _ _ h => h.lit hr
end

set_option maxRecDepth 100000 in
set_option maxHeartbeats 1000000 in
theorem awake_any (w : World) (ht : Tab w) : Calls Tryd.prog 8 #[] w fun e w' => e = .returned (.bool true) ∧ Below w.heap.size w w' := by
  have M0 := Lib.hid (fun W (hb : Below w.heap.size w W) => mix_lit 0 0 0#64 ht hb (by decide) (by decide +kernel))
  have M1 := Lib.hid (fun W (hb : Below w.heap.size w W) => mix_lit 11400714819323198485 16294208416658607535 STR ht hb (by decide +kernel) (by decide +kernel))
  have M2 := Lib.hid (fun W (hb : Below w.heap.size w W) => mix_lit 12345 17540659726606785873 12345#64 ht hb (by decide +kernel) (by decide +kernel))
  have U2 := Lib.hid (fun W (hb : Below w.heap.size w W) => unmix_lit 17540659726606785873 12345 17540659726606785873#64 ht hb (by decide +kernel) (by decide +kernel))
  have B0 := Lib.hid (fun W (hb : Below w.heap.size w W) => comb_lit 0 0 16294208416658607535 0#64 0#64 ht hb (by decide) (by decide) (by decide +kernel))
  have T0 := Lib.hid (fun W (hb : Below w.heap.size w W) => text_lit 17665956581633026203 ht hb (by decide +kernel))
  have M3 := Lib.hid (fun W (hb : Below w.heap.size w W) => mix_lit 14695981039346656037 17665956581633026203 14695981039346656037#64 ht hb (by decide +kernel) (by decide +kernel))
  have hb0 := Below.refl w.heap.size w
  clear ht
  go_enter Tryd.func8, Tryd.ntmps8
  go_wp2_with (first
    | (go_at_call 9; (with_reducible refine (M0.out _ hb0).mono ?_); rintro e w1 ⟨rfl, hq1⟩; (have hb1 := bstep hb0 hq1))
    | (go_at_call 9; (with_reducible refine (M1.out _ hb1).mono ?_); rintro e w2 ⟨rfl, hq2⟩; (have hb2 := bstep hb1 hq2))
    | (go_at_call 9; (with_reducible refine (M2.out _ hb2).mono ?_); rintro e w3 ⟨rfl, hq3⟩; (have hb3 := bstep hb2 hq3))
    | (go_at_call 11; (with_reducible refine (U2.out _ hb3).mono ?_); rintro e w4 ⟨rfl, hq4⟩; (have hb4 := bstep hb3 hq4))
    | (go_at_call 12; (with_reducible refine (B0.out _ hb4).mono ?_); rintro e w5 ⟨rfl, hq5⟩; (have hb5 := bstep hb4 hq5))
    | (go_at_call 9; (with_reducible refine (M1.out _ hb5).mono ?_); rintro e w6 ⟨rfl, hq6⟩; (have hb6 := bstep hb5 hq6))
    | (go_at_call 14; (with_reducible refine (T0.out _ hb6).mono ?_); rintro e w7 ⟨rfl, hq7⟩; (have hb7 := bstep hb6 hq7))
    | (go_at_call 9; (with_reducible refine (M3.out _ hb7).mono ?_); rintro e w8 ⟨rfl, hq8⟩; (have hb8 := bstep hb7 hq8)))
  go_ret
  exact ⟨rfl, hb8⟩
end Go.Proofs.YtecjnojbnklbbaaDoor.H
