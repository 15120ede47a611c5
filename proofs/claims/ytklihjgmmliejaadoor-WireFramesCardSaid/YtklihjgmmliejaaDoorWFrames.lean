/- The walk of WireFrames: it returns true, whatever comes in. -/
import Derived.Test.YtklihjgmmliejaaDoorWRefO3
namespace Go.Proofs.YtklihjgmmliejaaDoor.W
set_option linter.unusedVariables false
open Go.RowKit
open Go.Lib (byteCells byteCells_length byteCells_append byteCells_snoc)

set_option maxRecDepth 100000 in
set_option maxHeartbeats 1000000 in
theorem frames_no (n n' : Nat) (kind : Int) (A A' : Option Addr) (c c' : Nat) (w : World) (ht : Tab w) (hbad : 2000 < n ∨ 2000 < n') (hn : n ≤ 9223372036854775807) (hn' : n' ≤ 9223372036854775807) :
    Calls Tryd.prog 6 #[.slice A n c, .int .i64 kind, .slice A' n' c'] w fun e w' => e = .returned (.bool true) ∧ Below w.heap.size w w' := by
  have CA := Lib.hid (awake_any _ ht)
  clear ht
  by_cases h1 : 2000 < n
  · have f1 : (2000 : Int) < (n : Int) := by omega
    clear hbad
    go_enter Tryd.func6, Tryd.ntmps6
    go_wp2_with (go_at_call 13; refine CA.out.mono ?_; rintro e w1 ⟨rfl, hq1⟩)
    go_ret
    exact ⟨rfl, hq1⟩
  · have f1 : ¬ (2000 : Int) < (n : Int) := by omega
    have f2 : (2000 : Int) < (n' : Int) := by omega
    clear hbad
    go_enter Tryd.func6, Tryd.ntmps6
    go_wp2_with (go_at_call 13; refine CA.out.mono ?_; rintro e w1 ⟨rfl, hq1⟩)
    go_ret
    exact ⟨rfl, hq1⟩
set_option maxRecDepth 100000 in
set_option maxHeartbeats 2000000 in
theorem frames_yes (n n' : Nat) (kind : Int) (A A' : Option Addr) (c c' : Nat) (bs body : List UInt8) (w : World) (ht : Tab w) (ha : Reads w w.heap.size 1 A n (byteCells bs)) (ha' : Reads w w.heap.size 1 A' n' (byteCells body)) (hcap : n ≤ c) (hn : n ≤ 2000) (hn' : n' ≤ 2000) :
    Calls Tryd.prog 6 #[.slice A n c, .int .i64 kind, .slice A' n' c'] w fun e w' => e = .returned (.bool true) ∧ Below w.heap.size w w' := by
  obtain rfl := ha.len
  obtain rfl := ha'.len
  have CA := Lib.hid (awake_any _ ht)
  have f1 : ¬ (2000 : Int) < (bs.length : Int) := by omega
  have f2 : ¬ (2000 : Int) < (body.length : Int) := by omega
  have RA := Lib.hid (fun W (hW : Below w.heap.size w W) => (ha.below hW).more hW.size)
  have RB := Lib.hid (fun W (hW : Below w.heap.size w W) => (ha'.below hW).more hW.size)
  obtain ⟨⟨sl, se⟩, hs⟩ : ∃ r, rdSeal kind body = r := ⟨_, rfl⟩
  obtain ⟨⟨ok, ob, on, oe⟩, ho⟩ : ∃ r, rdOpen bs = r := ⟨_, rfl⟩
  obtain ⟨ls, hls⟩ : ∃ ls, sl.length = ls := ⟨_, rfl⟩
  obtain ⟨lo, hlo⟩ : ∃ lo, ob.length = lo := ⟨_, rfl⟩
  have c1 := fun W (hW : Below w.heap.size w W) => seal_any kind A' c' body W (RB.out W hW) (ht.on hW) (by omega)
  have c2 := fun W (hW : Below w.heap.size w W) => refSeal_any kind A' c' body W (RB.out W hW) (by omega)
  have c3 := fun W (hW : Below w.heap.size w W) => open_any A c bs W (RA.out W hW) hcap (by omega) (ht.on hW)
  have c4 := fun W (hW : Below w.heap.size w W) => refOpen_any A c bs W (RA.out W hW) hcap (by omega)
  simp only [hs, ho] at c1 c2 c3 c4
  have C1 := Lib.hid (fun W (hW : Below w.heap.size w W) => (c1 W hW).mono fun _ _ h => h.to sl ls se rfl hls rfl)
  have C2 := Lib.hid (fun W (hW : Below w.heap.size w W) => (c2 W hW).mono fun _ _ h => h.to sl ls se rfl hls rfl)
  have C3 := Lib.hid (fun W (hW : Below w.heap.size w W) => (c3 W hW).mono fun _ _ h => h.to ok ob lo on oe rfl rfl hlo rfl rfl)
  have C4 := Lib.hid (fun W (hW : Below w.heap.size w W) => (c4 W hW).mono fun _ _ h => h.to ok ob lo on oe rfl rfl hlo rfl rfl)
  have C5 := Lib.hid (fun W (hW : Below w.heap.size w W) => checksum_at A c _ _ bs W (RA.out W hW) (by omega) (ht.on hW))
  have C6 := Lib.hid (fun W (hW : Below w.heap.size w W) => refChecksum_at (c := c) (RA.out W hW) (by omega))
  generalize crc bs = cr at *
  have bcr := cr.isLt
  clear ht ha ha' hs ho hls hlo c1 c2 c3 c4
  go_enter Tryd.func6, Tryd.ntmps6
  go_wp2_with (first
    | (go_at_call 13; refine CA.out.mono ?_; rintro e w1 ⟨rfl, hb1⟩)
    | (go_at_call 47; (with_reducible refine (C1.out _ hb1).mono ?_); rintro e w2 ⟨A2, c2, rfl, hc2, ho2, hr2, hq2⟩; (have hb2 := bstep hb1 hq2))
    | (go_at_call 48; (with_reducible refine (C2.out _ hb2).mono ?_); rintro e w3 ⟨A3, c3, rfl, hc3, ho3, hr3, hq3⟩; (have hb3 := bstep hb2 hq3); (have hr2b := (hr2.below hq3).more hq3.size))
    | (go_at_call 49; (with_reducible refine (C3.out _ hb3).mono ?_); rintro e w4 ⟨A4, c4, rfl, hc4, hr4, hq4⟩; (have hb4 := bstep hb3 hq4); (have hr2c := (hr2b.below hq4).more hq4.size); (have hr3c := (hr3.below hq4).more hq4.size))
    | (go_at_call 50; (with_reducible refine (C4.out _ hb4).mono ?_); rintro e w5 ⟨A5, c5, rfl, hc5, hr5, hq5⟩; (have hb5 := bstep hb4 hq5); (have hr2d := (hr2c.below hq5).more hq5.size); (have hr3d := (hr3c.below hq5).more hq5.size); (have hr4d := (hr4.below hq5).more hq5.size))
    | (go_at_call 18; (with_reducible refine (same_at hr2d hr3d true (by simp)).mono ?_); rintro e wz ⟨rfl, rfl⟩)
    | (go_at_call 18; (with_reducible refine (same_at hr4d hr5 true (by simp)).mono ?_); rintro e wz ⟨rfl, rfl⟩)
    | (go_at_call 51; (with_reducible refine (C5.out _ hb5).mono ?_); rintro e wz ⟨rfl, rfl⟩)
    | (go_at_call 52; (with_reducible refine (C6.out _ hb5).mono ?_); rintro e wz ⟨rfl, rfl⟩))
  go_ret
  exact ⟨rfl, hb5⟩
end Go.Proofs.YtklihjgmmliejaaDoor.W
