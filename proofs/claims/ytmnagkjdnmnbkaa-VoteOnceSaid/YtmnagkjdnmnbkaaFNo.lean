/- The laws of layer 8 at arguments that are not small. -/
import Derived.Test.YtmnagkjdnmnbkaaFCasts
import Derived.Test.YtmnagkjdnmnbkaaFCounts
namespace Go.Proofs.Ytmnagkjdnmnbkaa.Fv
set_option linter.unusedVariables false
set_option linter.unusedSimpArgs false
open Go.RowKit
open Go.Proofs.Ytmnagkjdnmnbkaa.W
open Go.Proofs.Ytmnagkjdnmnbkaa.V

set_option maxRecDepth 1000000 in
set_option maxHeartbeats 4000000 in
theorem casts_no (C : VoteC) (num : Int) (A E : Option Addr) (n c cE : Nat) (ps : List Pbl) (bm : Int) (bp X Y : Option Addr) (bc nb nx cX ny cY : Nat) (w : World) (hr : Reads w w.heap.size 2 E ps.length (balsC ps)) (hm : ps.length ≤ 9223372036854775807) (hbad : ¬ (smallF n ps = true ∧ nb ≤ 60 ∧ nx ≤ 100 ∧ ny ≤ 100)) :
    Calls Try.prog 3 #[.agg #[.int .i64 num, .slice A n c], .slice E ps.length cE, .agg #[.int .i64 bm, .slice bp nb bc], .slice X nx cX, .slice Y ny cY] w (PB w true) := by
  have hb0 := boxes2 w #[.int .i64 num, .slice A n c] #[.int .i64 bm, .slice bp nb bc] 24 27
  have hz := two_blk w 24 27 #[.int .i64 num, .slice A n c] #[.int .i64 bm, .slice bp nb bc]
  have AW := Lib.hid (fun W => awake_of C W)
  have KM := Lib.hid (fun W (hW : Below w.heap.size w W) => small8_any num A E n c cE w.heap.size ps W (hr.below hW) hW.size hm)
  have B0 := Lib.hid hb0
  have Z1 := Lib.hid hz.1
  have Z2 := Lib.hid hz.2
  generalize smallF n ps = t at *
  generalize ps.length = ns at *
  clear hb0 hz hr hm
  cases t
  · clear hbad
    go_enter Try.func3, Try.ntmps3
    go_upto_region 1 with fail
    generalize (w.alloc (.cells #[.int .i64 num, .slice A n c] 24)).alloc (.cells #[.int .i64 bm, .slice bp nb bc] 27) = w0 at *
    have FB := Lib.hid (fun W (hW : Below w0.heap.size w0 W) => And.intro (blk2 (Z1.out.below hW Z1.out.lt)) (blk2 (Z2.out.below hW Z2.out.lt)))
    go_wp2_with (first
      | (go_at_call 7; (with_reducible refine (AW.out _).mono ?_); rintro e w1 ⟨rfl, q1⟩; (have c1 := below2 B0.out q1); (have p1 := FB.out _ q1))
      | (go_at_call 8; (with_reducible refine (KM.out _ c1).mono ?_); rintro e w2 ⟨rfl, q2⟩; (have c2 := below2 c1 q2); (have p2 := FB.out _ (below2 q1 q2)))
      | fail)
    go_ret
    exact ⟨rfl, c2⟩
  by_cases h0 : 60 < nb
  · have ddnb : decide ((60 : Int) < (nb : Int)) = true := by simp; omega
    clear h0 hbad
    go_enter Try.func3, Try.ntmps3
    go_upto_region 1 with fail
    generalize (w.alloc (.cells #[.int .i64 num, .slice A n c] 24)).alloc (.cells #[.int .i64 bm, .slice bp nb bc] 27) = w0 at *
    have FB := Lib.hid (fun W (hW : Below w0.heap.size w0 W) => And.intro (blk2 (Z1.out.below hW Z1.out.lt)) (blk2 (Z2.out.below hW Z2.out.lt)))
    go_wp2_with (first
      | (go_at_call 7; (with_reducible refine (AW.out _).mono ?_); rintro e w1 ⟨rfl, q1⟩; (have c1 := below2 B0.out q1); (have p1 := FB.out _ q1))
      | (go_at_call 8; (with_reducible refine (KM.out _ c1).mono ?_); rintro e w2 ⟨rfl, q2⟩; (have c2 := below2 c1 q2); (have p2 := FB.out _ (below2 q1 q2)))
      | fail)
    go_ret
    exact ⟨rfl, c2⟩
  have ddnb : decide ((60 : Int) < (nb : Int)) = false := by simp; omega
  by_cases h1 : 100 < nx
  · have ddnx : decide ((100 : Int) < (nx : Int)) = true := by simp; omega
    clear h1 hbad
    go_enter Try.func3, Try.ntmps3
    go_upto_region 1 with fail
    generalize (w.alloc (.cells #[.int .i64 num, .slice A n c] 24)).alloc (.cells #[.int .i64 bm, .slice bp nb bc] 27) = w0 at *
    have FB := Lib.hid (fun W (hW : Below w0.heap.size w0 W) => And.intro (blk2 (Z1.out.below hW Z1.out.lt)) (blk2 (Z2.out.below hW Z2.out.lt)))
    go_wp2_with (first
      | (go_at_call 7; (with_reducible refine (AW.out _).mono ?_); rintro e w1 ⟨rfl, q1⟩; (have c1 := below2 B0.out q1); (have p1 := FB.out _ q1))
      | (go_at_call 8; (with_reducible refine (KM.out _ c1).mono ?_); rintro e w2 ⟨rfl, q2⟩; (have c2 := below2 c1 q2); (have p2 := FB.out _ (below2 q1 q2)))
      | fail)
    go_ret
    exact ⟨rfl, c2⟩
  have ddnx : decide ((100 : Int) < (nx : Int)) = false := by simp; omega
  have h2 : 100 < ny := by
    refine Classical.byContradiction fun h => hbad ⟨rfl, by omega, by omega, by omega⟩
  have ddny : decide ((100 : Int) < (ny : Int)) = true := by simp; omega
  clear h2 hbad h0 h1
  go_enter Try.func3, Try.ntmps3
  go_upto_region 1 with fail
  generalize (w.alloc (.cells #[.int .i64 num, .slice A n c] 24)).alloc (.cells #[.int .i64 bm, .slice bp nb bc] 27) = w0 at *
  have FB := Lib.hid (fun W (hW : Below w0.heap.size w0 W) => And.intro (blk2 (Z1.out.below hW Z1.out.lt)) (blk2 (Z2.out.below hW Z2.out.lt)))
  go_wp2_with (first
    | (go_at_call 7; (with_reducible refine (AW.out _).mono ?_); rintro e w1 ⟨rfl, q1⟩; (have c1 := below2 B0.out q1); (have p1 := FB.out _ q1))
    | (go_at_call 8; (with_reducible refine (KM.out _ c1).mono ?_); rintro e w2 ⟨rfl, q2⟩; (have c2 := below2 c1 q2); (have p2 := FB.out _ (below2 q1 q2)))
    | fail)
  go_ret
  exact ⟨rfl, c2⟩
set_option maxRecDepth 1000000 in
set_option maxHeartbeats 4000000 in
theorem counts_no (C : VoteC) (num : Int) (A E : Option Addr) (n c cE : Nat) (ps : List Pbl) (Y : Option Addr) (ny cY : Nat) (w : World) (hr : Reads w w.heap.size 2 E ps.length (balsC ps)) (hm : ps.length ≤ 9223372036854775807) (hbad : ¬ (smallF n ps = true ∧ ny ≤ 60)) :
    Calls Try.prog 4 #[.agg #[.int .i64 num, .slice A n c], .slice E ps.length cE, .slice Y ny cY] w (PB w true) := by
  have hb0 := (Below.refl w.heap.size w).alloc (Nat.le_refl _) (.cells #[.int .i64 num, .slice A n c] 24)
  have hz := Blk.new w 24 #[.int .i64 num, .slice A n c]
  have AW := Lib.hid (fun W => awake_of C W)
  have KM := Lib.hid (fun W (hW : Below w.heap.size w W) => small8_any num A E n c cE w.heap.size ps W (hr.below hW) hW.size hm)
  have B0 := Lib.hid hb0
  have Z1 := Lib.hid hz
  generalize smallF n ps = t at *
  generalize ps.length = ns at *
  clear hb0 hz hr hm
  cases t
  · clear hbad
    go_enter Try.func4, Try.ntmps4
    go_upto_region 1 with fail
    generalize w.alloc (.cells #[.int .i64 num, .slice A n c] 24) = w0 at *
    have FB := Lib.hid (fun W (hW : Below w0.heap.size w0 W) => blk2 (Z1.out.below hW Z1.out.lt))
    go_wp2_with (first
      | (go_at_call 7; (with_reducible refine (AW.out _).mono ?_); rintro e w1 ⟨rfl, q1⟩; (have c1 := below2 B0.out q1); (have p1 := FB.out _ q1))
      | (go_at_call 8; (with_reducible refine (KM.out _ c1).mono ?_); rintro e w2 ⟨rfl, q2⟩; (have c2 := below2 c1 q2); (have p2 := FB.out _ (below2 q1 q2)))
      | fail)
    go_ret
    exact ⟨rfl, c2⟩
  have h0 : 60 < ny := by
    refine Classical.byContradiction fun h => hbad ⟨rfl, by omega⟩
  have ddny : decide ((60 : Int) < (ny : Int)) = true := by simp; omega
  clear h0 hbad
  go_enter Try.func4, Try.ntmps4
  go_upto_region 1 with fail
  generalize w.alloc (.cells #[.int .i64 num, .slice A n c] 24) = w0 at *
  have FB := Lib.hid (fun W (hW : Below w0.heap.size w0 W) => blk2 (Z1.out.below hW Z1.out.lt))
  go_wp2_with (first
    | (go_at_call 7; (with_reducible refine (AW.out _).mono ?_); rintro e w1 ⟨rfl, q1⟩; (have c1 := below2 B0.out q1); (have p1 := FB.out _ q1))
    | (go_at_call 8; (with_reducible refine (KM.out _ c1).mono ?_); rintro e w2 ⟨rfl, q2⟩; (have c2 := below2 c1 q2); (have p2 := FB.out _ (below2 q1 q2)))
    | fail)
  go_ret
  exact ⟨rfl, c2⟩
end Go.Proofs.Ytmnagkjdnmnbkaa.Fv
