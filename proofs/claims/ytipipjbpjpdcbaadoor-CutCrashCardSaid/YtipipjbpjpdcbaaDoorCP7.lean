/- slices.Grow from nothing, slices.Concat of two lists. -/
import Derived.Test.YtipipjbpjpdcbaaDoorCP6
namespace Go.Proofs.YtipipjbpjpdcbaaDoor.Ct
set_option linter.unusedVariables false
set_option linter.unusedSimpArgs false
open Go.RowKit
open Go.Proofs.YtipipjbpjpdcbaaDoor.W
open Go.Proofs.YtipipjbpjpdcbaaDoor.V
open Go.Proofs.YtipipjbpjpdcbaaDoor.O

theorem grow_any (n : Nat) (w : World) (hn : n ≤ 1099511627776) : Calls Tryd.prog 84 #[.slice none 0 0, .int .i64 (n : Int)] w fun e w' => ∃ v, e = .returned v ∧ w'.ownsRow w.heap.size 3 1 v ([] : List Int).length (([] : List Int).map intV) ∧ Below w.heap.size w w' := by
  rcases Nat.eq_zero_or_pos n with rfl | h0
  · refine (Any8.slices_Grow_room Tryd.growI none 0 0 0 w (Nat.le_refl _) (by omega) (by omega) (Nat.le_refl _)).mono ?_
    rintro e w' ⟨rfl, rfl⟩
    exact ⟨_, rfl, World.ownsRow_nil _ _ _ _, Below.refl _ _⟩
  · obtain ⟨i0, hi, hz0, hz1, hz2⟩ := info_parts intInfo
    refine (Any8.slices_Grow_grow Tryd.growI i0 (.int .i64 0) hi hz0 (by rw [hz1]; decide) none 0 0 n [] w (Nat.le_refl _) (by omega) (by rw [hz2]; omega) (by omega) (by simp) (fun _ => rfl) (fun a h => by cases h)).mono ?_
    rintro e w' ⟨rfl, rfl⟩
    obtain ⟨G, hG⟩ : ∃ G, G = grownCap w (0 + n) 0 3 := ⟨_, rfl⟩
    have h1 : 0 + n ≤ G := by rw [hG]; exact grownCap_ge w _ _ _
    have h2 : G ≤ maxLen := by rw [hG]; exact grownCap_le_maxLen w (0 + n) 0 3 (by unfold maxLen; omega)
    refine ⟨.slice (some ⟨w.heap.size, 0, none⟩) 0 G, by rw [hG]; rfl, ?_, ?_⟩
    · have hsz : (([] : List Value).toArray ++ Builtin.zeroCells (Value.cells (.int .i64 0)) (0 + n - 0) ++ Builtin.zeroCells (Value.cells (.int .i64 0)) (G - (0 + n))).size = G * 1 := by
        simp [Builtin.zeroCells, Value.cells]
        omega
      have e : Tryd.growI_ren.t 25 = 3 := rfl
      rw [e, ← hG]
      refine ⟨rfl, .inr ⟨w.heap.size, G, _, rfl, Nat.le_refl _, ?_, Nat.zero_le _, h2, hsz, by simp⟩⟩
      exact heap_alloc_new w.drew _
    · exact (Below.refl w.heap.size w).drew.alloc (by simp) _

set_option maxRecDepth 1000000 in
set_option maxHeartbeats 4000000 in
theorem concat2_any (a b : List Int) (A1 A2 : Option Addr) (n1 n2 c1 c2 cg g : Nat) (w : World) (hg : Blk w g 22 #[.slice A1 n1 c1, .slice A2 n2 c2]) (ha : Reads w w.heap.size 1 A1 n1 (a.map intV)) (hb : Reads w w.heap.size 1 A2 n2 (b.map intV)) (hn1 : n1 = a.length) (hn2 : n2 = b.length) (hm1 : n1 ≤ 1000000) (hm2 : n2 ≤ 1000000) :
    Calls Tryd.prog 74 #[.slice (some ⟨g, 0, none⟩) 2 cg] w (OwnI w (a ++ b)) := by
  have HG := Lib.hid (fun W (hW : Below w.heap.size w W) => blk2 (hg.below hW hg.lt))
  have R1 := Lib.hid (fun W (hW : Below w.heap.size w W) => ha.below hW)
  have R2 := Lib.hid (fun W (hW : Below w.heap.size w W) => hb.below hW)
  have KG := Lib.hid (fun W => grow_any (n1 + n2) W (by omega))
  have L1 := Lib.hid hn1
  have L2 := Lib.hid hn2
  obtain ⟨n3, hn3⟩ : ∃ n, n = n1 + n2 := ⟨_, rfl⟩
  rw [← hn3] at KG
  have w1 : IntKind.i64.wrap ((0 : Int) + (n1 : Int)) = (n1 : Int) := by rw [IntWalk.i64_in _ (by omega)]; omega
  have w2 : IntKind.i64.wrap ((n1 : Int) + (n2 : Int)) = (n3 : Int) := by rw [IntWalk.i64_in _ (by omega)]; omega
  have g1 : ¬ ((n1 : Int) < 0) := by omega
  have g3 : ¬ ((n3 : Int) < 0) := by omega
  have HN3 := Lib.hid hn3
  clear hg ha hb hn1 hn2 hn3
  have p0 := HG.out w (Below.refl _ _)
  go_enter Tryd.func74, Tryd.ntmps74
  go_wp2_with fail
  go_loopg [3, 5, 11] 2 (fun gk s3 _ s11 wr => w = wr ∧ ((gk = 2 ∧ s3 = .int .i64 0 ∧ s11 = .int .i64 0) ∨ (gk = 1 ∧ s3 = .int .i64 n1 ∧ s11 = .int .i64 1) ∨ (gk = 0 ∧ s3 = .int .i64 n3 ∧ s11 = .int .i64 2)))
  case atStart => exact ⟨rfl, .inl ⟨rfl, rfl, rfl⟩⟩
  case round =>
    obtain ⟨rfl, ⟨rfl, rfl, rfl⟩ | ⟨rfl, rfl, rfl⟩ | ⟨rfl, rfl, rfl⟩⟩ := hrel
    · go_wp2_with fail
      go_roundg 1
      case measure => omega
      case rel => exact ⟨rfl, .inr (.inl ⟨rfl, by go_num, by go_num⟩)⟩
    · go_wp2_with fail
      go_roundg 0
      case measure => omega
      case rel => exact ⟨rfl, .inr (.inr ⟨rfl, by go_num, by go_num⟩)⟩
    · go_wp2_with (first
        | (go_at_call 84; (with_reducible refine (KG.out _).mono ?_); rintro e w4 ⟨v4, rfl, ho4, hb4⟩)
        | fail)
      have HB4 := Lib.hid hb4
      clear hb4 p0
      have HO4 := Lib.hid ho4
      clear ho4 KG
      go_loopg [6, 8, 27] 2 (fun gk s6 _ s27 wr => Hid (Below w.heap.size w wr) ∧ ((gk = 2 ∧ s27 = .int .i64 0 ∧ Hid (wr.ownsRow w.heap.size 3 1 s6 ([] : List Int).length (([] : List Int).map intV))) ∨ (gk = 1 ∧ s27 = .int .i64 1 ∧ Hid (wr.ownsRow w.heap.size 3 1 s6 a.length (a.map intV))) ∨
        (gk = 0 ∧ s27 = .int .i64 2 ∧ Hid (wr.ownsRow w.heap.size 3 1 s6 (a ++ b).length ((a ++ b).map intV)))))
      case atStart => exact ⟨HB4.out, .inl ⟨rfl, rfl, HO4.out⟩⟩
      case round =>
        obtain ⟨HW, ⟨rfl, rfl, HO⟩ | ⟨rfl, rfl, HO⟩ | ⟨rfl, rfl, HO⟩⟩ := hrel
        · have p1 := HG.out _ HW.out
          go_wp2_with (first
            | (at_builtin; go_loud (refine wp_append_intsO _ rfl (.tmp 31) (.tmp 32) rfl w.heap.size _ [] a _ _ _ _ rfl HO.out rfl (R1.out _ HW.out) (by have := L1.out; simp; omega) HW.out.size ?_; intro v5 w5 ho5 hb5))
            | fail)
          go_roundg 1
          case measure => omega
          case rel => exact ⟨HW.out.trans hb5, .inr (.inl ⟨rfl, by go_num, ho5⟩)⟩
        · have p1 := HG.out _ HW.out
          go_wp2_with (first
            | (at_builtin; go_loud (refine wp_append_intsO _ rfl (.tmp 31) (.tmp 32) rfl w.heap.size _ a b _ _ _ _ rfl HO.out rfl (R2.out _ HW.out) (by have := L1.out; have := L2.out; omega) HW.out.size ?_; intro v5 w5 ho5 hb5))
            | fail)
          go_roundg 0
          case measure => omega
          case rel => exact ⟨HW.out.trans hb5, .inr (.inr ⟨rfl, by go_num, ho5⟩)⟩
        · go_wp2_with fail
          go_ret
          exact ⟨_, rfl, HO.out, HW.out⟩
end Go.Proofs.YtipipjbpjpdcbaaDoor.Ct
