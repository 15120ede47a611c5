/- Package fastvote: slices.Grow from nothing and slices.Concat of three, over ballots. -/
import Derived.Test.YtmnagkjdnmnbkaaFP5
import Derived.Lib.AppendZerosOnto
namespace Go.Proofs.Ytmnagkjdnmnbkaa.Fv
set_option linter.unusedVariables false
set_option linter.unusedSimpArgs false
open Go.RowKit
open Go.Proofs.Ytmnagkjdnmnbkaa.W
open Go.Proofs.Ytmnagkjdnmnbkaa.V

theorem blk3 {W : World} {g : Nat} {t : TypeId} {a b c : Value} (h : Blk W g t #[a, b, c]) : W.cell? ⟨g, 0, none⟩ = some a ∧ W.cell? ⟨g, 1, none⟩ = some b ∧ W.cell? ⟨g, 2, none⟩ = some c := ⟨h.cell 0, h.cell 1, h.cell 2⟩
/-- Ballots appended to a row of the call's own, wherever they lie. -/
theorem wp_append_bals {ops : Array Oper} {rest : List Oper} {o : Oper} {a : Act} {Q : Exit → Act → World → Prop} (W : World) (hgd : o.guard = none) (s x : Operand)
    (ho : o.op = .call { callee := .builtin .append, args := #[s, x], argTypes := #[25, 25] }) (base : Nat) (v : Value) (es news : List Pbl) (B m c : Nat) (A : Option Addr) (hs : a.eval s = v)
    (hown : W.ownsRow base 27 2 v es.length (balsC es)) (hx : a.eval x = .slice A m c) (hr : Reads W B 2 A m (balsC news)) (hm : m = news.length)
    (hl : es.length + m ≤ 1099511627776) (hbase : base ≤ W.heap.size)
    (h : ∀ v' w', w'.ownsRow base 27 2 v' (es ++ news).length (balsC (es ++ news)) → Below base W w' → wpList Try.prog ops Q rest (a.put o.dst v') w') : wpList Try.prog ops Q (o :: rest) a W := by
  obtain ⟨i0, hi, hz0, hz1, hz2⟩ := info_parts balInfo
  refine wpList_append_any W hgd s x 25 ho base 27 i0 _ 2 32 Try.underlying25 hi hz0 hz1 hz2 rfl (by decide) v _ _ hs hown B A m c _ hx hr (balsC_cell _) ?_ ?_ hbase ?_
  · unfold maxLen; omega
  · omega
  · intro v' w' h1 h2 _
    refine h v' w' ?_ ((Below.refl _ _).grown h2 hbase fun q hq => (hown.lt q hq).1)
    rw [balsC_app, List.length_append, ← hm]
    exact h1
set_option maxRecDepth 1000000 in
set_option maxHeartbeats 4000000 in
theorem growB_any (n : Nat) (w : World) (h0 : 1 ≤ n) (hn : n ≤ 1000000) : Calls Try.prog 43 #[.slice none 0 0, .int .i64 (n : Int)] w fun e w' => ∃ v, e = .returned v ∧ w'.ownsRow w.heap.size 27 2 v ([] : List Pbl).length (balsC []) ∧ Below w.heap.size w w' := by
  obtain ⟨i0, hi, hz0, hz1, hz2⟩ := info_parts balInfo
  have h1 : ¬ ((n : Int) < 0) := by omega
  have h3 : IntKind.i64.wrap (n : Int) = (n : Int) := by rw [IntWalk.i64_in _ (by omega)]
  have h4 : (0 : Int) < (n : Int) := by omega
  have hck : 0 + n = n := by omega
  obtain ⟨G, hG⟩ : ∃ G, G = grownCap w n 0 27 := ⟨_, rfl⟩
  have g1 : n ≤ G := by rw [hG]; exact grownCap_ge w _ _ _
  have g2 : G ≤ maxLen := by rw [hG]; exact grownCap_le_maxLen w n 0 27 (by unfold maxLen; omega)
  have g3 : G ≤ 9223372036854775807 := by unfold maxLen at g2; omega
  obtain ⟨Z, hZ⟩ : ∃ Z, Z = (#[] : Array Value) ++ Builtin.zeroCells (Value.cells (.agg #[.int .i64 0, .slice none 0 0])) n ++ Builtin.zeroCells (Value.cells (.agg #[.int .i64 0, .slice none 0 0])) (G - n) := ⟨_, rfl⟩
  have hrz : ∀ ty, (Builtin.append_ #[25, 3] ty #[.slice none 0 0, .int .i64 (n : Int)]).run Try.prog w =
      .ok (.slice (some ⟨w.heap.size, 0, none⟩) n G) (w.drew.alloc (.cells Z 27)) := fun ty => by
    have h := Lib.run_append_grow_zeros w 25 3 ty 27 i0 (.agg #[.int .i64 0, .slice none 0 0]) .i64 .i64 Try.underlying25 Try.underlying3 hi hz0 none 0 0 [] (run_firstCells_none w.drew i0.size 0 0 0) n (by omega) (by rw [hz1]; decide) (by omega) (by omega)
      (by rw [hz2]; omega) (by rw [hck]; exact growslice_fits (by omega) (by rw [hz2]; omega))
    rw [hck, ← hG, ← hZ] at h
    exact h
  have HZ := Lib.hid (show Z.size = G * 2 by rw [hZ]; simp [Builtin.zeroCells, Value.cells]; omega)
  have HB := Lib.hid (show Below w.heap.size w (w.drew.alloc (.cells Z 27)) from (Below.refl w.heap.size w).drew.alloc (by simp) _)
  have G2 := Lib.hid g2
  clear hG hZ hi hz0 hz1 hz2 hck g2
  go_enter Try.func43, Try.ntmps43
  go_wp2_with (at_builtin; refine Lib.wpList_append_run _ rfl _ _ _ _ rfl _ _ rfl rfl _ _ (hrz _) ?_)
  go_ret
  refine ⟨.slice (some ⟨w.heap.size, 0, none⟩) 0 G, rfl, ?_, HB.out⟩
  exact ⟨rfl, .inr ⟨w.heap.size, G, _, rfl, Nat.le_refl _, heap_alloc_new w.drew _, Nat.zero_le _, G2.out, HZ.out, by simp [balsC]⟩⟩

/-- Ballots of the call's own come back. -/
def OwnB (w : World) (s : List Pbl) (e : Ending) (w' : World) : Prop := ∃ v, e = .returned v ∧ w'.ownsRow w.heap.size 27 2 v s.length (balsC s) ∧ Below w.heap.size w w'
set_option maxRecDepth 1000000 in
set_option maxHeartbeats 8000000 in
theorem concat3_any (a b d : List Pbl) (A1 A2 A3 : Option Addr) (n1 n2 n3 c1 c2 c3 cg g : Nat) (w : World) (hg : Blk w g 25 #[.slice A1 n1 c1, .slice A2 n2 c2, .slice A3 n3 c3])
    (ha : Reads w w.heap.size 2 A1 n1 (balsC a)) (hb : Reads w w.heap.size 2 A2 n2 (balsC b)) (hd : Reads w w.heap.size 2 A3 n3 (balsC d))
    (hn1 : n1 = a.length) (hn2 : n2 = b.length) (hn3 : n3 = d.length) (hm1 : n1 ≤ 10000) (hm2 : n2 ≤ 10000) (hm3 : n3 ≤ 10000) (h1 : 1 ≤ n2) :
    Calls Try.prog 28 #[.slice (some ⟨g, 0, none⟩) 3 cg] w (OwnB w (a ++ b ++ d)) := by
  have HG := Lib.hid (fun W (hW : Below w.heap.size w W) => blk3 (hg.below hW hg.lt))
  have R1 := Lib.hid (fun W (hW : Below w.heap.size w W) => ha.below hW)
  have R2 := Lib.hid (fun W (hW : Below w.heap.size w W) => hb.below hW)
  have R3 := Lib.hid (fun W (hW : Below w.heap.size w W) => hd.below hW)
  have KG := Lib.hid (fun W => growB_any (n1 + n2 + n3) W (by omega) (by omega))
  have L1 := Lib.hid hn1
  have L2 := Lib.hid hn2
  have L3 := Lib.hid hn3
  obtain ⟨m2, hm2'⟩ : ∃ n, n = n1 + n2 := ⟨_, rfl⟩
  obtain ⟨m3, hm3'⟩ : ∃ n, n = m2 + n3 := ⟨_, rfl⟩
  rw [← hm2', ← hm3'] at KG
  have w1 : IntKind.i64.wrap ((0 : Int) + (n1 : Int)) = (n1 : Int) := by rw [IntWalk.i64_in _ (by omega)]; omega
  have w2 : IntKind.i64.wrap ((n1 : Int) + (n2 : Int)) = (m2 : Int) := by rw [IntWalk.i64_in _ (by omega)]; omega
  have w3 : IntKind.i64.wrap ((m2 : Int) + (n3 : Int)) = (m3 : Int) := by rw [IntWalk.i64_in _ (by omega)]; omega
  have g1 : ¬ ((n1 : Int) < 0) := by omega
  have g2 : ¬ ((m2 : Int) < 0) := by omega
  have g3 : ¬ ((m3 : Int) < 0) := by omega
  have HM2 := Lib.hid hm2'
  have HM3 := Lib.hid hm3'
  clear hg ha hb hd hn1 hn2 hn3 hm2' hm3'
  have p0 := HG.out w (Below.refl _ _)
  go_enter Try.func28, Try.ntmps28
  go_wp2_with fail
  go_loopg [3, 5, 11] 3 (fun gk s3 _ s11 wr => w = wr ∧ ((gk = 3 ∧ s3 = .int .i64 0 ∧ s11 = .int .i64 0) ∨ (gk = 2 ∧ s3 = .int .i64 n1 ∧ s11 = .int .i64 1) ∨ (gk = 1 ∧ s3 = .int .i64 m2 ∧ s11 = .int .i64 2) ∨ (gk = 0 ∧ s3 = .int .i64 m3 ∧ s11 = .int .i64 3)))
  case atStart => exact ⟨rfl, .inl ⟨rfl, rfl, rfl⟩⟩
  case round =>
    obtain ⟨rfl, ⟨rfl, rfl, rfl⟩ | ⟨rfl, rfl, rfl⟩ | ⟨rfl, rfl, rfl⟩ | ⟨rfl, rfl, rfl⟩⟩ := hrel
    · go_wp2_with fail
      go_roundg 2
      case measure => omega
      case rel => exact ⟨rfl, .inr (.inl ⟨rfl, by go_num, by go_num⟩)⟩
    · go_wp2_with fail
      go_roundg 1
      case measure => omega
      case rel => exact ⟨rfl, .inr (.inr (.inl ⟨rfl, by go_num, by go_num⟩))⟩
    · go_wp2_with fail
      go_roundg 0
      case measure => omega
      case rel => exact ⟨rfl, .inr (.inr (.inr ⟨rfl, by go_num, by go_num⟩))⟩
    · go_wp2_with (first
        | (go_at_call 43; (with_reducible refine (KG.out _).mono ?_); rintro e w4 ⟨v4, rfl, ho4, hb4⟩)
        | fail)
      have HB4 := Lib.hid hb4
      clear hb4 p0
      have HO4 := Lib.hid ho4
      clear ho4 KG
      go_loopg [6, 8, 27] 3 (fun gk s6 _ s27 wr => Hid (Below w.heap.size w wr) ∧ ((gk = 3 ∧ s27 = .int .i64 0 ∧ Hid (wr.ownsRow w.heap.size 27 2 s6 ([] : List Pbl).length (balsC []))) ∨ (gk = 2 ∧ s27 = .int .i64 1 ∧ Hid (wr.ownsRow w.heap.size 27 2 s6 a.length (balsC a))) ∨
        (gk = 1 ∧ s27 = .int .i64 2 ∧ Hid (wr.ownsRow w.heap.size 27 2 s6 (a ++ b).length (balsC (a ++ b)))) ∨ (gk = 0 ∧ s27 = .int .i64 3 ∧ Hid (wr.ownsRow w.heap.size 27 2 s6 (a ++ b ++ d).length (balsC (a ++ b ++ d))))))
      case atStart => exact ⟨HB4.out, .inl ⟨rfl, rfl, HO4.out⟩⟩
      case round =>
        obtain ⟨HW, ⟨rfl, rfl, HO⟩ | ⟨rfl, rfl, HO⟩ | ⟨rfl, rfl, HO⟩ | ⟨rfl, rfl, HO⟩⟩ := hrel
        · have p1 := HG.out _ HW.out
          go_wp2_with (first
            | (at_builtin; go_loud (refine wp_append_bals _ rfl (.tmp 31) (.tmp 32) rfl w.heap.size _ [] a _ _ _ _ rfl HO.out rfl (R1.out _ HW.out) L1.out (by simp; omega) HW.out.size ?_; intro v5 w5 ho5 hb5))
            | fail)
          go_roundg 2
          case measure => omega
          case rel => exact ⟨HW.out.trans hb5, .inr (.inl ⟨rfl, by go_num, ho5⟩)⟩
        · have p1 := HG.out _ HW.out
          go_wp2_with (first
            | (at_builtin; go_loud (refine wp_append_bals _ rfl (.tmp 31) (.tmp 32) rfl w.heap.size _ a b _ _ _ _ rfl HO.out rfl (R2.out _ HW.out) L2.out (by have := L1.out; omega) HW.out.size ?_; intro v5 w5 ho5 hb5))
            | fail)
          go_roundg 1
          case measure => omega
          case rel => exact ⟨HW.out.trans hb5, .inr (.inr (.inl ⟨rfl, by go_num, ho5⟩))⟩
        · have p1 := HG.out _ HW.out
          have LAB := Lib.hid (show (a ++ b).length = n1 + n2 by rw [List.length_append, L1.out, L2.out])
          obtain ⟨ab, hab⟩ : ∃ q, q = a ++ b := ⟨_, rfl⟩
          rw [← hab] at HO LAB
          have HAB := Lib.hid hab
          clear hab
          go_wp2_with (first
            | (at_builtin; go_loud (refine wp_append_bals _ rfl (.tmp 31) (.tmp 32) rfl w.heap.size _ ab d _ _ _ _ rfl HO.out rfl (R3.out _ HW.out) L3.out (by have := LAB.out; omega) HW.out.size ?_; intro v5 w5 ho5 hb5))
            | fail)
          go_roundg 0
          case measure => omega
          case rel => exact ⟨HW.out.trans hb5, .inr (.inr (.inr ⟨rfl, by go_num, by rw [← HAB.out]; exact ho5⟩))⟩
        · go_wp2_with fail
          go_ret
          exact ⟨_, rfl, HO.out, HW.out⟩
end Go.Proofs.Ytmnagkjdnmnbkaa.Fv
