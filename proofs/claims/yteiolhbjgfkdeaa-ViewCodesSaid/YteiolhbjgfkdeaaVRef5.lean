/- The reference of layer 3: Encode, Decode; the law's own same, ones. -/
import Derived.Test.YteiolhbjgfkdeaaVRef4
import Derived.Test.YteiolhbjgfkdeaaWMath6
import Derived.Deep.RegionHeld3
namespace Go.Proofs.Yteiolhbjgfkdeaa.V
set_option linter.unusedVariables false
open Go.RowKit
open Go.Proofs.Yteiolhbjgfkdeaa.W
open Go.Lib (byteCells byteCells_length byteCells_append byteCells_snoc)

theorem step_append_bytes3 {ops : Array Oper} {o : Oper} {a : Act} {K : Act → World → Prop} {Q : Exit → Act → World → Prop} {E : Prop} (W : World) (hgd : o.guard = none) (s x : Operand)
    (ho : o.op = .call { callee := .builtin .append, args := #[s, x], argTypes := #[40, 40] }) (base : Nat) (v : Value) (l news : List UInt8) (B m c : Nat) (A : Option Addr) (hs : a.eval s = v)
    (hown : W.ownsRow base 5 1 v l.length (byteCells l)) (hx : a.eval x = .slice A m c) (hr : Reads W B 1 A m (byteCells news))
    (hl : l.length + news.length ≤ 8796093022208) (hbase : base ≤ W.heap.size)
    (h : ∀ v' w', w'.ownsRow base 5 1 v' (l ++ news).length (byteCells (l ++ news)) → Below base W w' → K (a.put o.dst v') w') :
    if Region.wanted o (yielded ops a.tmps) = true then Oper.wp Try.prog o a W K Q else E := by
  obtain ⟨i0, hi, hz0, hz1, hz2⟩ := info_parts u8Info
  have hm := hr.len
  refine step_append_any W hgd s x 40 ho base 5 i0 _ 1 1 Try.underlying40 hi hz0 hz1 hz2 rfl (by decide) v _ _ hs hown B A m c _ hx hr (byteCells_one' _) ?_ ?_ hbase ?_
  · unfold maxLen; omega
  · omega
  · intro v' w' h1 h2 _
    refine h v' w' ?_ ((Below.refl _ _).grown h2 hbase fun q hq => (hown.lt q hq).1)
    rw [byteCells_append, List.length_append, ← hm]
    exact h1
/-- The encoding of a view, and the reading of one. -/
def encV (num : Int) (l : List Int) : List UInt8 := if validV num l then enU num.toNat ++ enIs l else []
def decV (b : List UInt8) : ((Int × List Int) × Nat) × Nat :=
  if (rdU b).2.2 ≠ 0 then (((0, []), 0), (rdU b).2.2)
  else if 1099511627776 < (rdU b).1 then (((0, []), 0), 3)
  else if (rdIs (b.drop (rdU b).2.1) 16).2.2 ≠ 0 then (((0, []), 0), (rdIs (b.drop (rdU b).2.1) 16).2.2)
  else if validM (rdIs (b.drop (rdU b).2.1) 16).1 = false then (((0, []), 0), 3)
  else ((((rdU b).1, (rdIs (b.drop (rdU b).2.1) 16).1), (rdU b).2.1 + (rdIs (b.drop (rdU b).2.1) 16).2.1), 0)
set_option maxRecDepth 100000 in
set_option maxHeartbeats 1000000 in
theorem refEncode_any (num : Int) (l : List Int) (A : Option Addr) (c B : Nat) (w : World) (h : VW w B num l A c) (hB : B ≤ w.heap.size) :
    Calls Try.prog 39 #[vwV num A l.length c] w (OwnPost w.heap.size w (encV num l)) := by
  have h01 := (Below.refl w.heap.size w).alloc (Nat.le_refl _) (.cells #[.int .i64 num, .slice A l.length c] 31)
  have hk := Blk.new w 31 #[.int .i64 num, .slice A l.length c]
  have hs0 : (w.alloc (.cells #[.int .i64 num, .slice A l.length c] 31)).heap.size = w.heap.size + 1 := by simp
  have CV := Lib.hid (fun W (hW : Below w.heap.size w W) => refValid_any num l A c w.heap.size W ((h.more hB).below hW) hW.size)
  have K0 := Lib.hid (fun W (hW : Below (w.alloc (.cells #[.int .i64 num, .slice A l.length c] 31)).heap.size (w.alloc (.cells #[.int .i64 num, .slice A l.length c] 31)) W) => hk.below hW hk.lt)
  have FB := Lib.hid (fun W (hW : Below (w.alloc (.cells #[.int .i64 num, .slice A l.length c] 31)).heap.size (w.alloc (.cells #[.int .i64 num, .slice A l.length c] 31)) W) => h01.trans (hW.mono (by rw [hs0]; omega)))
  cases h1 : validV num l
  · have ht := Lib.hid (show encV num l = [] by unfold encV; rw [h1]; simp)
    rw [h1] at CV
    dsimp only [vwV] at *
    clear h hk hs0
    go_enter Try.func39, Try.ntmps39
    go_wp2_with (go_at_call 28; (with_reducible refine (CV.out _ h01).mono ?_); rintro e w1 ⟨rfl, b1⟩)
    go_ret
    exact ⟨_, rfl, by rw [ht.out]; exact World.ownsRow_nil _ _ _ _, FB.out _ b1⟩
  · have g := validV_iff.1 h1
    obtain ⟨N, rfl⟩ : ∃ N : Nat, num = (N : Int) := ⟨num.toNat, by omega⟩
    have ht := Lib.hid (show encV (N : Int) l = enU N ++ enIs l by unfold encV; rw [h1]; simp)
    have gm := validM_iff.1 g.2.2
    have hle := enU_len (x := N) (by omega)
    have hli : (enIs l).length ≤ 200 := by
      have e1 := enU_len (x := l.length) (by omega)
      have e2 := enIs_len h.el
      rw [enIs, List.length_append]; omega
    have CU := Lib.hid (fun W => (refUint_any N W (by omega)).mono fun _ _ h => h.to (enU N) (enU N).length rfl rfl)
    have CI := Lib.hid (fun W (hW : Below w.heap.size w W) => (refIntsList_any A c l W (((h.rd.more hB).below hW).more hW.size) (by omega) h.l40 h.el).mono fun _ _ h => h.to (enIs l) (enIs l).length rfl rfl)
    have n0 := g.1
    have n1 := g.2.1
    have n2 : N ≤ 1099511627776 := by omega
    have wu : IntKind.u64.wrap (N : Int) = (N : Int) := by rw [IntKind.wrap_u64]; omega
    rw [h1] at CV
    generalize enU N = EU at *
    generalize enIs l = EI at *
    dsimp only [vwV] at *
    clear h hk hs0 g gm
    go_enter Try.func39, Try.ntmps39
    go_wp2_with (go_at_call 28; (with_reducible refine (CV.out _ h01).mono ?_); rintro e w1 ⟨rfl, b1⟩)
    have B1 := Lib.hid (K0.out _ b1)
    have hb1 := FB.out _ b1
    go_region_held3 (fun w' => w'.cell? ⟨w.heap.size, 0, none⟩ = some (.int .i64 (N : Int)) ∧ w'.cell? ⟨w.heap.size, 1, none⟩ = some (.slice A l.length c))
      (first | exact blk2 B4.out | exact blk2 B3.out | exact blk2 B2.out | exact blk2 B1.out | fail)
      (first
        | (go_at_call 59; (with_reducible refine (CU.out _).mono ?_); rintro e w2 ⟨A2, c2, rfl, hc2, ho2, hr2, hq2⟩; (have j2 : Below w1.heap.size w1 w2 := ((Below.refl _ _).drew).trans hq2); (have B2 := Lib.hid (B1.out.below j2 B1.out.lt)); (have hb2 := bstep hb1 j2))
        | (go_at_call 60; (with_reducible refine (CI.out _ (by exact hb2)).mono ?_); rintro e w3 ⟨A3, c3, rfl, hc3, ho3, hr3, hq3⟩; (have j3 := bstep j2 hq3); (have B3 := Lib.hid (B1.out.below j3 B1.out.lt)); (have hb3 := bstep hb1 j3); (have O3 := Lib.hid (own_below ho2 hq3)))
        | (refine step_append_bytes3 _ rfl (.tmp 9) (.tmp 12) rfl w1.heap.size _ EU EI _ _ _ _ rfl O3.out rfl hr3 (by omega) j3.size ?_; intro v4 w4 ho4 hq4; have j4 : Below w1.heap.size w1 w4 := j3.trans hq4; have hb4 := bstep hb1 j4; have B4 := Lib.hid (B1.out.below j4 B1.out.lt))
        | fail)
    all_goals
      go_wp2
      go_ret
      exact ⟨_, rfl, by rw [ht.out]; exact own_base ho4 hb1.size, hb4⟩
end Go.Proofs.Yteiolhbjgfkdeaa.V
