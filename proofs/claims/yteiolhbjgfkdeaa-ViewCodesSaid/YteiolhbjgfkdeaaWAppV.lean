/- ValidValue and AppendValue. -/
import Derived.Test.YteiolhbjgfkdeaaWValid
import Derived.Deep.RegionHeld3
import Derived.Deep.DeepCutAuto
import Derived.Deep.RegionWith
import Derived.Deep.RegionLaw
namespace Go.Proofs.Yteiolhbjgfkdeaa.W
set_option linter.unusedVariables false
open Go.RowKit
open Go.Lib (byteCells byteCells_length byteCells_append byteCells_snoc unzigzag zigzag uvarint_small uvarint_big)

/- APPEND -/
theorem own_base {w : World} {base base' : Nat} {e : TypeId} {size : Nat} {v : Value} {n : Nat} {xs : List Value} (h : w.ownsRow base' e size v n xs) (hb : base ≤ base') : w.ownsRow base e size v n xs := by
  refine ⟨h.1, ?_⟩
  rcases h.2 with h0 | ⟨g, cap, cur, h1, h2, h3⟩
  · exact .inl h0
  · exact .inr ⟨g, cap, cur, h1, by omega, h3⟩
theorem step_append_byte {ops : Array Oper} {o : Oper} {a : Act} {K : Act → World → Prop} {Q : Exit → Act → World → Prop} {E : Prop} (W : World) (hgd : o.guard = none) (s x : Operand)
    (ho : o.op = .call { callee := .builtin .append, args := #[s, x], argTypes := #[40, 40] }) (base : Nat) (v : Value) (l : List UInt8) (z g : Nat) (zi : Int) (hs : a.eval s = v)
    (hown : W.ownsRow base 5 1 v l.length (byteCells l)) (hx : a.eval x = .slice (some ⟨g, 0, none⟩) 1 1) (hcell : W.cell? ⟨g, 0, none⟩ = some (.int .u8 zi)) (hzi : zi = (z : Int)) (hz : z < 256)
    (hl : l.length ≤ 4398046521104) (hbase : base ≤ W.heap.size)
    (h : ∀ v' w', w'.ownsRow base 5 1 v' (l ++ [z.toUInt8]).length (byteCells (l ++ [z.toUInt8])) → Below base W w' → K (a.put o.dst v') w') :
    if Region.wanted o (yielded ops a.tmps) = true then Oper.wp Try.prog o a W K Q else E := by
  obtain ⟨i0, hi, hz0, hz1, hz2⟩ := info_parts u8Info
  subst hzi
  have hrd : Reads W (g + 1) 1 (some ⟨g, 0, none⟩) 1 [.int .u8 (z : Int)] := ⟨rfl, fun _ => ⟨_, rfl, Nat.lt_succ_self g, fun j u hu => by
    match j, hu with
    | 0, hu => simp at hu; subst hu; simpa [Addr.add] using hcell⟩⟩
  refine step_append_any W hgd s x 40 ho base 5 i0 _ 1 1 Try.underlying40 hi hz0 hz1 hz2 rfl (by decide) v _ _ hs hown (g + 1) (some ⟨g, 0, none⟩) 1 1 _ hx hrd ?_ ?_ ?_ hbase ?_
  · intro u hu; simp at hu; subst hu; rfl
  · unfold maxLen; omega
  · omega
  · intro v' w' h1 h2 _
    refine h v' w' ?_ ((Below.refl _ _).grown h2 hbase fun q hq => (hown.lt q hq).1)
    rw [byteCells_snoc _ hz]
    simpa using h1
theorem GVarg.below {w W : World} {B : Nat} {v : GV} {I L : Option Addr} {ci cl : Nat} (h : GVarg w B v I L ci cl) (hb : Below B w W) : GVarg W B v I L ci cl :=
  { h with ri := h.ri.below hb, rl := h.rl.below hb }
theorem GVarg.more {w : World} {B B' : Nat} {v : GV} {I L : Option Addr} {ci cl : Nat} (h : GVarg w B v I L ci cl) (hb : B ≤ B') : GVarg w B' v I L ci cl :=
  { h with ri := h.ri.more hb, rl := h.rl.more hb }
theorem ok_kind {v : GV} (h : v.ok = true) : 0 ≤ v.kind ∧ v.kind ≤ 5 := by
  unfold GV.ok at h
  simp only [Bool.or_eq_true, Bool.and_eq_true, beq_iff_eq] at h
  omega
theorem enV_len {v : GV} : 1 ≤ (enV v).length := by simp [enV]
theorem World.size_le_alloc_drew (w : World) (o : Obj) : w.heap.size ≤ (w.alloc o).drew.heap.size := by
  show w.heap.size ≤ (w.alloc o).heap.size
  simp
/-- What grown leaves, seen from AppendValue. -/
def GrownAt (base : Nat) (w : World) (p : Addr) (u : Value) (bs : List UInt8) (x : Option (Nat × Value)) (en : Ending) (w' : World) : Prop :=
  ∃ v, en = .returned v ∧ w'.ownsRow base 5 1 v bs.length (byteCells bs) ∧ Below base w w' ∧ w'.cell? p = some u ∧ ∀ g z, x = some (g, z) → w'.cell? ⟨g, 0, none⟩ = some z
end Go.Proofs.Yteiolhbjgfkdeaa.W
