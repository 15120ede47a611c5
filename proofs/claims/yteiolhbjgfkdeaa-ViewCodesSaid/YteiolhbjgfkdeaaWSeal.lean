/- wire.Seal. -/
import Derived.Test.YteiolhbjgfkdeaaWCrc
namespace Go.Proofs.Yteiolhbjgfkdeaa.W
set_option linter.unusedVariables false
open Go.RowKit
open Go.Lib (byteCells byteCells_length byteCells_append byteCells_snoc)

/-- As wp_append_bytes, the result written out. -/
theorem wp_append_slice {ops : Array Oper} {rest : List Oper} {o : Oper} {a : Act} {Q : Exit → Act → World → Prop} (W : World) (hgd : o.guard = none) (s x : Operand)
    (ho : o.op = .call { callee := .builtin .append, args := #[s, x], argTypes := #[40, 40] }) (base : Nat) (v : Value) (l news : List UInt8) (B m c : Nat) (A : Option Addr) (hs : a.eval s = v)
    (hown : W.ownsRow base 5 1 v l.length (byteCells l)) (hx : a.eval x = .slice A m c) (hr : Reads W B 1 A m (byteCells news))
    (hl : l.length + news.length ≤ 8796093022208) (hbase : base ≤ W.heap.size) (n : Nat) (hn : n = (l ++ news).length)
    (h : ∀ A' c' w', w'.ownsRow base 5 1 (.slice A' n c') n (byteCells (l ++ news)) → n ≤ c' → Reads w' w'.heap.size 1 A' n (byteCells (l ++ news)) → Below base W w' → wpList Try.prog ops Q rest (a.put o.dst (.slice A' n c')) w') : wpList Try.prog ops Q (o :: rest) a W := by
  refine wp_append_bytes W hgd s x ho base v l news B m c A hs hown hx hr hl hbase fun v' w' h1 h2 => ?_
  obtain ⟨A', c', hv, hc, hrd⟩ := SliceOf.of_own (base := base) (e := 5) (by rw [byteCells_length]; exact h1)
  rw [byteCells_length, ← hn] at hv hc hrd
  rw [← hn, hv] at h1
  rw [hv]
  exact h A' c' w' h1 hc hrd h2
def SealPost (w : World) (l : List UInt8) (err : Nat) (en : Ending) (w' : World) : Prop :=
  ∃ A c, en = .returned (.tuple #[.slice A l.length c, .int .i64 err]) ∧ l.length ≤ c ∧ w'.ownsRow w.heap.size 5 1 (.slice A l.length c) l.length (byteCells l) ∧ Below w.heap.size w w'
theorem enU_ge (x : Nat) : 1 ≤ (enU x).length := enU_pos x
end Go.Proofs.Yteiolhbjgfkdeaa.W
