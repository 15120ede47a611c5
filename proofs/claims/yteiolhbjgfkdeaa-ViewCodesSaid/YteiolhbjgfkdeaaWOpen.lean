/- wire.Open. -/
import Derived.Test.YteiolhbjgfkdeaaWSeal
namespace Go.Proofs.Yteiolhbjgfkdeaa.W
set_option linter.unusedVariables false
open Go.RowKit
open Go.Lib (byteCells byteCells_length byteCells_append byteCells_snoc)

theorem results_tmp4 {fn : Func} {t u v x : Tmp} (h : fn.results = #[.tmp t, .tmp u, .tmp v, .tmp x]) (tmps : Array Value) (P : Program) (w : World) :
    (results fn tmps).run P w = .ok (.tuple #[tmps.getD t undef, tmps.getD u undef, tmps.getD v undef, tmps.getD x undef]) w := by simp [results, h]
theorem quiet_add {P : Program} {f : FuncId} {args : Array Value} {w : World} {a n : Nat} {v : Value}
    (h : Calls P f args (w.drewN (a + n)) fun e w' => e = .returned v ∧ ∃ m, w' = (w.drewN (a + n)).drewN m) :
    Calls P f args (w.drewN (a + n)) fun e w'' => e = .returned v ∧ ∃ m, w'' = w.drewN (a + m) :=
  h.mono fun _ _ ⟨he, m, hm⟩ => ⟨he, n + m, by rw [hm, World.drewN_drewN, Nat.add_assoc]⟩
theorem quiet_left {P : Program} {f : FuncId} {args : Array Value} {w : World} {n : Nat} {v : Value}
    (h : Calls P f args (w.drewN n) fun e w' => e = .returned v ∧ w.drewN n = w') : Calls P f args (w.drewN n) fun e w'' => e = .returned v ∧ ∃ m, w'' = w.drewN m :=
  h.mono fun _ _ ⟨he, hm⟩ => ⟨he, n, hm.symm⟩
theorem slice_to {w : World} {B n c k : Nat} {ki : Int} {A : Option Addr} {bs : List UInt8} (h : Reads w B 1 A n (byteCells bs)) (hn : n ≤ c) (hk : k ≤ n) (hk0 : 0 < n) (hki : ki = (k : Int)) :
    ∀ (W : World), (Instr.slice 40 (.slice A n c) none (some (.int .i64 ki)) none).run Try.prog W = .ok (.slice A k c) W := by
  subst hki
  intro W
  rw [run_slice_h W 40 A n c (by simp [go_sem]) .i64 k (by omega) (by omega)]
  simp [go_sem]
theorem slice_mid {w : World} {B n c i j : Nat} {ii ij : Int} {A : Option Addr} {bs : List UInt8} (h : Reads w B 1 A n (byteCells bs)) (hn : n ≤ c) (hij : i ≤ j) (hj : j ≤ n) (hii : ii = (i : Int)) (hjj : ij = (j : Int)) :
    ∃ A', (∀ (W : World), (Instr.slice 40 (.slice A n c) (some (.int .i64 ii)) (some (.int .i64 ij)) none).run Try.prog W = .ok (.slice A' (j - i) (c - i)) W) ∧ Reads w B 1 A' (j - i) (byteCells ((bs.drop i).take (j - i))) := by
  subst hii hjj
  refine ⟨if c = i then A else A.map (·.add (i * 1)), fun W => ?_, ?_⟩
  · rw [run_slice_lh W 40 A n c (by simp [go_sem]) .i64 .i64 i j (by omega) (by omega) (by omega)]
    simp [go_sem]
  · have := (h.cut (k := i) (by omega) hn)
    have h2 : Reads w B 1 (if c = i then A else A.map (·.add (i * 1))) (n - i) (byteCells (bs.drop i)) := by simpa [byteCells] using this
    exact h2.takeTo (by omega)
def OpenPost (w : World) (k : Int) (l : List UInt8) (n err : Nat) (en : Ending) (w' : World) : Prop :=
  ∃ A c, en = .returned (.tuple #[.int .i64 k, .slice A l.length c, .int .i64 n, .int .i64 err]) ∧ l.length ≤ c ∧ w'.ownsRow w.heap.size 5 1 (.slice A l.length c) l.length (byteCells l) ∧ Below w.heap.size w w'
theorem openPost_nil {w w' : World} {err : Nat} (hb : Below w.heap.size w w') : OpenPost w 0 [] 0 err (.returned (.tuple #[.int .i64 0, .slice none 0 0, .int .i64 0, .int .i64 err])) w' :=
  ⟨none, 0, rfl, Nat.le_refl _, World.ownsRow_nil _ _ _ _, hb⟩
/- MAIN -/
theorem ret4 {a a' c c' d d' : Int} {v v' : Value} (h1 : a = a') (h2 : v = v') (h3 : c = c') (h4 : d = d') : Ending.returned (.tuple #[.int .i64 a, v, .int .i64 c, .int .i64 d]) = Ending.returned (.tuple #[.int .i64 a', v', .int .i64 c', .int .i64 d']) := by rw [h1, h2, h3, h4]
theorem below_drewN {B : Nat} {a w : World} (h : Below B a w) (n : Nat) : Below B a (w.drewN n) := ⟨h.os, h.tape, h.output, h.size, h.block⟩
theorem low4_rd (c : BitVec 32) (l : List UInt8) (hl : 4 ≤ l.length) : rd4 l = c.toNat ↔ l.take 4 = low4 c := by
  match l, hl with
  | a :: b :: d :: e :: t, _ =>
    have hc := c.isLt
    have ha := a.toNat_lt
    have hb := b.toNat_lt
    have hd := d.toNat_lt
    have he := e.toNat_lt
    have key : ∀ (x : UInt8) (m : Nat), m < 256 → (x = m.toUInt8 ↔ x.toNat = m) := fun x m hm => by
      constructor
      · intro h; rw [h, u8n hm]
      · intro h; exact UInt8.toNat_inj.1 (by rw [u8n hm]; exact h)
    simp only [rd4, low4, List.take_succ_cons, List.take_zero, List.getD_cons_zero, List.getD_cons_succ, List.cons.injEq, and_true]
    rw [key a _ (by omega), key b _ (by omega), key d _ (by omega), key e _ (by omega)]
    omega
end Go.Proofs.Yteiolhbjgfkdeaa.W
