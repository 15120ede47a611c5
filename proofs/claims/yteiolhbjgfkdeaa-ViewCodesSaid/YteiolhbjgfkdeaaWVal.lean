/- wire.Value. -/
import Derived.Test.YteiolhbjgfkdeaaWList
namespace Go.Proofs.Yteiolhbjgfkdeaa.W
set_option linter.unusedVariables false
open Go.RowKit
open Go.Lib (byteCells byteCells_length unzigzag)

/-- v is a slice that reads as the cells xs. -/
def SliceOf (w : World) (v : Value) (xs : List Value) : Prop := ∃ A c, v = .slice A xs.length c ∧ xs.length ≤ c ∧ Reads w w.heap.size 1 A xs.length xs
theorem SliceOf.nil_ (w : World) : SliceOf w (.slice none 0 0) [] := ⟨none, 0, rfl, Nat.le_refl _, Reads.none_⟩
theorem SliceOf.of_own {w : World} {base : Nat} {e : TypeId} {v : Value} {xs : List Value} (h : w.ownsRow base e 1 v xs.length xs) : SliceOf w v xs := by
  rcases h.2 with ⟨rfl, h0⟩ | ⟨g, cap, cur, rfl, _, _, hc, _⟩
  · obtain rfl := List.eq_nil_of_length_eq_zero h0
    exact SliceOf.nil_ w
  · exact ⟨_, _, rfl, hc, Reads.of_own h⟩
theorem SliceOf.below {w w' : World} {v : Value} {xs : List Value} (h : SliceOf w v xs) (hb : Below w.heap.size w w') : SliceOf w' v xs := by
  obtain ⟨A, c, rfl, hc, hr⟩ := h
  exact ⟨A, c, rfl, hc, (hr.below hb).more hb.size⟩
/-- What 's[k:]' gives. -/
theorem slice_from {w : World} {B n c k : Nat} {ki : Int} {A : Option Addr} {bs : List UInt8} (h : Reads w B 1 A n (byteCells bs)) (hn : n ≤ c) (hk : k ≤ n) (hki : ki = (k : Int)) :
    ∃ A', (∀ (W : World), (Instr.slice 40 (.slice A n c) (some (.int .i64 ki)) none none).run Try.prog W = .ok (.slice A' (n - k) (c - k)) W) ∧ Reads w B 1 A' (n - k) (byteCells (bs.drop k)) := by
  subst hki
  refine ⟨if c = k then A else A.map (·.add (k * 1)), fun W => ?_, ?_⟩
  · rw [run_slice_l W 40 A n c (by simp [go_sem]) .i64 k (by omega) (by omega)]
    simp [go_sem]
  · have := h.cut hk hn
    simpa [byteCells] using this
theorem rdLoop_used {α : Type} {el : List UInt8 → α × Nat × Nat} (hel : ∀ b x j, el b = (x, j, 0) → j ≤ b.length) {b : List UInt8} : ∀ (k : Nat) (out : List α) (n : Nat) (l : List α) (m : Nat), n ≤ b.length → rdLoop el b k out n = (l, m, 0) → m ≤ b.length
  | 0, out, n, l, m, hn, h => by simp [rdLoop] at h; omega
  | k + 1, out, n, l, m, hn, h => by
    rw [rdLoop] at h
    split at h
    · rename_i he; simp at h; exact absurd h.2.2 he
    · rename_i he
      have := hel (b.drop n) (el (b.drop n)).1 (el (b.drop n)).2.1 (by
        have : (el (b.drop n)).2.2 = 0 := by omega
        rw [← this])
      exact rdLoop_used hel k _ _ l m (by simp at this; omega) h
theorem rdL_used {α : Type} {el : List UInt8 → α × Nat × Nat} (hel : ∀ b x j, el b = (x, j, 0) → j ≤ b.length) {b : List UInt8} {max : Int} {l : List α} {m : Nat} (h : rdL el b max = (l, m, 0)) : m ≤ b.length := by
  unfold rdL at h
  split at h
  · rename_i he; simp at h; exact absurd h.2.2 he
  · rename_i he
    have h0 : (rdLen b max).2.2 = 0 := by omega
    obtain ⟨g1, _, _⟩ := rdLen_ok (b := b) (max := max) (k := (rdLen b max).1) (n := (rdLen b max).2.1) (by rw [← h0])
    exact rdLoop_used hel _ _ _ l m (rdU_used g1).2.2.2 h
theorem rdIs_used {b : List UInt8} {max : Int} {l : List Int} {m : Nat} (h : rdIs b max = (l, m, 0)) : m ≤ b.length := rdL_used (fun _ _ _ h => (rdI_used h).2.2.2) h
theorem rdSs_used {b : List UInt8} {max : Int} {l : List (List UInt8)} {m : Nat} (h : rdSs b max = (l, m, 0)) : m ≤ b.length := rdL_used (fun _ _ _ h => (rdS_used h).2.2) h
theorem rdLoop_nil {α : Type} {el : List UInt8 → α × Nat × Nat} {b : List UInt8} : ∀ (k : Nat) (out : List α) (n : Nat) (l : List α) (m e : Nat), rdLoop el b k out n = (l, m, e) → e ≠ 0 → l = []
  | 0, out, n, l, m, e, h, he => by simp [rdLoop] at h; omega
  | k + 1, out, n, l, m, e, h, he => by
    rw [rdLoop] at h
    split at h
    · simp at h; exact h.1
    · exact rdLoop_nil k _ _ l m e h he
theorem rdL_nil {α : Type} {el : List UInt8 → α × Nat × Nat} {b : List UInt8} {max : Int} {l : List α} {m e : Nat} (h : rdL el b max = (l, m, e)) (he : e ≠ 0) : l = [] := by
  unfold rdL at h
  split at h
  · simp at h; exact h.1
  · exact rdLoop_nil _ _ _ l m e h he
theorem rdIs_nil {b : List UInt8} {max : Int} {l : List Int} {m e : Nat} (h : rdIs b max = (l, m, e)) (he : e ≠ 0) : l = [] := rdL_nil h he
theorem rdSs_nil {b : List UInt8} {max : Int} {l : List (List UInt8)} {m e : Nat} (h : rdSs b max = (l, m, e)) (he : e ≠ 0) : l = [] := rdL_nil h he
theorem below_set0 {B : Nat} {a w : World} (h : Below B a w) (j : Nat) (u : Value) : Below B a (w.setCell ⟨B, j, none⟩ u) := h.setCell (Nat.le_refl _) u
theorem own_set0 {B : Nat} {w : World} {e : TypeId} {size : Nat} {v : Value} {n : Nat} {xs : List Value} (h : w.ownsRow (B + 1) e size v n xs) (j : Nat) (u : Value) : (w.setCell ⟨B, j, none⟩ u).ownsRow (B + 1) e size v n xs :=
  ownsRow_setCell_below h (Nat.lt_succ_self _) u
def ListPost2 (w : World) (e : TypeId) (xs : List Value) (m : Nat) (n err : Nat) (en : Ending) (w' : World) : Prop :=
  ∃ A c, en = .returned (.tuple #[.slice A m c, .int .i64 n, .int .i64 err]) ∧ m = xs.length ∧ w'.ownsRow w.heap.size e 1 (.slice A m c) xs.length xs ∧ Below w.heap.size w w'
theorem ListPost.two {w : World} {e : TypeId} {xs : List Value} {m n err : Nat} {en : Ending} {w' : World} (h : ListPost w e xs n err en w') (hm : m = xs.length) : ListPost2 w e xs m n err en w' := by
  subst hm
  obtain ⟨v, rfl, hown, hb⟩ := h
  obtain ⟨A, c, rfl, hc, hr⟩ := SliceOf.of_own hown
  exact ⟨A, c, rfl, rfl, hown, hb⟩
/-- What wire.Value and its like leave. -/
def valV (v : GV) (vi vl : Value) : Value := .agg #[.int .i64 v.kind, .int .i64 v.n, strV v.s, vi, vl]
def ValPost (w : World) (v : GV) (n err : Nat) (en : Ending) (w' : World) : Prop :=
  ∃ vi vl, en = .returned (.tuple #[valV v vi vl, .int .i64 n, .int .i64 err]) ∧ SliceOf w' vi (v.i.map intV) ∧ SliceOf w' vl (v.l.map strV) ∧ Below w.heap.size w w'
end Go.Proofs.Yteiolhbjgfkdeaa.W
