/- Rows of tallies. -/
import Derived.Test.YtipipjbpjpdcbaaDoorCSpec
import Derived.Test.YtipipjbpjpdcbaaDoorASli
namespace Go.Proofs.YtipipjbpjpdcbaaDoor.Ct
set_option linter.unusedVariables false
open Go.RowKit
open Go.Proofs.YtipipjbpjpdcbaaDoor.W
open Go.Proofs.YtipipjbpjpdcbaaDoor.V
open Go.Proofs.YtipipjbpjpdcbaaDoor.O
open Go.Proofs.YtipipjbpjpdcbaaDoor.Pb (reads_blk)
open Go.Proofs.YtipipjbpjpdcbaaDoor.Al (add_pos)

/-- A tally, cell by cell. -/
def tlyC (a : Tly) : List Value := [.int .i64 a.subj, .int .i64 (a.expl : Int), .int .i64 (a.impl : Int)]
def tlysC (as_ : List Tly) : List Value := as_.flatMap tlyC
theorem len_tlysC (es : List Tly) : (tlysC es).length = es.length * 3 := by
  induction es with
  | nil => rfl
  | cons e t ih => show (tlyC e ++ tlysC t).length = _; rw [List.length_append, ih]; simp [tlyC]; omega
theorem tlysC_app (a b : List Tly) : tlysC (a ++ b) = tlysC a ++ tlysC b := by unfold tlysC; rw [List.flatMap_append]
theorem tlysC_one (e : Tly) : tlysC [e] = tlyC e := by unfold tlysC; simp
theorem tlysC_get {es : List Tly} {k j : Nat} {e : Tly} (h : es[k]? = some e) (hj : j < 3) : (tlysC es)[k * 3 + j]? = (tlyC e)[j]? := by
  induction es generalizing k with
  | nil => cases h
  | cons x t ih =>
    show (tlyC x ++ tlysC t)[k * 3 + j]? = _
    cases k with
    | zero =>
      simp at h
      subst h
      rw [List.getElem?_append_left (by simp [tlyC]; omega)]
      simp
    | succ k =>
      rw [List.getElem?_append_right (by simp [tlyC]; omega)]
      rw [show (k + 1) * 3 + j - (tlyC x).length = k * 3 + j by simp [tlyC]; omega]
      exact ih (by simpa using h)
theorem tlysC_cell (es : List Tly) : ∀ u ∈ tlysC es, u.oneCell' = true := by
  intro u hu
  obtain ⟨e, _, he⟩ := List.mem_flatMap.1 hu
  unfold tlyC at he
  simp at he
  rcases he with rfl | rfl | rfl <;> rfl
theorem tlyInfo : (Tryd.prog.info? 31).map (fun i => (i.zero, i.size, i.bytes)) = some (some (.agg #[.int .i64 0, .int .i64 0, .int .i64 0]), 3, 24) := by kernel_rfl
/-- A tally appended to a row of the call's own. -/
theorem wp_append_tly {ops : Array Oper} {rest : List Oper} {o : Oper} {a : Act} {Q : Exit → Act → World → Prop} (W : World) (hgd : o.guard = none) (s x : Operand)
    (ho : o.op = .call { callee := .builtin .append, args := #[s, x], argTypes := #[28, 28] }) (base : Nat) (v : Value) (es : List Tly) (e : Tly) (B c : Nat) (A : Option Addr) (hs : a.eval s = v)
    (hown : W.ownsRow base 31 3 v es.length (tlysC es)) (hx : a.eval x = .slice A 1 c) (hr : Reads W B 3 A 1 (tlyC e))
    (hl : es.length ≤ 1099511627775) (hbase : base ≤ W.heap.size)
    (h : ∀ v' w', w'.ownsRow base 31 3 v' (es ++ [e]).length (tlysC (es ++ [e])) → Below base W w' → wpList Tryd.prog ops Q rest (a.put o.dst v') w') : wpList Tryd.prog ops Q (o :: rest) a W := by
  obtain ⟨i0, hi, hz0, hz1, hz2⟩ := info_parts tlyInfo
  refine wpList_append_any W hgd s x 28 ho base 31 i0 _ 3 24 Tryd.underlying28 hi hz0 hz1 hz2 rfl (by decide) v _ _ hs hown B A 1 c _ hx hr (by rw [← tlysC_one]; exact tlysC_cell _) ?_ ?_ hbase ?_
  · unfold maxLen; omega
  · omega
  · intro v' w' h1 h2 _
    refine h v' w' ?_ ((Below.refl _ _).grown h2 hbase fun q hq => (hown.lt q hq).1)
    rw [tlysC_app, tlysC_one, List.length_append]
    exact h1
/-- A list of tallies that came in; one of the call's own. -/
structure TS (w : World) (B : Nat) (s : List Tly) (A : Option Addr) (c : Nat) : Prop where
  rd : Reads w B 3 A s.length (tlysC s)
  l40 : s.length ≤ 1099511627776
  cap : s.length ≤ c
theorem TS.below {w W : World} {B : Nat} {s : List Tly} {A : Option Addr} {c : Nat} (h : TS w B s A c) (hb : Below B w W) : TS W B s A c := { h with rd := h.rd.below hb }
theorem TS.more {w : World} {B B' : Nat} {s : List Tly} {A : Option Addr} {c : Nat} (h : TS w B s A c) (hb : B ≤ B') : TS w B' s A c := { h with rd := h.rd.more hb }
theorem TS.step {w W : World} {s : List Tly} {A : Option Addr} {c : Nat} (h : TS w w.heap.size s A c) (hb : Below w.heap.size w W) : TS W W.heap.size s A c := (h.below hb).more hb.size
theorem own_openT {W : World} {B : Nat} {v : Value} {s : List Tly} (h : W.ownsRow B 31 3 v s.length (tlysC s)) : ∃ A c, v = .slice A s.length c ∧ s.length ≤ c ∧ Reads W W.heap.size 3 A s.length (tlysC s) := by
  rcases h.2 with ⟨rfl, h0⟩ | ⟨g, cap, cur, rfl, _, _, h1, _⟩
  · have : s = [] := List.eq_nil_of_length_eq_zero h0
    subst this
    exact ⟨none, 0, rfl, Nat.le_refl _, Reads.none_⟩
  · exact ⟨_, cap, rfl, h1, Reads.of_own h⟩
theorem TS.of_own {W : World} {B : Nat} {v : Value} {s : List Tly} (h : W.ownsRow B 31 3 v s.length (tlysC s)) (hl : s.length ≤ 1099511627776) : ∃ A c, v = .slice A s.length c ∧ TS W W.heap.size s A c := by
  obtain ⟨A, c, rfl, h1, h2⟩ := own_openT h
  exact ⟨A, c, rfl, h2, hl, h1⟩
/-- Tallies come back; a list and a word come back. -/
def OutT (w : World) (s : List Tly) (n : Nat) (e : Ending) (w' : World) : Prop := ∃ A c, e = .returned (.slice A n c) ∧ TS w' w'.heap.size s A c ∧ Below w.heap.size w w'
def OutLB (w : World) (l : List Int) (n : Nat) (b : Bool) (e : Ending) (w' : World) : Prop := ∃ A c, e = .returned (.tuple #[.slice A n c, .bool b]) ∧ n ≤ c ∧ Reads w' w'.heap.size 1 A n (l.map intV) ∧ Below w.heap.size w w'
/-- The cells of an element. -/
theorem tly_at {w : World} {B n : Nat} {A : Option Addr} {es : List Tly} {k : Nat} {x : Tly} (h : Reads w B 3 A n (tlysC es)) (hx : es[k]? = some x) :
    ∃ ad, A = some ad ∧ ad.block < B ∧ (ad.add (k * 3)).block = ad.block ∧ w.cell? (ad.add (k * 3)) = some (.int .i64 x.subj) ∧ w.cell? ⟨(ad.add (k * 3)).block, (ad.add (k * 3)).off + 1, none⟩ = some (.int .i64 (x.expl : Int)) ∧
      w.cell? ⟨(ad.add (k * 3)).block, (ad.add (k * 3)).off + 2, none⟩ = some (.int .i64 (x.impl : Int)) := by
  have hl := h.1
  rw [len_tlysC] at hl
  have hk := (List.getElem?_eq_some_iff.1 hx).1
  obtain ⟨ad, hA, hb, hc⟩ := h.2 (by omega)
  have hj : ∀ j, 0 < j → j < 3 → w.cell? ⟨(ad.add (k * 3)).block, (ad.add (k * 3)).off + j, none⟩ = (tlyC x)[j]? := fun j h0 h4 => by
    rw [← add_pos h0, add_of_add]
    have h1 := tlysC_get (j := j) hx h4
    cases hu : (tlysC es)[k * 3 + j]? with
    | none =>
      exfalso
      rw [List.getElem?_eq_none_iff, len_tlysC] at hu
      omega
    | some u => rw [hc _ _ hu, ← h1, hu]
  exact ⟨ad, hA, hb, block_of_add _ _, hc _ _ (tlysC_get (j := 0) hx (by omega)), hj 1 (by omega) (by omega), hj 2 (by omega) (by omega)⟩
theorem blk3 {W : World} {g : Nat} {t : TypeId} {a b c : Value} (h : Blk W g t #[a, b, c]) : W.cell? ⟨g, 0, none⟩ = some a ∧ W.cell? ⟨g, 1, none⟩ = some b ∧ W.cell? ⟨g, 2, none⟩ = some c := ⟨h.cell 0, h.cell 1, h.cell 2⟩
end Go.Proofs.YtipipjbpjpdcbaaDoor.Ct
