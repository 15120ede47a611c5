/- Merging two sets: the mathematics; a list of alerts that is the call's own or empty. -/
import Derived.Test.YtojhdljbpmjigaaGreatDoorAP8
namespace Go.Proofs.YtojhdljbpmjigaaGreatDoor.Al
set_option linter.unusedVariables false
set_option linter.unusedSimpArgs false
open Go.RowKit
open Go.Proofs.YtojhdljbpmjigaaGreatDoor.W
open Go.Proofs.YtojhdljbpmjigaaGreatDoor.V
open Go.Proofs.YtojhdljbpmjigaaGreatDoor.O
open Go.Proofs.YtojhdljbpmjigaaGreatDoor.Pb (Alr alrC alrsC len_alrsC alrsC_app alrsC_one alrsC_get alrsC_cell alrInfo step_append_alr reads_blk two_blk)

/-- What Merge's loops have done: U is the union of the first k of a and the first j of b, and lies ahead of all the others. -/
structure MI (a b U : List Alr) (k j : Nat) : Prop where
  asc : AscA U
  mem : ∀ x, x ∈ U ↔ x ∈ a.take k ∨ x ∈ b.take j
  la : ∀ y ∈ U, ∀ (i : Nat) (z : Alr), k ≤ i → a[i]? = some z → lessA y z = true
  lb : ∀ y ∈ U, ∀ (i : Nat) (z : Alr), j ≤ i → b[i]? = some z → lessA y z = true
  len : U.length ≤ k + j
theorem MI.zero {a b : List Alr} : MI a b [] 0 0 := ⟨by unfold AscA; simp, by simp, (fun y hy => by simp at hy), (fun y hy => by simp at hy), Nat.zero_le _⟩
theorem asc_snoc {U : List Alr} {x : Alr} (h : AscA U) (hx : ∀ y ∈ U, lessA y x = true) : AscA (U ++ [x]) := by
  unfold AscA at *
  rw [List.pairwise_append]
  exact ⟨h, by simp, fun y hy z hz => by rw [List.mem_singleton.1 hz]; exact hx y hy⟩
theorem MI.inner {a b U : List Alr} {k j : Nat} {x y : Alr} (h : MI a b U k j) (ha : AscA a) (hb : AscA b) (hx : a[k]? = some x) (hy : b[j]? = some y) (hl : lessA y x = true) : MI a b (U ++ [y]) k (j + 1) where
  asc := asc_snoc h.asc fun u hu => h.lb u hu j y (Nat.le_refl _) hy
  mem z := by rw [List.mem_append, h.mem, take_snoc hy, List.mem_append, or_assoc]
  la u hu i z hi hz := by
    rcases List.mem_append.1 hu with hu | hu
    · exact h.la u hu i z hi hz
    · rw [List.mem_singleton.1 hu]
      by_cases e : i = k
      · subst e; rw [hx] at hz; cases hz; exact hl
      · exact lessA_trans hl (asc_lt ha (by omega) hx hz)
  lb u hu i z hi hz := by
    rcases List.mem_append.1 hu with hu | hu
    · exact h.lb u hu i z (by omega) hz
    · rw [List.mem_singleton.1 hu]
      exact asc_lt hb (by omega) hy hz
  len := by rw [List.length_append]; have := h.len; simp; omega
theorem MI.same {a b U : List Alr} {k j : Nat} {x : Alr} (h : MI a b U k j) (ha : AscA a) (hb : AscA b) (hx : a[k]? = some x) (hy : b[j]? = some x) : MI a b (U ++ [x]) (k + 1) (j + 1) where
  asc := asc_snoc h.asc fun u hu => h.la u hu k x (Nat.le_refl _) hx
  mem z := by
    rw [List.mem_append, h.mem, take_snoc hx, take_snoc hy, List.mem_append, List.mem_append]
    constructor
    · rintro ((h1 | h1) | h1)
      · exact .inl (.inl h1)
      · exact .inr (.inl h1)
      · exact .inl (.inr h1)
    · rintro ((h1 | h1) | (h1 | h1))
      · exact .inl (.inl h1)
      · exact .inr h1
      · exact .inl (.inr h1)
      · exact .inr h1
  la u hu i z hi hz := by
    rcases List.mem_append.1 hu with hu | hu
    · exact h.la u hu i z (by omega) hz
    · rw [List.mem_singleton.1 hu]; exact asc_lt ha (by omega) hx hz
  lb u hu i z hi hz := by
    rcases List.mem_append.1 hu with hu | hu
    · exact h.lb u hu i z (by omega) hz
    · rw [List.mem_singleton.1 hu]; exact asc_lt hb (by omega) hy hz
  len := by rw [List.length_append]; have := h.len; simp; omega
theorem MI.takes {a b U : List Alr} {k j : Nat} {x : Alr} (h : MI a b U k j) (ha : AscA a) (hb : AscA b) (hx : a[k]? = some x) (hy : ∀ y, b[j]? = some y → lessA x y = true) : MI a b (U ++ [x]) (k + 1) j where
  asc := asc_snoc h.asc fun u hu => h.la u hu k x (Nat.le_refl _) hx
  mem z := by
    rw [List.mem_append, h.mem, take_snoc hx, List.mem_append]
    constructor
    · rintro ((h1 | h1) | h1)
      · exact .inl (.inl h1)
      · exact .inr h1
      · exact .inl (.inr h1)
    · rintro ((h1 | h1) | h1)
      · exact .inl (.inl h1)
      · exact .inr h1
      · exact .inl (.inr h1)
  la u hu i z hi hz := by
    rcases List.mem_append.1 hu with hu | hu
    · exact h.la u hu i z (by omega) hz
    · rw [List.mem_singleton.1 hu]; exact asc_lt ha (by omega) hx hz
  lb u hu i z hi hz := by
    rcases List.mem_append.1 hu with hu | hu
    · exact h.lb u hu i z hi hz
    · rw [List.mem_singleton.1 hu]
      obtain ⟨y, hyj⟩ : ∃ y, b[j]? = some y := ⟨_, List.getElem?_eq_getElem (by have := (List.getElem?_eq_some_iff.1 hz).1; omega)⟩
      have h1 := hy y hyj
      by_cases e : i = j
      · subst e; rw [hyj] at hz; cases hz; exact h1
      · exact lessA_trans h1 (asc_lt hb (by omega) hyj hz)
  len := by rw [List.length_append]; have := h.len; simp; omega
theorem MI.done {num : Int} {l : List Int} {a b U : List Alr} {k j : Nat} (h : MI a b U k j) (ha : okS K num l a = true) (hb : okS K num l b = true) (hk : a.length ≤ k) : U ++ b.drop j = mergeA a b := by
  have h1 := okS_merge ha (okS_iff.1 hb).2.1
  refine okS_ext (okS_iff.2 ⟨(okS_iff.1 ha).1, fun x hx => ?_, ?_⟩) h1.1 fun x => ?_
  · rcases List.mem_append.1 hx with hx | hx
    · rcases (h.mem x).1 hx with hx | hx
      · exact (okS_iff.1 ha).2.1 x (List.mem_of_mem_take hx)
      · exact (okS_iff.1 hb).2.1 x (List.mem_of_mem_take hx)
    · exact (okS_iff.1 hb).2.1 x (List.mem_of_mem_drop hx)
  · have hb2 := (okS_iff.1 hb).2.2
    have ha2 := h.asc
    unfold AscA at *
    rw [List.pairwise_append]
    refine ⟨ha2, hb2.sublist (List.drop_sublist _ _), fun y hy z hz => ?_⟩
    obtain ⟨i, hi⟩ := List.mem_iff_getElem?.1 hz
    rw [List.getElem?_drop] at hi
    exact h.lb y hy _ z (Nat.le_add_right _ _) hi
  · rw [h1.2, List.mem_append, h.mem, List.take_of_length_le hk, or_assoc, ← List.mem_append, List.take_append_drop]
theorem less_ne {num : Int} {l : List Int} {x y : Alr} (hx : okA K num l x = true) (hy : okA K num l y = true) (hl : lessA y x = false) (hne : ¬ y = x) : lessA x y = true := by
  rw [← Bool.not_eq_false]
  intro h
  obtain ⟨e1, e2⟩ := lessA_total hl h
  exact hne (okA_ext hy hx e1 e2)

/-- A list of alerts that is the call's own, or empty without room. -/
def UN (w : World) (base : Nat) (v : Value) (s : List Alr) : Prop := w.ownsRow base 38 4 v s.length (alrsC s) ∨ (s = [] ∧ ∃ A, v = .slice A 0 0)
theorem UN.on {w W : World} {base : Nat} {v : Value} {s : List Alr} (h : UN w base v s) (hb : Below w.heap.size w W) : UN W base v s := by
  rcases h with h | h
  · exact .inl (own_below h hb)
  · exact .inr h
theorem UN.out {w : World} {base : Nat} {v : Value} {s : List Alr} (h : UN w base v s) (hl : s.length ≤ 1099511627776) (hel : ∀ x ∈ s, El x) : ∃ A c, v = .slice A s.length c ∧ AS w w.heap.size s A c := by
  rcases h with h | ⟨rfl, A, rfl⟩
  · exact AS.of_own h hl hel
  · exact ⟨A, 0, rfl, ⟨⟨by simp [len_alrsC], fun h0 => absurd h0 (by simp)⟩, hl, hel, Nat.le_refl _⟩⟩
/-- What an append leaves of the other blocks, and where its value lies. -/
structure Kept (W w' : World) (v v' : Value) : Prop where
  sz : W.heap.size ≤ w'.heap.size
  k0 : ∀ g, g < W.heap.size → v.ownBlock ≠ some g → w'.heap[g]? = W.heap[g]?
  k1 : ∀ g t cs, Blk W g t cs → v.ownBlock ≠ some g → Blk w' g t cs
  k2 : ∀ g, v'.ownBlock = some g → v.ownBlock = some g ∨ W.heap.size ≤ g
  k3 : (∀ g, v.ownBlock = some g → g < W.heap.size) → ∀ g, v'.ownBlock = some g → g < w'.heap.size
theorem kept_of {W w' : World} {v v' : Value} {row : Option Nat} (h : W.grownBy w' row) (hr : row = v.ownBlock ∨ row = none) (h2 : ∀ g, v'.ownBlock = some g → v.ownBlock = some g ∨ W.heap.size ≤ g) (h3 : ∀ g, v'.ownBlock = some g → v.ownBlock = some g ∨ g < w'.heap.size) : Kept W w' v v' where
  sz := h.size
  k0 g hg hne := h.block g hg (by rcases hr with rfl | rfl <;> simp; exact fun e => hne e.symm)
  k1 g t cs hb hne := by
    unfold Blk at *
    rw [h.block g (Blk.lt hb) (by rcases hr with rfl | rfl <;> simp; exact fun e => hne e.symm)]
    exact hb
  k2 := h2
  k3 hv g hg := by
    rcases h3 g hg with h4 | h4
    · have := hv g h4; have := h.size; omega
    · exact h4
theorem run_append_zero (W : World) (ty : TypeId) (c : Nat) (A1 A : Option Addr) : (Builtin.append_ #[25, 25] ty #[.slice A1 0 0, .slice A 0 c]).run Tryz.prog W = .ok (.slice A1 0 0) W := by
  obtain ⟨i0, hi, hz0, hz1, hz2⟩ := info_parts alrInfo
  cases A1 <;> cases A <;> simp [Builtin.append_, run_underlying Tryz.underlying25, sizeOf, typeInfo, hi, Builtin.lenOf, Builtin.firstCells, storeCells, loadCells, loadCellsFrom]
theorem run_append_un (W : World) (ty : TypeId) (base B m c : Nat) (v : Value) (A : Option Addr) (es news : List Alr) (h : UN W base v es) (hr : Reads W B 4 A m (alrsC news)) (hm : news.length = m) (hl : es.length + m ≤ 1099511627776) (hbase : base ≤ W.heap.size) :
    ∃ v' w', (Builtin.append_ #[25, 25] ty #[v, .slice A m c]).run Tryz.prog W = .ok v' w' ∧ UN w' base v' (es ++ news) ∧ Below base W w' ∧ Kept W w' v v' := by
  obtain ⟨i0, hi, hz0, hz1, hz2⟩ := info_parts alrInfo
  rcases h with h | ⟨rfl, A1, rfl⟩
  · obtain ⟨v', w', h1, h2, h3, h4⟩ := run_append_any (P := Tryz.prog) W base 25 ty 38 i0 _ 4 32 Tryz.underlying25 hi hz0 hz1 hz2 rfl (by decide) v _ _ h B A m c _ hr (alrsC_cell _) (by unfold maxLen; omega) (by omega) hbase
    refine ⟨v', w', h1, .inl ?_, (Below.refl _ _).grown h3 hbase fun q hq => (h.lt q hq).1, kept_of h3 (.inl rfl) (fun g hg => ?_) fun g hg => .inr (h2.lt g hg).2⟩
    · rw [alrsC_app, List.length_append, hm]
      exact h2
    · rcases h4 with h4 | h4
      · left; rw [← h4]; exact hg
      · right
        rw [hg] at h4
        have := Option.some.inj h4
        omega
  · rw [List.nil_append]
    rcases Nat.eq_zero_or_pos m with h0 | h0
    · subst h0
      obtain rfl : news = [] := List.eq_nil_of_length_eq_zero hm
      refine ⟨.slice A1 0 0, W, ?_, .inr ⟨rfl, A1, rfl⟩, Below.refl _ _, ⟨Nat.le_refl _, fun _ _ _ => rfl, fun _ _ _ h _ => h, fun _ h => .inl h, fun h => h⟩⟩
      exact run_append_zero W ty c A1 A
    · obtain ⟨ad, rfl, _, hc⟩ := hr.2 h0
      cases A1 with
      | some b1 =>
        obtain ⟨v', w', h1, h2, h3⟩ := run_append_arg_grows (P := Tryz.prog) W 25 ty 38 i0 _ 4 32 Tryz.underlying25 hi hz0 hz1 hz2 rfl (by decide) b1 0 0 [] (by simp) (fun j u hu => by simp at hu) ad m c (alrsC news) hr.1 hc (by omega) (by unfold maxLen; omega) (by omega)
        refine ⟨v', w', h1, .inl ?_, ((Below.refl W.heap.size W).grown h3 (Nat.le_refl _) fun q hq => by cases hq).mono hbase, kept_of h3 (.inr rfl) (fun g hg => .inr (h2.lt g hg).1) fun g hg => .inr (h2.lt g hg).2⟩
        rw [List.nil_append, Nat.zero_add] at h2
        rw [hm]
        exact own_base h2 hbase
      | none =>
        obtain ⟨v', w', h1, h2, h3, _⟩ := run_append_own (P := Tryz.prog) W W.heap.size 25 ty 38 i0 _ 4 32 Tryz.underlying25 hi hz0 hz1 hz2 rfl (by decide) (.slice none 0 0) 0 [] (World.ownsRow_nil W _ 38 4) ad m c (alrsC news) hr.1 hc (alrsC_cell _) (by unfold maxLen; omega) (by omega) (Nat.le_refl _)
        refine ⟨v', w', h1, .inl ?_, (Below.refl _ _).grown h3 hbase (fun q hq => by cases hq), kept_of h3 (.inr rfl) (fun g hg => .inr (h2.lt g hg).1) fun g hg => .inr (h2.lt g hg).2⟩
        rw [List.nil_append, Nat.zero_add] at h2
        rw [hm]
        exact own_base h2 hbase
theorem wp_append_un {ops : Array Oper} {rest : List Oper} {o : Oper} {a : Act} {Q : Exit → Act → World → Prop} (W : World) (hgd : o.guard = none) (s x : Operand)
    (ho : o.op = .call { callee := .builtin .append, args := #[s, x], argTypes := #[25, 25] }) (base : Nat) (v : Value) (es news : List Alr) (B m c : Nat) (A : Option Addr) (hs : a.eval s = v)
    (h : UN W base v es) (hx : a.eval x = .slice A m c) (hr : Reads W B 4 A m (alrsC news)) (hm : news.length = m) (hl : es.length + m ≤ 1099511627776) (hbase : base ≤ W.heap.size)
    (hK : ∀ v' w', UN w' base v' (es ++ news) → Below base W w' → Kept W w' v v' → wpList Tryz.prog ops Q rest (a.put o.dst v') w') : wpList Tryz.prog ops Q (o :: rest) a W := by
  refine wpList_plain hgd fun K hK' => ?_
  obtain ⟨v', w', h1, h2, h3, h4⟩ := run_append_un W o.type base B m c v A es news h hr hm hl hbase
  unfold Oper.wp
  simp [execOp, ho, resolve, invoke, builtin, hs, hx, h1, Result.andThen]
  exact hK' _ _ (hK v' w' h2 h3 h4)
theorem wp_append_un1 {ops : Array Oper} {rest : List Oper} {o : Oper} {a : Act} {Q : Exit → Act → World → Prop} (W : World) (hgd : o.guard = none) (s x : Operand)
    (ho : o.op = .call { callee := .builtin .append, args := #[s, x], argTypes := #[25, 25] }) (base : Nat) (v : Value) (es : List Alr) (e : Alr) (B c : Nat) (A : Option Addr) (hs : a.eval s = v)
    (h : UN W base v es) (hx : a.eval x = .slice A 1 c) (hr : Reads W B 4 A 1 (alrC e)) (hl : es.length ≤ 1099511627775) (hbase : base ≤ W.heap.size)
    (hK : ∀ v' w', UN w' base v' (es ++ [e]) → Below base W w' → Kept W w' v v' → wpList Tryz.prog ops Q rest (a.put o.dst v') w') : wpList Tryz.prog ops Q (o :: rest) a W :=
  wp_append_un W hgd s x ho base v es [e] B 1 c A hs h hx (by rw [alrsC_one]; exact hr) rfl (by omega) hbase hK
end Go.Proofs.YtojhdljbpmjigaaGreatDoor.Al
