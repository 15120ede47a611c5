/- Rows of alerts, cut; alerts appended in a region that draws. -/
import Derived.Test.YtipipjbpjpdcbaaDoorARef9
import Derived.Deep.RegionLawGrows
namespace Go.Proofs.YtipipjbpjpdcbaaDoor.Al
set_option linter.unusedVariables false
set_option linter.unusedSimpArgs false
open Go.RowKit
open Go.Proofs.YtipipjbpjpdcbaaDoor.W
open Go.Proofs.YtipipjbpjpdcbaaDoor.V
open Go.Proofs.YtipipjbpjpdcbaaDoor.O
open Go.Proofs.YtipipjbpjpdcbaaDoor.Pb (Alr alrC alrsC two_blk len_alrsC alrsC_app alrsC_one alrsC_cell alrInfo)

theorem alrsC_drop {es : List Alr} {k : Nat} (hk : k ≤ es.length) : (alrsC es).drop (k * 4) = alrsC (es.drop k) := by
  have h : alrsC es = alrsC (es.take k) ++ alrsC (es.drop k) := by rw [← alrsC_app, List.take_append_drop]
  have hl : (alrsC (es.take k)).length = k * 4 := by rw [len_alrsC, List.length_take, Nat.min_eq_left hk]
  rw [h, ← hl, List.drop_left]
theorem alrsC_take {es : List Alr} {k : Nat} (hk : k ≤ es.length) : (alrsC es).take (k * 4) = alrsC (es.take k) := by
  have h : alrsC es = alrsC (es.take k) ++ alrsC (es.drop k) := by rw [← alrsC_app, List.take_append_drop]
  have hl : (alrsC (es.take k)).length = k * 4 := by rw [len_alrsC, List.length_take, Nat.min_eq_left hk]
  rw [h, ← hl, List.take_left]
theorem readsA_take {w : World} {B n k : Nat} {A : Option Addr} {es : List Alr} (h : Reads w B 4 A n (alrsC es)) (hk : k ≤ n) (hn : es.length = n) : Reads w B 4 A k (alrsC (es.take k)) := by
  refine ⟨by rw [len_alrsC, List.length_take, Nat.min_eq_left (by omega)], fun h0 => ?_⟩
  obtain ⟨ad, hA, hb, hcell⟩ := h.2 (by omega)
  refine ⟨ad, hA, hb, fun j u hu => hcell j u ?_⟩
  rw [← alrsC_take (by omega), List.getElem?_take] at hu
  split at hu
  · exact hu
  · cases hu
theorem slice_fromA {w : World} {B n c k : Nat} {ki : Int} {A : Option Addr} {es : List Alr} (h : Reads w B 4 A n (alrsC es)) (he : es.length = n) (hn : n ≤ c) (hk : k ≤ n) (hki : ki = (k : Int)) :
    ∃ A', (∀ (W : World), (Instr.slice 25 (.slice A n c) (some (.int .i64 ki)) none none).run Tryd.prog W = .ok (.slice A' (n - k) (c - k)) W) ∧ Reads w B 4 A' (n - k) (alrsC (es.drop k)) := by
  subst hki
  refine ⟨if c = k then A else A.map (·.add (k * 4)), fun W => ?_, ?_⟩
  · rw [run_slice_l W 25 A n c (by simp [go_sem]) .i64 k (by omega) (by omega)]
    simp [go_sem]
  · have := h.cut hk hn
    rwa [alrsC_drop (by omega)] at this
theorem slice_toA {w : World} {B n c k : Nat} {ki : Int} {A : Option Addr} {es : List Alr} (h : Reads w B 4 A n (alrsC es)) (hn : n ≤ c) (hk : k ≤ n) (hki : ki = (k : Int)) :
    ∀ (W : World), (Instr.slice 25 (.slice A n c) none (some (.int .i64 ki)) none).run Tryd.prog W = .ok (.slice A k c) W := by
  subst hki
  intro W
  rw [run_slice_h W 25 A n c (by simp [go_sem]) .i64 k (by omega) (by omega)]
  simp [go_sem]
theorem step_append_alrs {ops : Array Oper} {o : Oper} {a : Act} {K : Act → World → Prop} {Q : Exit → Act → World → Prop} {E : Prop} (W : World) (hgd : o.guard = none) (s x : Operand)
    (ho : o.op = .call { callee := .builtin .append, args := #[s, x], argTypes := #[25, 25] }) (base : Nat) (v : Value) (es news : List Alr) (B m c : Nat) (A : Option Addr) (hs : a.eval s = v)
    (hown : W.ownsRow base 48 4 v es.length (alrsC es)) (hx : a.eval x = .slice A m c) (hr : Reads W B 4 A m (alrsC news)) (hm : news.length = m)
    (hl : es.length + m ≤ 1099511627776) (hbase : base ≤ W.heap.size)
    (h : ∀ v' w', w'.ownsRow base 48 4 v' (es ++ news).length (alrsC (es ++ news)) → Below base W w' → K (a.put o.dst v') w') :
    if Region.wanted o (yielded ops a.tmps) = true then Oper.wp Tryd.prog o a W K Q else E := by
  subst hm
  obtain ⟨i0, hi, hz0, hz1, hz2⟩ := info_parts alrInfo
  refine step_append_any W hgd s x 25 ho base 48 i0 _ 4 32 Tryd.underlying25 hi hz0 hz1 hz2 rfl (by decide) v _ _ hs hown B A news.length c _ hx hr (alrsC_cell _) ?_ ?_ hbase ?_
  · unfold maxLen; omega
  · omega
  · intro v' w' h1 h2 _
    refine h v' w' ?_ ((Below.refl _ _).grown h2 hbase fun q hq => (hown.lt q hq).1)
    rw [alrsC_app, List.length_append]
    exact h1
theorem slice_hmA {n c k : Nat} {ki : Int} (A : Option Addr) (hn : n ≤ c) (hk : k ≤ n) (hki : ki = (k : Int)) :
    ∀ (W : World), (Instr.slice 25 (.slice A n c) none (some (.int .i64 ki)) (some (.int .i64 ki))).run Tryd.prog W = .ok (.slice A k k) W := by
  subst hki
  intro W
  rw [run_slice_hm W 25 A n c (by simp [go_sem]) .i64 .i64 k k (by omega) (by omega) (by omega)]
  rcases Nat.eq_zero_or_pos k with rfl | h0
  · simp [go_sem]
  · simp [go_sem]
/-- An alert appended to a list that is not the call's own and has no room. -/
theorem run_append_fresh (W : World) (ty : TypeId) (B p c : Nat) (A A' : Option Addr) (es : List Alr) (e : Alr) (hes : Reads W B 4 A p (alrsC es)) (hp : es.length = p) (hnone : A = none → p = 0)
    (B' : Nat) (hr : Reads W B' 4 A' 1 (alrC e)) (hl : p ≤ 1099511627775) :
    ∃ v' w', (Builtin.append_ #[25, 25] ty #[.slice A p p, .slice A' 1 c]).run Tryd.prog W = .ok v' w' ∧ w'.ownsRow W.heap.size 48 4 v' (es ++ [e]).length (alrsC (es ++ [e])) ∧ Below W.heap.size W w' := by
  obtain ⟨i0, hi, hz0, hz1, hz2⟩ := info_parts alrInfo
  obtain ⟨ad, rfl, _, hc⟩ := hr.2 (by omega)
  have hlen : (alrC e).length = 1 * 4 := hr.1
  have hlo : (alrsC es).length = p * 4 := hes.1
  cases A with
  | some b =>
    have holds : ∀ j u, (alrsC es)[j]? = some u → W.cell? (b.add j) = some u := fun j u hu => by
      have h0 : 0 < p := by
        have := (List.getElem?_eq_some_iff.1 hu).1
        omega
      obtain ⟨ad', e1, _, h2⟩ := hes.2 h0
      cases e1
      exact h2 j u hu
    obtain ⟨v', w', h1, h2, h3⟩ := run_append_arg_grows (P := Tryd.prog) W 25 ty 48 i0 _ 4 32 Tryd.underlying25 hi hz0 hz1 hz2 rfl (by decide) b p p (alrsC es) hlo holds ad 1 c (alrC e) hlen hc (by omega) (by unfold maxLen; omega) (by omega)
    refine ⟨v', w', h1, ?_, (Below.refl _ _).grown h3 (Nat.le_refl _) fun q hq => by cases hq⟩
    rw [alrsC_app, alrsC_one, List.length_append, hp]
    exact h2
  | none =>
    obtain rfl := hnone rfl
    obtain rfl : es = [] := List.eq_nil_of_length_eq_zero hp
    obtain ⟨v', w', h1, h2, h3, _⟩ := run_append_own (P := Tryd.prog) W W.heap.size 25 ty 48 i0 _ 4 32 Tryd.underlying25 hi hz0 hz1 hz2 rfl (by decide) (.slice none 0 0) 0 [] (World.ownsRow_nil W _ 48 4) ad 1 c (alrC e) hlen hc (fun u hu => alrsC_cell [e] u (by rw [alrsC_one]; exact hu)) (by unfold maxLen; omega) (by omega) (Nat.le_refl _)
    refine ⟨v', w', h1, ?_, (Below.refl _ _).grown h3 (Nat.le_refl _) fun q hq => by cases hq⟩
    rw [List.nil_append, alrsC_one]
    exact h2
theorem step_append_fresh {ops : Array Oper} {o : Oper} {a : Act} {K : Act → World → Prop} {Q : Exit → Act → World → Prop} {E : Prop} (W : World) (hgd : o.guard = none) (s x : Operand)
    (ho : o.op = .call { callee := .builtin .append, args := #[s, x], argTypes := #[25, 25] }) (B p c : Nat) (A A' : Option Addr) (es : List Alr) (e : Alr) (hs : a.eval s = .slice A p p) (hes : Reads W B 4 A p (alrsC es)) (hp : es.length = p) (hnone : A = none → p = 0)
    (hx : a.eval x = .slice A' 1 c) (B' : Nat) (hr : Reads W B' 4 A' 1 (alrC e)) (hl : p ≤ 1099511627775)
    (h : ∀ v' w', w'.ownsRow W.heap.size 48 4 v' (es ++ [e]).length (alrsC (es ++ [e])) → Below W.heap.size W w' → K (a.put o.dst v') w') :
    if Region.wanted o (yielded ops a.tmps) = true then Oper.wp Tryd.prog o a W K Q else E := by
  have hw : Region.wanted o (yielded ops a.tmps) = true := by simp [Region.wanted, hgd]
  rw [if_pos hw]
  obtain ⟨v', w', h1, h2, h3⟩ := run_append_fresh W o.type B p c A A' es e hes hp hnone B' hr hl
  unfold Oper.wp
  simp [execOp, ho, resolve, invoke, builtin, hs, hx, h1, Result.andThen]
  exact h v' w' h2 h3
theorem wp_append_fresh {ops : Array Oper} {rest : List Oper} {o : Oper} {a : Act} {Q : Exit → Act → World → Prop} (W : World) (hgd : o.guard = none) (s x : Operand)
    (ho : o.op = .call { callee := .builtin .append, args := #[s, x], argTypes := #[25, 25] }) (B p c : Nat) (A A' : Option Addr) (es : List Alr) (e : Alr) (hs : a.eval s = .slice A p p) (hes : Reads W B 4 A p (alrsC es)) (hp : es.length = p) (hnone : A = none → p = 0)
    (hx : a.eval x = .slice A' 1 c) (B' : Nat) (hr : Reads W B' 4 A' 1 (alrC e)) (hl : p ≤ 1099511627775)
    (h : ∀ v' w', w'.ownsRow W.heap.size 48 4 v' (es ++ [e]).length (alrsC (es ++ [e])) → Below W.heap.size W w' → wpList Tryd.prog ops Q rest (a.put o.dst v') w') : wpList Tryd.prog ops Q (o :: rest) a W := by
  refine wpList_plain hgd fun K hK' => ?_
  obtain ⟨v', w', h1, h2, h3⟩ := run_append_fresh W o.type B p c A A' es e hes hp hnone B' hr hl
  unfold Oper.wp
  simp [execOp, ho, resolve, invoke, builtin, hs, hx, h1, Result.andThen]
  exact hK' _ _ (h v' w' h2 h3)
end Go.Proofs.YtipipjbpjpdcbaaDoor.Al
