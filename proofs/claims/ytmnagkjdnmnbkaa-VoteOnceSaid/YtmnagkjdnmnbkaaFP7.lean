/- Rows of ballots: cut, stored into; a copy of each list. -/
import Derived.Test.YtmnagkjdnmnbkaaFP6
namespace Go.Proofs.Ytmnagkjdnmnbkaa.Fv
set_option linter.unusedVariables false
set_option linter.unusedSimpArgs false
open Go.RowKit
open Go.Proofs.Ytmnagkjdnmnbkaa.W
open Go.Proofs.Ytmnagkjdnmnbkaa.V

theorem balsC_take {s : List Pbl} {k : Nat} (h : k ≤ s.length) : (balsC s).take (k * 2) = balsC (s.take k) := by
  conv => lhs; rw [← List.take_append_drop k s, balsC_app]
  rw [List.take_append_of_le_length (by rw [len_balsC, List.length_take, Nat.min_eq_left h]; exact Nat.le_refl _), List.take_of_length_le (by rw [len_balsC, List.length_take, Nat.min_eq_left h]; exact Nat.le_refl _)]
theorem balsC_drop {s : List Pbl} {k : Nat} (h : k ≤ s.length) : (balsC s).drop (k * 2) = balsC (s.drop k) := by
  conv => lhs; rw [← List.take_append_drop k s, balsC_app]
  rw [List.drop_append_of_le_length (by rw [len_balsC, List.length_take, Nat.min_eq_left h]; exact Nat.le_refl _), List.drop_of_length_le (by rw [len_balsC, List.length_take, Nat.min_eq_left h]; exact Nat.le_refl _), List.nil_append]
theorem readsB_take {w : World} {B n k : Nat} {A : Option Addr} {es : List Pbl} (h : Reads w B 2 A n (balsC es)) (hk : k ≤ n) (hn : es.length = n) : Reads w B 2 A k (balsC (es.take k)) := by
  refine ⟨by rw [len_balsC, List.length_take, Nat.min_eq_left (by omega)], fun h0 => ?_⟩
  obtain ⟨ad, hA, hb, hcell⟩ := h.2 (by omega)
  refine ⟨ad, hA, hb, fun j u hu => hcell j u ?_⟩
  rw [← balsC_take (by omega), List.getElem?_take] at hu
  split at hu
  · exact hu
  · cases hu
theorem slice_fromB {w : World} {B n c k : Nat} {ki : Int} {A : Option Addr} {es : List Pbl} (h : Reads w B 2 A n (balsC es)) (he : es.length = n) (hn : n ≤ c) (hk : k ≤ n) (hki : ki = (k : Int)) :
    ∃ A', (∀ (W : World), (Instr.slice 25 (.slice A n c) (some (.int .i64 ki)) none none).run Try.prog W = .ok (.slice A' (n - k) (c - k)) W) ∧ Reads w B 2 A' (n - k) (balsC (es.drop k)) := by
  subst hki
  refine ⟨if c = k then A else A.map (·.add (k * 2)), fun W => ?_, ?_⟩
  · rw [run_slice_l W 25 A n c (by simp [go_sem]) .i64 k (by omega) (by omega)]
    simp [go_sem]
  · have := h.cut hk hn
    rwa [balsC_drop (by omega)] at this
theorem slice_toB {w : World} {B n c k : Nat} {ki : Int} {A : Option Addr} {es : List Pbl} (h : Reads w B 2 A n (balsC es)) (hn : n ≤ c) (hk : k ≤ n) (hki : ki = (k : Int)) :
    ∀ (W : World), (Instr.slice 25 (.slice A n c) none (some (.int .i64 ki)) none).run Try.prog W = .ok (.slice A k c) W := by
  subst hki
  intro W
  rw [run_slice_h W 25 A n c (by simp [go_sem]) .i64 k (by omega) (by omega)]
  simp [go_sem]
theorem reads_ofblk {W : World} {g m : Nat} {t : TypeId} {cs : List Value} (h : Blk W g t cs.toArray) (hm : cs.length = 1 * m) : Reads W W.heap.size m (some ⟨g, 0, none⟩) 1 cs := by
  refine ⟨hm, fun _ => ⟨_, rfl, h.lt, fun j u hu => ?_⟩⟩
  have hb := h.cell j
  have hadd : (⟨g, 0, none⟩ : Addr).add j = ⟨g, j, none⟩ := by unfold Addr.add; split <;> simp_all
  rw [hadd, hb, ← hu]
  simp

/-! ### a row of ballots of the call's own, which is stored into -/
theorem balsC_set {v : Value} {x x' : Pbl} {j : Nat} (hj : j < 2) (he : (balC x).set j v = balC x') : ∀ {es : List Pbl} {k : Nat}, es[k]? = some x → (balsC es).set (k * 2 + j) v = balsC (es.set k x')
  | [], k, h => by cases h
  | y :: t, 0, h => by
    simp at h
    subst h
    show (balC y ++ balsC t).set (0 * 2 + j) v = balC x' ++ balsC t
    rw [List.set_append_left _ _ (by simp [balC]; omega), ← he]
    simp
  | y :: t, k + 1, h => by
    show (balC y ++ balsC t).set ((k + 1) * 2 + j) v = balC y ++ balsC (t.set k x')
    rw [List.set_append_right _ _ (by simp [balC]; omega), show (k + 1) * 2 + j - (balC y).length = k * 2 + j by simp [balC]; omega, balsC_set hj he (by simpa using h)]
theorem add0B (b j : Nat) : (⟨b, 0, none⟩ : Addr).add j = ⟨b, j, none⟩ := by unfold Addr.add; split <;> simp_all
structure RowB (W : World) (B : Nat) (ad : Addr) (n c : Nat) (P : List Pbl) : Prop where
  a0 : ad = ⟨ad.block, 0, none⟩
  len : P.length = n
  own : W.ownsRow B 27 2 (.slice (some ⟨ad.block, 0, none⟩) n c) n (balsC P)
section
variable {W W' : World} {B : Nat} {ad : Addr} {n c : Nat} {P : List Pbl}
theorem RowB.in_ (h : RowB W B ad n c P) : B ≤ ad.block ∧ ad.block < W.heap.size := h.own.lt ad.block rfl
theorem RowB.on (h : RowB W B ad n c P) (q : Below W.heap.size W W') : RowB W' B ad n c P := ⟨h.a0, h.len, own_below h.own q⟩
theorem RowB.val (h : RowB W B ad n c P) : Value.slice (some ad) n c = .slice (some ⟨ad.block, 0, none⟩) n c := by rw [← h.a0]
theorem RowB.row (h : RowB W B ad n c P) : W.ownsRow B 27 2 (.slice (some ad) n c) P.length (balsC P) := by rw [h.val, h.len]; exact h.own
theorem RowB.reads (h : RowB W B ad n c P) : Reads W W.heap.size 2 (some ad) n (balsC P) := by
  have := Reads.of_own h.own
  rwa [← h.a0] at this
theorem RowB.at_ (h : RowB W B ad n c P) {k : Nat} {x : Pbl} (hx : P[k]? = some x) : W.cell? (ad.add (k * 2)) = some (.int .i64 x.mem) ∧ W.cell? ⟨(ad.add (k * 2)).block, (ad.add (k * 2)).off + 1, none⟩ = some (.slice x.ptr x.cut.length x.cap) ∧ ∀ j, W.frozen? ⟨(ad.add (k * 2)).block, j, none⟩ = false := by
  obtain ⟨h0, h1⟩ := bal_at2 h.reads hx
  exact ⟨h0, h1, fun j => by rw [block_of_add]; exact h.own.frozenAt j⟩
theorem RowB.set_ (h : RowB W B ad n c P) {k j : Nat} {x x' : Pbl} {v : Value} (hx : P[k]? = some x) (hj : j < 2) (he : (balC x).set j v = balC x') : RowB (W.setCell ⟨(ad.add (k * 2)).block, (ad.add (k * 2)).off + j, none⟩ v) B ad n c (P.set k x') := by
  refine ⟨h.a0, by rw [List.length_set]; exact h.len, ?_⟩
  have e : ad.add (k * 2) = ⟨ad.block, k * 2, none⟩ := by rw [h.a0]; exact add0B _ _
  rw [e, ← balsC_set hj he hx]
  exact (h.own.stored (k * 2 + j) v).1
theorem RowB.bel (h : RowB W B ad n c P) {w : World} {b k j : Nat} {v : Value} (hb : Below b w W) (hB : b ≤ B) : Below b w (W.setCell ⟨(ad.add (k * 2)).block, (ad.add (k * 2)).off + j, none⟩ v) :=
  hb.setCell (by show b ≤ (ad.add (k * 2)).block; rw [block_of_add]; exact Nat.le_trans hB h.in_.1) _
end
theorem rowB_open {W : World} {B n : Nat} {v : Value} {P : List Pbl} (h : W.ownsRow B 27 2 v n (balsC P)) (hn : P.length = n) (h0 : 0 < n) : ∃ ad c, v = .slice (some ad) n c ∧ n ≤ c ∧ RowB W B ad n c P := by
  subst hn
  rcases h.2 with ⟨_, h1⟩ | ⟨g, cap, cur, rfl, _, _, hc, _⟩
  · omega
  · exact ⟨⟨g, 0, none⟩, cap, rfl, hc, rfl, rfl, h⟩
theorem reads_far {w : World} {B size n : Nat} {A : Option Addr} {xs : List Value} (h : Reads w B size A n xs) {p : Addr} (hp : ∀ ad, A = some ad → ad.block ≠ p.block) (u : Value) : Reads (w.setCell p u) B size A n xs :=
  ⟨h.1, fun hn => by
    obtain ⟨ad, e, hb, hc⟩ := h.2 hn
    exact ⟨ad, e, hb, fun j v hv => (World.cell?_setCell_other w p _ u (fun e' => hp ad e (by rw [e', block_of_add]))).trans (hc j v hv)⟩⟩
/-- A ballot whose list is not empty and lies outside a block. -/
structure PF (W : World) (g : Nat) (q : Pbl) : Prop where
  pg : PG W W.heap.size q
  far : ∀ ad, q.ptr = some ad → ad.block ≠ g
  one : 1 ≤ q.cut.length
theorem PF.on {W W' : World} {g : Nat} {q : Pbl} (h : PF W g q) (hb : Below W.heap.size W W') : PF W' g q := ⟨h.pg.step hb, h.far, h.one⟩
theorem PF.set {W : World} {g j : Nat} {q : Pbl} {p : Addr} {u : Value} (h : PF W g q) (hp : p.block = g) : PF (W.setCell ⟨p.block, j, none⟩ u) g q where
  pg := by
    have hs : (W.setCell ⟨p.block, j, none⟩ u).heap.size = W.heap.size := by simp
    rw [hs]
    exact ⟨{ h.pg.ls with rd := reads_far h.pg.ls.rd (fun ad e => by show ad.block ≠ p.block; rw [hp]; exact h.far ad e) u }, h.pg.m64⟩
  far := h.far
  one := h.one
theorem PF.of {w W : World} {B g : Nat} {q : Pbl} (h : PG w B q) (hb : Below B w W) (hg : B ≤ g) (h1 : 1 ≤ q.cut.length) (hs : B ≤ W.heap.size) : PF W g q where
  pg := (h.below hb).more hs
  far := fun ad e => by
    obtain ⟨ad', e', hb', _⟩ := h.ls.rd.2 (by omega)
    rw [e] at e'
    cases e'
    omega
  one := h1
theorem bal_set {qs : List Pbl} {k : Nat} {x x' : Pbl} (hx : qs[k]? = some x) (h : x'.bal = x.bal) : (qs.set k x').map Pbl.bal = qs.map Pbl.bal := by
  rw [List.map_set, h]
  refine List.ext_getElem? fun i => ?_
  rw [List.getElem?_set]
  split
  · rename_i e
    subst e
    rw [bal_get hx, if_pos (by rw [List.length_map]; exact (List.getElem?_eq_some_iff.1 hx).1)]
  · rfl
theorem mem_set {qs : List Pbl} {k : Nat} {x q : Pbl} (h : q ∈ qs.set k x) : q = x ∨ q ∈ qs := by
  rcases List.mem_or_eq_of_mem_set h with h | h
  · exact .inr h
  · exact .inl h
end Go.Proofs.Ytmnagkjdnmnbkaa.Fv
