/- What every proof of a statement of layer 8 takes: the arguments' opening. (No table is laid.) -/
import Derived.Test.YtmnagkjdnmnbkaaFOnce
import Derived.Test.YtmnagkjdnmnbkaaFNo
import Derived.Test.YtmnagkjdnmnbkaaRows
import Derived.WalkKit
import Derived.ProofKit
import Derived.OpenShut
import Derived.ShutString
import Derived.Carry
import Derived.SliceStrings
import Derived.Deep.Fields
import Derived.Deep.Slices
import Derived.Deep.DeepHandedRow
import Derived.Lib.LaidTab
import Derived.Lib.SmallJoins
namespace Go.Proofs.Ytmnagkjdnmnbkaa.Fa
set_option linter.unusedVariables false
open Go.Joins Go.ChangeShapes Go.WideShapes Go.ChangeAt Go.RowKit Go.Deep
open Go.ChangeMaps (open_string shut_string)
open Go.Proofs.Ytmnagkjdnmnbkaa.W
open Go.Proofs.Ytmnagkjdnmnbkaa.V
open Go.Proofs.Ytmnagkjdnmnbkaa.Fv (Pbl balC balsC len_balsC balsC_get PG BS)
open Go.Lib (byteCells byteCells_length)

set_option maxRecDepth 100000 in
theorem own : ownKnob Try.prog.godebug = none := by kernel_rfl
set_option maxRecDepth 100000 in
theorem laidOut : laidOutB Try.prog = true := by kernel_rfl
noncomputable def laidWorld (os : Os) : World := World.holding Try.prog os ⟨#[], #[], []⟩
theorem cap63 {n c : Nat} (h : n ≤ c ∧ c ≤ maxLen) : c ≤ 9223372036854775807 := by
  have := h.2
  unfold maxLen at this
  exact this
/-- A list of whatever length, a ballot with one, a box of such. -/
structure LW (w : World) (l : List Int) (A : Option Addr) (c : Nat) : Prop where
  rd : Reads w w.heap.size 1 A l.length (l.map intV)
  el : ∀ x ∈ l, Go.Proofs.Ytmnagkjdnmnbkaa.W.In64 x
  cap : l.length ≤ c
  mx : c ≤ maxLen
theorem LW.ls {w : World} {l : List Int} {A : Option Addr} {c : Nat} (h : LW w l A c) (hl : l.length ≤ 100) : LS w w.heap.size l A c := ⟨h.rd, by omega, h.el, h.cap⟩
structure PGw (w : World) (p : Pbl) : Prop where
  ls : LW w p.cut p.ptr p.cap
  m64 : Go.Proofs.Ytmnagkjdnmnbkaa.W.In64 p.mem
theorem PGw.pg {w : World} {p : Pbl} (h : PGw w p) (hl : p.cut.length ≤ 60) : PG w w.heap.size p := ⟨h.ls.ls (by omega), h.m64⟩
structure BSw (w : World) (s : List Pbl) (A : Option Addr) (c : Nat) : Prop where
  rd : Reads w w.heap.size 2 A s.length (balsC s)
  el : ∀ p ∈ s, PGw w p
  cap : s.length ≤ c
  mx : c ≤ maxLen
theorem BSw.bs {w : World} {s : List Pbl} {A : Option Addr} {c n : Nat} (h : BSw w s A c) (hs : Fv.smallF n s = true) : BS w w.heap.size s A c := by
  obtain ⟨h1, h2, h3⟩ := Fv.small_parts hs
  exact ⟨h.rd, by omega, fun p hp => (h.el p hp).pg (h3 p hp), h.cap⟩

set_option maxRecDepth 100000 in
theorem cell_lt {w : World} {p : Addr} {v : Value} (h : w.cell? p = some v) : p.block < w.heap.size := by
  by_cases hc : p.block < w.heap.size
  · exact hc
  · have : w.heap[p.block]? = none := by simp; omega
    simp [World.cell?, this] at h

section
variable {H : Type} {enc : TypeId × Value → H} {W : World} {base : Nat} {d : DataW H} {p : List MemPlace} {v : Value}

set_option maxRecDepth 100000 in
theorem ints_of {W : World} {n : Nat} {cs : List Value} {x : DataW H × List MemPlace} (h : DataW.trod enc Try.prog W 0 (fun _ => true) true n 22 cs = some x) :
    ∃ (A : Option Addr) (c : Nat) (is : List Int), cs = [.slice A is.length c] ∧ is.length ≤ c ∧ c ≤ maxLen ∧ Reads W W.heap.size 1 A is.length (is.map intV) ∧ ∀ x ∈ is, Go.Proofs.Ytmnagkjdnmnbkaa.W.In64 x := by
  rcases open_ints Try.underlying22 Try.underlying3 (by kernel_rfl) h with ⟨hcs, _⟩ | ⟨x, l, c', zs, hcs, _, hl, hm, hz, _, hcell, hw⟩
  · exact ⟨none, 0, [], hcs, Nat.le_refl _, Nat.zero_le _, Reads.none_, fun x hx => by simp at hx⟩
  · have hz' : zs.length = c' := by simpa using hz
    have hlen : (zs.take l).length = l := by rw [List.length_take]; omega
    refine ⟨some x, c', zs.take l, by rw [hlen]; exact hcs, by rw [hlen]; exact hl, hm, ⟨by simp, fun hn => ⟨x, rfl, ?_, fun j u hu => ?_⟩⟩, fun y hy => ?_⟩
    · have := cell_lt (hcell 0 (by omega))
      rwa [block_of_add] at this
    · have hjl : j < ((zs.take l).map intV).length := (List.getElem?_eq_some_iff.1 hu).1
      rw [List.length_map, hlen] at hjl
      have hj : j < zs.length := by omega
      rw [hcell j hj, ← hu]
      simp [hj, hjl, intV]
    · have := bounds_i64 (hw y (List.mem_of_mem_take hy))
      exact this

set_option maxRecDepth 100000 in
theorem bytes_of {W : World} {a : Addr} {len cap : Nat} {zs : List Int} (hl : len ≤ cap) (hz : zs.length = cap) (hcell : ∀ i, i < zs.length → W.cell? (a.add i) = some (.int .u8 (zs.getD i 0))) (hw : ∀ n ∈ zs, (Lit.int .u8 n).wf = true) :
    ∃ bs : List UInt8, Reads W W.heap.size 1 (some a) len (byteCells bs) := by
  refine ⟨(zs.take len).map fun z => z.toNat.toUInt8, ?_, fun hn => ⟨a, rfl, ?_, fun j u hu => ?_⟩⟩
  · rw [byteCells_length, List.length_map, List.length_take]; omega
  · have := cell_lt (hcell 0 (by omega))
    rwa [block_of_add] at this
  · have hjl : j < (byteCells ((zs.take len).map fun z => z.toNat.toUInt8)).length := (List.getElem?_eq_some_iff.1 hu).1
    rw [byteCells_length, List.length_map, List.length_take] at hjl
    have hj : j < zs.length := by omega
    rw [hcell j hj, ← hu, byteCells_get (by rw [List.length_map, List.length_take]; omega)]
    have hb := bounds_u8 (hw (zs.getD j 0) (by simp [hj]))
    simp [hj] at hb ⊢
    omega

set_option maxRecDepth 100000 in
theorem open_bytes (hval : Value.okWide Try.prog W .any base 40 v) (h : DataW.Trod enc Try.prog W 0 (fun _ => true) true 40 v d p) :
    ∃ (A : Option Addr) (n c : Nat) (bs : List UInt8), v = .slice A n c ∧ n ≤ c ∧ c ≤ maxLen ∧ Reads W W.heap.size 1 A n (byteCells bs) := by
  obtain ⟨A, n, c, rfl⟩ := okWide_slice Try.underlying40 hval
  obtain ⟨fuel, hf⟩ := h
  rcases open_ints Try.underlying40 Try.underlying5 (by kernel_rfl) hf with ⟨hcs, _⟩ | ⟨x, l, c', zs, hcs, _, hl, hm, hz, _, hcell, hw⟩
  · simp [Value.cells] at hcs
    obtain ⟨rfl, rfl, rfl⟩ := hcs
    exact ⟨none, 0, 0, [], rfl, Nat.le_refl _, Nat.zero_le _, Reads.nothing⟩
  · simp [Value.cells] at hcs
    obtain ⟨rfl, rfl, rfl⟩ := hcs
    obtain ⟨bs, hr⟩ := bytes_of hl (by simpa using hz) hcell hw
    exact ⟨_, _, _, bs, rfl, hl, hm, hr⟩


set_option maxRecDepth 100000 in
theorem view_of {n : Nat} {cs : List Value} {x : DataW H × List MemPlace} (h : DataW.trod enc Try.prog W 0 (fun _ => true) true n 24 cs = some x) :
    ∃ (num : Int) (A : Option Addr) (c : Nat) (is : List Int), cs = [.int .i64 num, .slice A is.length c] ∧ Go.Proofs.Ytmnagkjdnmnbkaa.W.In64 num ∧ Reads W W.heap.size 1 A is.length (is.map intV) ∧ (∀ x ∈ is, Go.Proofs.Ytmnagkjdnmnbkaa.W.In64 x) ∧ is.length ≤ c ∧ c ≤ maxLen := by
  obtain ⟨xs, m, _, hx, hcl, hlen, hg⟩ := DataW.trod_struct Try.underlying24 h
  rw [show Try.prog.cellsOf 24 = 2 by kernel_rfl] at hcl
  have e1 : Try.prog.cellsOf 3 = 1 := by kernel_rfl
  have e3 : Try.prog.cellsOf 22 = 1 := by kernel_rfl
  match cs, hcl, xs, hlen with
  | [c0, c1], _, [y0, y1], _ =>
    have h0 := hg 0 _ rfl
    have h1 := hg 1 _ rfl
    simp [e1, e3] at h0 h1
    obtain ⟨k, q0, _, w0⟩ := DataW.trod_int Try.underlying3 h0
    obtain ⟨I, ci, is, q3, hci, mi, ri, wi⟩ := ints_of h1
    simp only [List.cons.injEq, and_true] at q0 q3
    subst q0 q3
    exact ⟨k, I, ci, is, rfl, bounds_i64 w0, ri, wi, hci, mi⟩
set_option maxRecDepth 100000 in
theorem list_of {α : Type} {P : Nat → α → Prop} : ∀ {n : Nat}, (∀ i, i < n → ∃ e, P i e) → ∃ es : List α, es.length = n ∧ ∀ i e, es[i]? = some e → P i e
  | 0, _ => ⟨[], rfl, fun i e h => by simp at h⟩
  | n + 1, h => by
    obtain ⟨es, h1, h2⟩ := list_of (n := n) fun i hi => h i (by omega)
    obtain ⟨e0, he0⟩ := h n (by omega)
    refine ⟨es ++ [e0], by simp [h1], fun i e hi => ?_⟩
    rcases Nat.lt_trichotomy i n with hl | rfl | hl
    · rw [List.getElem?_append_left (by omega)] at hi
      exact h2 i e hi
    · rw [List.getElem?_append_right (by omega), h1] at hi
      simp at hi
      subst hi
      exact he0
    · rw [List.getElem?_eq_none (by simp; omega)] at hi; cases hi
set_option maxRecDepth 100000 in
theorem open_view (hval : Value.okWide Try.prog W .any base 24 v) (h : DataW.Trod enc Try.prog W 0 (fun _ => true) true 24 v d p) :
    ∃ (num : Int) (A : Option Addr) (c : Nat) (is : List Int), v = .agg #[.int .i64 num, .slice A is.length c] ∧ Go.Proofs.Ytmnagkjdnmnbkaa.W.In64 num ∧ Reads W W.heap.size 1 A is.length (is.map intV) ∧ (∀ x ∈ is, Go.Proofs.Ytmnagkjdnmnbkaa.W.In64 x) ∧ is.length ≤ c ∧ c ≤ maxLen := by
  obtain ⟨cs, rfl, hsz⟩ := okWide_struct Try.underlying24 hval
  obtain ⟨l⟩ := cs
  obtain ⟨fuel, hf⟩ := h
  obtain ⟨num, A, c, is, hcs, h1, h2, h3, h4⟩ := view_of hf
  simp [Value.cells] at hcs
  subst hcs
  exact ⟨num, A, c, is, rfl, h1, h2, h3, h4⟩
set_option maxRecDepth 100000 in
theorem bal_of {n : Nat} {cs : List Value} {x : DataW H × List MemPlace} (h : DataW.trod enc Try.prog W 0 (fun _ => true) true n 27 cs = some x) :
    ∃ e : Pbl, cs = balC e ∧ PGw W e := by
  obtain ⟨xs, m, _, hx, hcl, hlen, hg⟩ := DataW.trod_struct Try.underlying27 h
  rw [show Try.prog.cellsOf 27 = 2 by kernel_rfl] at hcl
  have e1 : Try.prog.cellsOf 3 = 1 := by kernel_rfl
  have e3 : Try.prog.cellsOf 22 = 1 := by kernel_rfl
  match cs, hcl, xs, hlen with
  | [c0, c1], _, [y0, y1], _ =>
    have h0 := hg 0 _ rfl
    have h1 := hg 1 _ rfl
    simp [e1, e3] at h0 h1
    obtain ⟨k, q0, _, w0⟩ := DataW.trod_int Try.underlying3 h0
    obtain ⟨I, ci, is, q3, hci, mi, ri, wi⟩ := ints_of h1
    simp only [List.cons.injEq, and_true] at q0 q3
    subst q0 q3
    exact ⟨⟨k, I, ci, is⟩, rfl, ⟨ri, wi, hci, mi⟩, bounds_i64 w0⟩
set_option maxRecDepth 100000 in
theorem bals_of {n : Nat} {cs : List Value} {x : DataW H × List MemPlace} (h : DataW.trod enc Try.prog W 0 (fun _ => true) true n 25 cs = some x) :
    ∃ (A : Option Addr) (c : Nat) (es : List Pbl), cs = [.slice A es.length c] ∧ BSw W es A c := by
  rcases open_slice Try.underlying25 h with ⟨hcs, _⟩ | ⟨a, len, cap, m, k, D, Pl, hcs, hb, hl, hm, hmm, hx, hi⟩
  · exact ⟨none, 0, [], hcs, ⟨Reads.none_, fun p hp => (by cases hp), Nat.le_refl _, Nat.zero_le _⟩⟩
  · rw [show Try.prog.cellsOf 27 = 2 by kernel_rfl] at hi
    simp only [if_true] at hmm
    obtain ⟨es, h1, h2⟩ := list_of (n := len) (P := fun i e => (∀ j, j < 2 → W.cell? (a.add (i * 2 + j)) = (balC e)[j]?) ∧ PGw W e) (fun i hil => by
      obtain ⟨cs', hc, ht⟩ := hi i (by omega)
      obtain ⟨e, rfl, he⟩ := bal_of ht
      obtain ⟨_, _, hat⟩ := World.cells?_some hc
      exact ⟨e, fun j hj => by rw [← add_of_add]; exact hat j hj, he⟩)
    refine ⟨some a, cap, es, by rw [h1]; exact hcs, ⟨len_balsC es, fun hn => ⟨a, rfl, ?_, fun j u hu => ?_⟩⟩, fun e he => ?_, by omega, hm⟩
    · obtain ⟨e, he⟩ : ∃ e, es[0]? = some e := ⟨_, List.getElem?_eq_getElem hn⟩
      have hc0 := (h2 0 e he).1 0 (by omega)
      have := cell_lt (show W.cell? (a.add (0 * 2 + 0)) = some (.int .i64 e.mem) from hc0)
      rwa [block_of_add] at this
    · have hjl : j < es.length * 2 := by
        have := (List.getElem?_eq_some_iff.1 hu).1
        rwa [len_balsC] at this
      obtain ⟨e, he⟩ : ∃ e, es[j / 2]? = some e := ⟨_, List.getElem?_eq_getElem (by omega)⟩
      have h3 := balsC_get (j := j % 2) he (by omega)
      rw [show j / 2 * 2 + j % 2 = j by omega, hu] at h3
      have h4 := (h2 _ e he).1 (j % 2) (by omega)
      rw [show j / 2 * 2 + j % 2 = j by omega, ← h3] at h4
      exact h4
    · obtain ⟨i, hi1, hi2⟩ := List.mem_iff_getElem.1 he
      exact (h2 i e (by rw [List.getElem?_eq_getElem hi1, hi2])).2
set_option maxRecDepth 100000 in
theorem open_bal (hval : Value.okWide Try.prog W .any base 27 v) (h : DataW.Trod enc Try.prog W 0 (fun _ => true) true 27 v d p) :
    ∃ e : Pbl, v = .agg #[.int .i64 e.mem, .slice e.ptr e.cut.length e.cap] ∧ PGw W e := by
  obtain ⟨cs, rfl, hsz⟩ := okWide_struct Try.underlying27 hval
  obtain ⟨l⟩ := cs
  obtain ⟨fuel, hf⟩ := h
  obtain ⟨e, hcs, h1⟩ := bal_of hf
  simp [Value.cells] at hcs
  subst hcs
  exact ⟨e, rfl, h1⟩
set_option maxRecDepth 100000 in
theorem open_bals (hval : Value.okWide Try.prog W .any base 25 v) (h : DataW.Trod enc Try.prog W 0 (fun _ => true) true 25 v d p) :
    ∃ (A : Option Addr) (c : Nat) (es : List Pbl), v = .slice A es.length c ∧ BSw W es A c := by
  obtain ⟨A, n, c, rfl⟩ := okWide_slice Try.underlying25 hval
  obtain ⟨fuel, hf⟩ := h
  obtain ⟨A', c', es, hcs, h1⟩ := bals_of hf
  simp [Value.cells] at hcs
  obtain ⟨rfl, rfl, rfl⟩ := hcs
  exact ⟨_, _, es, rfl, h1⟩
set_option maxRecDepth 100000 in
theorem open_intsl (hval : Value.okWide Try.prog W .any base 22 v) (h : DataW.Trod enc Try.prog W 0 (fun _ => true) true 22 v d p) :
    ∃ (A : Option Addr) (c : Nat) (is : List Int), v = .slice A is.length c ∧ is.length ≤ c ∧ c ≤ maxLen ∧ Reads W W.heap.size 1 A is.length (is.map intV) ∧ ∀ x ∈ is, Go.Proofs.Ytmnagkjdnmnbkaa.W.In64 x := by
  obtain ⟨A, n, c, rfl⟩ := okWide_slice Try.underlying22 hval
  obtain ⟨fuel, hf⟩ := h
  obtain ⟨A', c', is, hcs, h1, h2, h3, h4⟩ := ints_of hf
  simp [Value.cells] at hcs
  obtain ⟨rfl, rfl, rfl⟩ := hcs
  exact ⟨_, _, is, rfl, h1, h2, h3, h4⟩
end
end Go.Proofs.Ytmnagkjdnmnbkaa.Fa
