/- What every card of layer 7 takes: the two tables of package hashing, and the arguments' opening. -/
import Derived.Test.YtipipjbpjpdcbaaDoorCAw1
import Derived.Test.YtipipjbpjpdcbaaDoorCards
import Derived.Test.YtipipjbpjpdcbaaDoorTie
import Derived.WalkKit
import Derived.ProofKit
import Derived.OpenShut
import Derived.ShutString
import Derived.Carry
import Derived.SliceStrings
import Derived.Deep.Fields
import Derived.Deep.Slices
import Derived.Deep.DeepHandedRow
import Derived.Lib.LaidTab
import Derived.Lib.SmallJoins
import Derived.LaidSub
namespace Go.Proofs.YtipipjbpjpdcbaaDoor.Ca
set_option linter.unusedVariables false
open Go.Joins Go.ChangeShapes Go.WideShapes Go.ChangeAt Go.RowKit Go.Deep
open Go.ChangeMaps (open_string shut_string)
open Go.Proofs.YtipipjbpjpdcbaaDoor.W
open Go.Proofs.YtipipjbpjpdcbaaDoor.V
open Go.Proofs.YtipipjbpjpdcbaaDoor.Pb (Alr alrC alrsC len_alrsC alrsC_get)
open Go.Proofs.YtipipjbpjpdcbaaDoor.Al (El AS)
open Go.Lib (byteCells byteCells_length)

set_option maxRecDepth 100000 in
theorem own : ownKnob Tryd.prog.godebug = none := by kernel_rfl
set_option maxRecDepth 100000 in
theorem laidOut : laidOutB Tryd.prog = true := by kernel_rfl
set_option maxRecDepth 100000 in
theorem gS : Tryd.prog.globalNamed "actorgrid/hashing.shifts" = some 0 := by kernel_rfl
set_option maxRecDepth 100000 in
theorem gF : Tryd.prog.globalNamed "actorgrid/hashing.factors" = some 1 := by kernel_rfl
set_option maxRecDepth 100000 in
theorem tS : (Tryd.prog.globals[0]?).map (·.type) = some 109 := by kernel_rfl
set_option maxRecDepth 100000 in
theorem tF : (Tryd.prog.globals[1]?).map (·.type) = some 110 := by kernel_rfl
set_option maxRecDepth 100000 in
theorem c3 : Tryd.prog.cellsOf 109 = 3 := by kernel_rfl
set_option maxRecDepth 100000 in
theorem c2 : Tryd.prog.cellsOf 110 = 2 := by kernel_rfl
set_option maxRecDepth 100000 in
theorem cU : Tryd.prog.cellsOf 43 = 1 := by kernel_rfl
set_option maxRecDepth 100000 in
theorem cW : Tryd.prog.cellsOf 76 = 1 := by kernel_rfl
def zS : List Int := [30, 27, 31]
def zF : List Int := [13787848793156543929, 10723151780598845931]
abbrev Tab := H.Tab
set_option maxRecDepth 100000 in
theorem tab_of_laid {W : World} (h : laidMetH Tryd.prog [("actorgrid/hashing.shifts", Rows.laid_actorgrid_hashing_shifts), ("actorgrid/hashing.factors", Rows.laid_actorgrid_hashing_factors)] W) : Tab W := by
  have h0 : laidMet Tryd.prog [("actorgrid/hashing.shifts", Lib.tabData .u64 zS), ("actorgrid/hashing.factors", Lib.tabData .u64 zF)] W := h
  have h1 : laidMet Tryd.prog [("actorgrid/hashing.factors", Lib.tabData .u64 zF)] W := by
    have := h0.filter fun x => x.1 == "actorgrid/hashing.factors"
    simpa using this
  have k0 := Lib.tabIs_of_head gS tS Tryd.underlying109 Tryd.underlying43 cU c3 h0
  have k1 := Lib.tabIs_of_head gF tF Tryd.underlying110 Tryd.underlying76 cW c2 h1
  exact ⟨k0.cell gS 0 (by decide), k0.cell gS 1 (by decide), k0.cell gS 2 (by decide), k1.cell gF 0 (by decide), k1.cell gF 1 (by decide)⟩
/-- A row laid anew, where it lies. -/
def laid (vs : Array Value) : Obj → Obj
  | .cells _ t frozen => .cells vs t frozen
  | o => o
/-- A world for the witness: the settled one, the tables holding what their initialisers lay. -/
noncomputable def laidWorld (os : Os) : World :=
  { World.holding Tryd.prog os ⟨#[], #[], []⟩ with
    heap := (((World.holding Tryd.prog os ⟨#[], #[], []⟩).heap.modify 0 (laid #[.int .u64 30, .int .u64 27, .int .u64 31])).modify 1 (laid #[.int .u64 13787848793156543929, .int .u64 10723151780598845931])) }
set_option maxRecDepth 100000 in
theorem cell_lt {w : World} {p : Addr} {v : Value} (h : w.cell? p = some v) : p.block < w.heap.size := by
  by_cases hc : p.block < w.heap.size
  · exact hc
  · have : w.heap[p.block]? = none := by simp; omega
    simp [World.cell?, this] at h
section
variable {H : Type} {enc : TypeId × Value → H} {W : World} {base : Nat} {d : DataW H} {p : List MemPlace} {v : Value}

set_option maxRecDepth 100000 in
theorem ints_of {W : World} {n : Nat} {cs : List Value} {x : DataW H × List MemPlace} (h : DataW.trod enc Tryd.prog W 0 (fun _ => true) true n 22 cs = some x) :
    ∃ (A : Option Addr) (c : Nat) (is : List Int), cs = [.slice A is.length c] ∧ is.length ≤ c ∧ c ≤ maxLen ∧ Reads W W.heap.size 1 A is.length (is.map intV) ∧ ∀ x ∈ is, Go.Proofs.YtipipjbpjpdcbaaDoor.W.In64 x := by
  rcases open_ints Tryd.underlying22 Tryd.underlying3 (by kernel_rfl) h with ⟨hcs, _⟩ | ⟨x, l, c', zs, hcs, _, hl, hm, hz, _, hcell, hw⟩
  · exact ⟨none, 0, [], hcs, Nat.le_refl _, Nat.zero_le _, Reads.none_, fun x hx => by simp at hx⟩
  · have hz' : zs.length = c' := by simpa using hz
    have hlen : (zs.take l).length = l := by rw [List.length_take]; omega
    refine ⟨some x, c', zs.take l, by rw [hlen]; exact hcs, by rw [hlen]; exact hl, hm, ⟨by simp, fun hn => ⟨x, rfl, ?_, fun j u hu => ?_⟩⟩, fun y hy => ?_⟩
    · have := cell_lt (hcell 0 (by omega))
      rwa [block_of_add] at this
    · have hjl : j < ((zs.take l).map intV).length := (List.getElem?_eq_some_iff.1 hu).1
      rw [List.length_map, hlen] at hjl
      have hj : j < zs.length := by omega
      rw [hcell j hj, ← hu]
      simp [hj, hjl, intV]
    · have := bounds_i64 (hw y (List.mem_of_mem_take hy))
      exact this
set_option maxRecDepth 100000 in
theorem bytes_of {W : World} {a : Addr} {len cap : Nat} {zs : List Int} (hl : len ≤ cap) (hz : zs.length = cap) (hcell : ∀ i, i < zs.length → W.cell? (a.add i) = some (.int .u8 (zs.getD i 0))) (hw : ∀ n ∈ zs, (Lit.int .u8 n).wf = true) :
    ∃ bs : List UInt8, Reads W W.heap.size 1 (some a) len (byteCells bs) := by
  refine ⟨(zs.take len).map fun z => z.toNat.toUInt8, ?_, fun hn => ⟨a, rfl, ?_, fun j u hu => ?_⟩⟩
  · rw [byteCells_length, List.length_map, List.length_take]; omega
  · have := cell_lt (hcell 0 (by omega))
    rwa [block_of_add] at this
  · have hjl : j < (byteCells ((zs.take len).map fun z => z.toNat.toUInt8)).length := (List.getElem?_eq_some_iff.1 hu).1
    rw [byteCells_length, List.length_map, List.length_take] at hjl
    have hj : j < zs.length := by omega
    rw [hcell j hj, ← hu, byteCells_get (by rw [List.length_map, List.length_take]; omega)]
    have hb := bounds_u8 (hw (zs.getD j 0) (by simp [hj]))
    simp [hj] at hb ⊢
    omega
set_option maxRecDepth 100000 in
theorem view_of {n : Nat} {cs : List Value} {x : DataW H × List MemPlace} (h : DataW.trod enc Tryd.prog W 0 (fun _ => true) true n 24 cs = some x) :
    ∃ (num : Int) (A : Option Addr) (c : Nat) (is : List Int), cs = [.int .i64 num, .slice A is.length c] ∧ Go.Proofs.YtipipjbpjpdcbaaDoor.W.In64 num ∧ Reads W W.heap.size 1 A is.length (is.map intV) ∧ (∀ x ∈ is, Go.Proofs.YtipipjbpjpdcbaaDoor.W.In64 x) ∧ is.length ≤ c := by
  obtain ⟨xs, m, _, hx, hcl, hlen, hg⟩ := DataW.trod_struct Tryd.underlying24 h
  rw [show Tryd.prog.cellsOf 24 = 2 by kernel_rfl] at hcl
  have e1 : Tryd.prog.cellsOf 3 = 1 := by kernel_rfl
  have e3 : Tryd.prog.cellsOf 22 = 1 := by kernel_rfl
  match cs, hcl, xs, hlen with
  | [c0, c1], _, [y0, y1], _ =>
    have h0 := hg 0 _ rfl
    have h1 := hg 1 _ rfl
    simp [e1, e3] at h0 h1
    obtain ⟨k, q0, _, w0⟩ := DataW.trod_int Tryd.underlying3 h0
    obtain ⟨I, ci, is, q3, hci, mi, ri, wi⟩ := ints_of h1
    simp only [List.cons.injEq, and_true] at q0 q3
    subst q0 q3
    exact ⟨k, I, ci, is, rfl, bounds_i64 w0, ri, wi, hci⟩
set_option maxRecDepth 100000 in
theorem list_of {α : Type} {P : Nat → α → Prop} : ∀ {n : Nat}, (∀ i, i < n → ∃ e, P i e) → ∃ es : List α, es.length = n ∧ ∀ i e, es[i]? = some e → P i e
  | 0, _ => ⟨[], rfl, fun i e h => by simp at h⟩
  | n + 1, h => by
    obtain ⟨es, h1, h2⟩ := list_of (n := n) fun i hi => h i (by omega)
    obtain ⟨e0, he0⟩ := h n (by omega)
    refine ⟨es ++ [e0], by simp [h1], fun i e hi => ?_⟩
    rcases Nat.lt_trichotomy i n with hl | rfl | hl
    · rw [List.getElem?_append_left (by omega)] at hi
      exact h2 i e hi
    · rw [List.getElem?_append_right (by omega), h1] at hi
      simp at hi
      subst hi
      exact he0
    · rw [List.getElem?_eq_none (by simp; omega)] at hi; cases hi
set_option maxRecDepth 100000 in
theorem open_view (hval : Value.okWide Tryd.prog W .any base 24 v) (h : DataW.Trod enc Tryd.prog W 0 (fun _ => true) true 24 v d p) :
    ∃ (num : Int) (A : Option Addr) (c : Nat) (is : List Int), v = .agg #[.int .i64 num, .slice A is.length c] ∧ Go.Proofs.YtipipjbpjpdcbaaDoor.W.In64 num ∧ Reads W W.heap.size 1 A is.length (is.map intV) ∧ (∀ x ∈ is, Go.Proofs.YtipipjbpjpdcbaaDoor.W.In64 x) ∧ is.length ≤ c := by
  obtain ⟨cs, rfl, hsz⟩ := okWide_struct Tryd.underlying24 hval
  obtain ⟨l⟩ := cs
  obtain ⟨fuel, hf⟩ := h
  obtain ⟨num, A, c, is, hcs, h1, h2, h3, h4⟩ := view_of hf
  simp [Value.cells] at hcs
  subst hcs
  exact ⟨num, A, c, is, rfl, h1, h2, h3, h4⟩
set_option maxRecDepth 100000 in
theorem alr_of {n : Nat} {cs : List Value} {x : DataW H × List MemPlace} (h : DataW.trod enc Tryd.prog W 0 (fun _ => true) true n 48 cs = some x) :
    ∃ e : Alr, cs = alrC e ∧ El e := by
  obtain ⟨xs, m, _, hx, hcl, hlen, hg⟩ := DataW.trod_struct Tryd.underlying48 h
  rw [show Tryd.prog.cellsOf 48 = 4 by kernel_rfl] at hcl
  have e1 : Tryd.prog.cellsOf 3 = 1 := by kernel_rfl
  match cs, hcl, xs, hlen with
  | [c0, c1, c2, c3], _, [y0, y1, y2, y3], _ =>
    have h0 := hg 0 _ rfl
    have h1 := hg 1 _ rfl
    have h2 := hg 2 _ rfl
    have h3 := hg 3 _ rfl
    simp [e1] at h0 h1 h2 h3
    obtain ⟨a, q0, _, w0⟩ := DataW.trod_int Tryd.underlying3 h0
    obtain ⟨b, q1, _, w1⟩ := DataW.trod_int Tryd.underlying3 h1
    obtain ⟨c, q2, _, w2⟩ := DataW.trod_int Tryd.underlying3 h2
    obtain ⟨d, q3, _, w3⟩ := DataW.trod_int Tryd.underlying3 h3
    simp only [List.cons.injEq, and_true] at q0 q1 q2 q3
    subst q0 q1 q2 q3
    exact ⟨⟨a, b, c, d⟩, rfl, bounds_i64 w0, bounds_i64 w1, bounds_i64 w2, bounds_i64 w3⟩
set_option maxRecDepth 100000 in
theorem alrs_of {n : Nat} {cs : List Value} {x : DataW H × List MemPlace} (h : DataW.trod enc Tryd.prog W 0 (fun _ => true) true n 25 cs = some x) :
    ∃ (A : Option Addr) (c : Nat) (es : List Alr), cs = [.slice A es.length c] ∧ es.length ≤ c ∧ Reads W W.heap.size 4 A es.length (alrsC es) ∧ ∀ e ∈ es, El e := by
  rcases open_slice Tryd.underlying25 h with ⟨hcs, _⟩ | ⟨a, len, cap, m, k, D, Pl, hcs, hb, hl, hm, hmm, hx, hi⟩
  · exact ⟨none, 0, [], hcs, Nat.le_refl _, Reads.none_, fun e he => by cases he⟩
  · rw [show Tryd.prog.cellsOf 48 = 4 by kernel_rfl] at hi
    simp only [if_true] at hmm
    obtain ⟨es, h1, h2⟩ := list_of (n := len) (P := fun i e => (∀ j, j < 4 → W.cell? (a.add (i * 4 + j)) = (alrC e)[j]?) ∧ El e) (fun i hil => by
      obtain ⟨cs', hc, ht⟩ := hi i (by omega)
      obtain ⟨e, rfl, he⟩ := alr_of ht
      obtain ⟨_, _, hat⟩ := World.cells?_some hc
      exact ⟨e, fun j hj => by rw [← add_of_add]; exact hat j hj, he⟩)
    refine ⟨some a, cap, es, by rw [h1]; exact hcs, by omega, ⟨len_alrsC es, fun hn => ⟨a, rfl, ?_, fun j u hu => ?_⟩⟩, fun e he => ?_⟩
    · obtain ⟨e, he⟩ : ∃ e, es[0]? = some e := ⟨_, List.getElem?_eq_getElem hn⟩
      have hc0 := (h2 0 e he).1 0 (by omega)
      have := cell_lt (show W.cell? (a.add (0 * 4 + 0)) = some (.int .i64 e.view) from hc0)
      rwa [block_of_add] at this
    · have hjl : j < es.length * 4 := by
        have := (List.getElem?_eq_some_iff.1 hu).1
        rwa [len_alrsC] at this
      obtain ⟨e, he⟩ : ∃ e, es[j / 4]? = some e := ⟨_, List.getElem?_eq_getElem (by omega)⟩
      have h3 := alrsC_get (j := j % 4) he (by omega)
      rw [show j / 4 * 4 + j % 4 = j by omega, hu] at h3
      have h4 := (h2 _ e he).1 (j % 4) (by omega)
      rw [show j / 4 * 4 + j % 4 = j by omega, ← h3] at h4
      exact h4
    · obtain ⟨i, hi1, hi2⟩ := List.mem_iff_getElem.1 he
      exact (h2 i e (by rw [List.getElem?_eq_getElem hi1, hi2])).2
set_option maxRecDepth 100000 in
theorem open_alr (hval : Value.okWide Tryd.prog W .any base 48 v) (h : DataW.Trod enc Tryd.prog W 0 (fun _ => true) true 48 v d p) :
    ∃ e : Alr, v = .agg #[.int .i64 e.view, .int .i64 e.ring, .int .i64 e.obs, .int .i64 e.subj] ∧ El e := by
  obtain ⟨cs, rfl, hsz⟩ := okWide_struct Tryd.underlying48 hval
  obtain ⟨l⟩ := cs
  obtain ⟨fuel, hf⟩ := h
  obtain ⟨e, hcs, h1⟩ := alr_of hf
  simp [Value.cells] at hcs
  subst hcs
  exact ⟨e, rfl, h1⟩
set_option maxRecDepth 100000 in
theorem open_alrs (hval : Value.okWide Tryd.prog W .any base 25 v) (h : DataW.Trod enc Tryd.prog W 0 (fun _ => true) true 25 v d p) :
    ∃ (A : Option Addr) (c : Nat) (es : List Alr), v = .slice A es.length c ∧ es.length ≤ c ∧ Reads W W.heap.size 4 A es.length (alrsC es) ∧ ∀ e ∈ es, El e := by
  obtain ⟨A, n, c, rfl⟩ := okWide_slice Tryd.underlying25 hval
  obtain ⟨fuel, hf⟩ := h
  obtain ⟨A', c', es, hcs, h1, h2, h3⟩ := alrs_of hf
  simp [Value.cells] at hcs
  obtain ⟨rfl, rfl, rfl⟩ := hcs
  exact ⟨_, _, es, rfl, h1, h2, h3⟩
set_option maxRecDepth 100000 in
theorem open_u16s (hval : Value.okWide Tryd.prog W .any base 37 v) (h : DataW.Trod enc Tryd.prog W 0 (fun _ => true) true 37 v d p) :
    ∃ (A : Option Addr) (c : Nat) (xs : List Nat), v = .slice A xs.length c ∧ xs.length ≤ c ∧ Reads W W.heap.size 1 A xs.length (xs.map fun x : Nat => Value.int .u16 (x : Int)) ∧ ∀ x ∈ xs, x < 65536 := by
  obtain ⟨A, n, c, rfl⟩ := okWide_slice Tryd.underlying37 hval
  obtain ⟨fuel, hf⟩ := h
  rcases open_ints Tryd.underlying37 Tryd.underlying42 (by kernel_rfl) hf with ⟨hcs, _⟩ | ⟨x, l, c', zs, hcs, _, hl, hm, hz, _, hcell, hw⟩
  · simp [Value.cells] at hcs
    obtain ⟨rfl, rfl, rfl⟩ := hcs
    exact ⟨none, 0, [], rfl, Nat.le_refl _, Reads.none_, fun x hx => by simp at hx⟩
  · simp [Value.cells] at hcs
    obtain ⟨rfl, rfl, rfl⟩ := hcs
    have hz' : zs.length = c := by simpa using hz
    have hlen : ((zs.take n).map Int.toNat).length = n := by rw [List.length_map, List.length_take]; omega
    have hb : ∀ i, i < n → 0 ≤ zs.getD i 0 ∧ zs.getD i 0 < 65536 := fun i hi => by
      have := bounds_u16 (hw (zs.getD i 0) (by simp [show i < zs.length by omega]))
      omega
    refine ⟨some x, c, (zs.take n).map Int.toNat, by rw [hlen], by rw [hlen]; exact hl, ⟨by simp, fun hn => ⟨x, rfl, ?_, fun j u hu => ?_⟩⟩, fun y hy => ?_⟩
    · rw [hlen] at hn
      have := cell_lt (hcell 0 (by omega))
      rwa [block_of_add] at this
    · have hjl : j < (((zs.take n).map Int.toNat).map fun x : Nat => Value.int .u16 (x : Int)).length := (List.getElem?_eq_some_iff.1 hu).1
      rw [List.length_map, hlen] at hjl
      rw [hcell j (by omega), ← hu]
      have h1 := hb j hjl
      have hj : j < zs.length := by omega
      simp [hj] at h1
      simp [hj, hjl]
      omega
    · obtain ⟨z, hz1, rfl⟩ := List.mem_map.1 hy
      have := bounds_u16 (hw z (List.mem_of_mem_take hz1))
      omega
end
end Go.Proofs.YtipipjbpjpdcbaaDoor.Ca
