/- What every proof of a statement of layer 3 takes: the arguments' opening. (No table is laid.) -/
import Derived.Test.YteiolhbjgfkdeaaVLaw0
import Derived.Test.YteiolhbjgfkdeaaRows
import Derived.WalkKit
import Derived.ProofKit
import Derived.OpenShut
import Derived.ShutString
import Derived.Carry
import Derived.SliceStrings
import Derived.Deep.Fields
import Derived.Deep.DeepHandedRow
import Derived.Lib.LaidTab
import Derived.Lib.SmallJoins
namespace Go.Proofs.Yteiolhbjgfkdeaa.V
set_option linter.unusedVariables false
open Go.Joins Go.ChangeShapes Go.WideShapes Go.ChangeAt Go.RowKit Go.Deep
open Go.ChangeMaps (open_string shut_string)
open Go.Lib (byteCells byteCells_length)
open Go.Proofs.Yteiolhbjgfkdeaa.W

theorem own : ownKnob Try.prog.godebug = none := by kernel_rfl
theorem laidOut : laidOutB Try.prog = true := by kernel_rfl
/-- No table: nothing is asked of the world. -/
def Tab (w : World) : Prop := 0 ≤ w.heap.size
theorem tab_of_laid {W : World} {L : List (String × DataW Unit)} (h : laidMetH Try.prog L W) : Tab W := Nat.zero_le _
noncomputable def laidWorld (os : Os) : World := World.holding Try.prog os ⟨#[], #[], []⟩

theorem cell_lt {w : World} {p : Addr} {v : Value} (h : w.cell? p = some v) : p.block < w.heap.size := by
  by_cases hc : p.block < w.heap.size
  · exact hc
  · have : w.heap[p.block]? = none := by simp; omega
    simp [World.cell?, this] at h

section
variable {H : Type} {enc : TypeId × Value → H} {W : World} {base : Nat} {d : DataW H} {p : List MemPlace} {v : Value}

theorem bytes_of {W : World} {a : Addr} {len cap : Nat} {zs : List Int} (hl : len ≤ cap) (hz : zs.length = cap) (hcell : ∀ i, i < zs.length → W.cell? (a.add i) = some (.int .u8 (zs.getD i 0))) (hw : ∀ n ∈ zs, (Lit.int .u8 n).wf = true) :
    ∃ bs : List UInt8, Reads W W.heap.size 1 (some a) len (byteCells bs) := by
  refine ⟨(zs.take len).map fun z => z.toNat.toUInt8, ?_, fun hn => ⟨a, rfl, ?_, fun j u hu => ?_⟩⟩
  · rw [byteCells_length, List.length_map, List.length_take]; omega
  · have := cell_lt (hcell 0 (by omega))
    rwa [block_of_add] at this
  · have hjl : j < (byteCells ((zs.take len).map fun z => z.toNat.toUInt8)).length := (List.getElem?_eq_some_iff.1 hu).1
    rw [byteCells_length, List.length_map, List.length_take] at hjl
    have hj : j < zs.length := by omega
    rw [hcell j hj, ← hu, byteCells_get (by rw [List.length_map, List.length_take]; omega)]
    have hb := bounds_u8 (hw (zs.getD j 0) (by simp [hj]))
    simp [hj] at hb ⊢
    omega

theorem open_bytes (hval : Value.okWide Try.prog W .any base 40 v) (h : DataW.Trod enc Try.prog W 0 (fun _ => true) true 40 v d p) :
    ∃ (A : Option Addr) (n c : Nat) (bs : List UInt8), v = .slice A n c ∧ n ≤ c ∧ c ≤ maxLen ∧ Reads W W.heap.size 1 A n (byteCells bs) := by
  obtain ⟨A, n, c, rfl⟩ := okWide_slice Try.underlying40 hval
  obtain ⟨fuel, hf⟩ := h
  rcases open_ints Try.underlying40 Try.underlying5 (by kernel_rfl) hf with ⟨hcs, _⟩ | ⟨x, l, c', zs, hcs, _, hl, hm, hz, _, hcell, hw⟩
  · simp [Value.cells] at hcs
    obtain ⟨rfl, rfl, rfl⟩ := hcs
    exact ⟨none, 0, 0, [], rfl, Nat.le_refl _, Nat.zero_le _, Reads.nothing⟩
  · simp [Value.cells] at hcs
    obtain ⟨rfl, rfl, rfl⟩ := hcs
    obtain ⟨bs, hr⟩ := bytes_of hl (by simpa using hz) hcell hw
    exact ⟨_, _, _, bs, rfl, hl, hm, hr⟩

theorem ints_of {W : World} {n : Nat} {cs : List Value} {x : DataW H × List MemPlace} (h : DataW.trod enc Try.prog W 0 (fun _ => true) true n 22 cs = some x) :
    ∃ (A : Option Addr) (c : Nat) (is : List Int), cs = [.slice A is.length c] ∧ is.length ≤ c ∧ c ≤ maxLen ∧ Reads W W.heap.size 1 A is.length (is.map intV) ∧ ∀ x ∈ is, Go.Proofs.Yteiolhbjgfkdeaa.W.In64 x := by
  rcases open_ints Try.underlying22 Try.underlying3 (by kernel_rfl) h with ⟨hcs, _⟩ | ⟨x, l, c', zs, hcs, _, hl, hm, hz, _, hcell, hw⟩
  · exact ⟨none, 0, [], hcs, Nat.le_refl _, Nat.zero_le _, Reads.none_, fun x hx => by simp at hx⟩
  · have hz' : zs.length = c' := by simpa using hz
    have hlen : (zs.take l).length = l := by rw [List.length_take]; omega
    refine ⟨some x, c', zs.take l, by rw [hlen]; exact hcs, by rw [hlen]; exact hl, hm, ⟨by simp, fun hn => ⟨x, rfl, ?_, fun j u hu => ?_⟩⟩, fun y hy => ?_⟩
    · have := cell_lt (hcell 0 (by omega))
      rwa [block_of_add] at this
    · have hjl : j < ((zs.take l).map intV).length := (List.getElem?_eq_some_iff.1 hu).1
      rw [List.length_map, hlen] at hjl
      have hj : j < zs.length := by omega
      rw [hcell j hj, ← hu]
      simp [hj, hjl, intV]
    · have := bounds_i64 (hw y (List.mem_of_mem_take hy))
      exact this

theorem open_intsl (hval : Value.okWide Try.prog W .any base 22 v) (h : DataW.Trod enc Try.prog W 0 (fun _ => true) true 22 v d p) :
    ∃ (A : Option Addr) (c : Nat) (is : List Int), v = .slice A is.length c ∧ is.length ≤ c ∧ c ≤ maxLen ∧ Reads W W.heap.size 1 A is.length (is.map intV) ∧ ∀ x ∈ is, Go.Proofs.Yteiolhbjgfkdeaa.W.In64 x := by
  obtain ⟨A, n, c, rfl⟩ := okWide_slice Try.underlying22 hval
  obtain ⟨fuel, hf⟩ := h
  obtain ⟨A', c', is, hcs, h1, h2, h3, h4⟩ := ints_of hf
  simp [Value.cells] at hcs
  obtain ⟨rfl, rfl, rfl⟩ := hcs
  exact ⟨_, _, is, rfl, h1, h2, h3, h4⟩
theorem open_view (hval : Value.okWide Try.prog W .any base 31 v) (h : DataW.Trod enc Try.prog W 0 (fun _ => true) true 31 v d p) :
    ∃ (num : Int) (A : Option Addr) (c : Nat) (is : List Int), v = .agg #[.int .i64 num, .slice A is.length c] ∧ Go.Proofs.Yteiolhbjgfkdeaa.W.In64 num ∧ LR W W.heap.size is A c := by
  obtain ⟨cs, rfl, hsz⟩ := okWide_struct Try.underlying31 hval
  obtain ⟨l⟩ := cs
  match l, hsz.trans (show Try.prog.cellsOf 31 = 2 by kernel_rfl) with
  | [c0, c1], _ =>
    obtain ⟨fuel, hf⟩ := h
    obtain ⟨xs, n, _, hx, _, hlen, hg⟩ := DataW.trod_struct Try.underlying31 hf
    have e1 : Try.prog.cellsOf 3 = 1 := by kernel_rfl
    have e3 : Try.prog.cellsOf 22 = 1 := by kernel_rfl
    match xs, hlen with
    | [y0, y1], _ =>
      have h0 := hg 0 _ rfl
      have h1 := hg 1 _ rfl
      simp [Value.cells, e1, e3] at h0 h1
      obtain ⟨k, q0, _, w0⟩ := DataW.trod_int Try.underlying3 h0
      obtain ⟨I, ci, is, q3, hci, mi, ri, wi⟩ := ints_of h1
      simp only [List.cons.injEq, and_true] at q0 q3
      subst q0 q3
      unfold maxLen at mi
      exact ⟨k, I, ci, is, rfl, bounds_i64 w0, ⟨ri, by omega, wi, hci⟩⟩
end
end Go.Proofs.Yteiolhbjgfkdeaa.V
