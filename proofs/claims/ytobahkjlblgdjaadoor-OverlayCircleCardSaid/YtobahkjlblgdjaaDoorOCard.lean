/- What every card of the overlay takes: the package's two tables, and the arguments' opening. -/
import Derived.Test.YtobahkjlblgdjaaDoorOB
import Derived.Test.YtobahkjlblgdjaaDoorCards
import Derived.Test.YtobahkjlblgdjaaDoorTie
import Derived.WalkKit
import Derived.ProofKit
import Derived.OpenShut
import Derived.ShutString
import Derived.Carry
import Derived.SliceStrings
import Derived.Deep.Fields
import Derived.Deep.DeepHandedRow
import Derived.Lib.LaidTab
import Derived.Lib.SmallJoins
import Derived.LaidSub
namespace Go.Proofs.YtobahkjlblgdjaaDoor.O
set_option linter.unusedVariables false
open Go.Joins Go.ChangeShapes Go.WideShapes Go.ChangeAt Go.RowKit Go.Deep
open Go.ChangeMaps (open_string shut_string)
open Go.Proofs.YtobahkjlblgdjaaDoor.W

theorem own : ownKnob Tryd.prog.godebug = none := by kernel_rfl
theorem laidOut : laidOutB Tryd.prog = true := by kernel_rfl
theorem gS : Tryd.prog.globalNamed "actorgrid/hashing.shifts" = some 0 := by kernel_rfl
theorem gF : Tryd.prog.globalNamed "actorgrid/hashing.factors" = some 1 := by kernel_rfl
theorem tS : (Tryd.prog.globals[0]?).map (·.type) = some 83 := by kernel_rfl
theorem tF : (Tryd.prog.globals[1]?).map (·.type) = some 84 := by kernel_rfl
theorem c3 : Tryd.prog.cellsOf 83 = 3 := by kernel_rfl
theorem c2 : Tryd.prog.cellsOf 84 = 2 := by kernel_rfl
theorem cU : Tryd.prog.cellsOf 50 = 1 := by kernel_rfl
theorem cW : Tryd.prog.cellsOf 38 = 1 := by kernel_rfl
def zS : List Int := [30, 27, 31]
def zF : List Int := [13787848793156543929, 10723151780598845931]
abbrev Tab := H.Tab
theorem tab_of_laid {W : World} (h : laidMetH Tryd.prog [("actorgrid/hashing.shifts", Rows.laid_actorgrid_hashing_shifts), ("actorgrid/hashing.factors", Rows.laid_actorgrid_hashing_factors)] W) : Tab W := by
  have h0 : laidMet Tryd.prog [("actorgrid/hashing.shifts", Lib.tabData .u64 zS), ("actorgrid/hashing.factors", Lib.tabData .u64 zF)] W := h
  have h1 : laidMet Tryd.prog [("actorgrid/hashing.factors", Lib.tabData .u64 zF)] W := by
    have := h0.filter fun x => x.1 == "actorgrid/hashing.factors"
    simpa using this
  have k0 := Lib.tabIs_of_head gS tS Tryd.underlying83 Tryd.underlying50 cU c3 h0
  have k1 := Lib.tabIs_of_head gF tF Tryd.underlying84 Tryd.underlying38 cW c2 h1
  exact ⟨k0.cell gS 0 (by decide), k0.cell gS 1 (by decide), k0.cell gS 2 (by decide), k1.cell gF 0 (by decide), k1.cell gF 1 (by decide)⟩
/-- A row laid anew, where it lies. -/
def laid (vs : Array Value) : Obj → Obj
  | .cells _ t frozen => .cells vs t frozen
  | o => o
/-- A world for the witness: the settled one, the tables holding what their initialisers lay. -/
noncomputable def laidWorld (os : Os) : World :=
  { World.holding Tryd.prog os ⟨#[], #[], []⟩ with
    heap := (((World.holding Tryd.prog os ⟨#[], #[], []⟩).heap.modify 0 (laid #[.int .u64 30, .int .u64 27, .int .u64 31])).modify 1 (laid #[.int .u64 13787848793156543929, .int .u64 10723151780598845931])) }
theorem cell_lt {w : World} {p : Addr} {v : Value} (h : w.cell? p = some v) : p.block < w.heap.size := by
  by_cases hc : p.block < w.heap.size
  · exact hc
  · have : w.heap[p.block]? = none := by simp; omega
    simp [World.cell?, this] at h
section
variable {H : Type} {enc : TypeId × Value → H} {W : World} {base : Nat} {d : DataW H} {p : List MemPlace} {v : Value}

theorem ints_of {W : World} {n : Nat} {cs : List Value} {x : DataW H × List MemPlace} (h : DataW.trod enc Tryd.prog W 0 (fun _ => true) true n 22 cs = some x) :
    ∃ (A : Option Addr) (c : Nat) (is : List Int), cs = [.slice A is.length c] ∧ is.length ≤ c ∧ c ≤ maxLen ∧ Reads W W.heap.size 1 A is.length (is.map intV) ∧ ∀ x ∈ is, Go.Proofs.YtobahkjlblgdjaaDoor.W.In64 x := by
  rcases open_ints Tryd.underlying22 Tryd.underlying3 (by kernel_rfl) h with ⟨hcs, _⟩ | ⟨x, l, c', zs, hcs, _, hl, hm, hz, _, hcell, hw⟩
  · exact ⟨none, 0, [], hcs, Nat.le_refl _, Nat.zero_le _, Reads.none_, fun x hx => by simp at hx⟩
  · have hz' : zs.length = c' := by simpa using hz
    have hlen : (zs.take l).length = l := by rw [List.length_take]; omega
    refine ⟨some x, c', zs.take l, by rw [hlen]; exact hcs, by rw [hlen]; exact hl, hm, ⟨by simp, fun hn => ⟨x, rfl, ?_, fun j u hu => ?_⟩⟩, fun y hy => ?_⟩
    · have := cell_lt (hcell 0 (by omega))
      rwa [block_of_add] at this
    · have hjl : j < ((zs.take l).map intV).length := (List.getElem?_eq_some_iff.1 hu).1
      rw [List.length_map, hlen] at hjl
      have hj : j < zs.length := by omega
      rw [hcell j hj, ← hu]
      simp [hj, hjl, intV]
    · have := bounds_i64 (hw y (List.mem_of_mem_take hy))
      exact this
theorem open_intsl (hval : Value.okWide Tryd.prog W .any base 22 v) (h : DataW.Trod enc Tryd.prog W 0 (fun _ => true) true 22 v d p) :
    ∃ (A : Option Addr) (c : Nat) (is : List Int), v = .slice A is.length c ∧ is.length ≤ c ∧ c ≤ maxLen ∧ Reads W W.heap.size 1 A is.length (is.map intV) ∧ ∀ x ∈ is, Go.Proofs.YtobahkjlblgdjaaDoor.W.In64 x := by
  obtain ⟨A, n, c, rfl⟩ := okWide_slice Tryd.underlying22 hval
  obtain ⟨fuel, hf⟩ := h
  obtain ⟨A', c', is, hcs, h1, h2, h3, h4⟩ := ints_of hf
  simp [Value.cells] at hcs
  obtain ⟨rfl, rfl, rfl⟩ := hcs
  exact ⟨_, _, is, rfl, h1, h2, h3, h4⟩
end
end Go.Proofs.YtobahkjlblgdjaaDoor.O
