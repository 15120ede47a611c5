/- What every card of hashing takes: the package's tables, and the arguments' opening. -/
import Derived.Test.YtecjnojbnklbbaaDoorHLow
import Derived.Test.YtecjnojbnklbbaaDoorCards
import Derived.Test.YtecjnojbnklbbaaDoorTie
import Derived.WalkKit
import Derived.ProofKit
import Derived.OpenShut
import Derived.ShutString
import Derived.Carry
import Derived.SliceStrings
import Derived.Deep.Fields
import Derived.Deep.DeepHandedRow
import Derived.Lib.LaidTab
import Derived.Lib.SmallJoins
import Derived.LaidSub
namespace Go.Proofs.YtecjnojbnklbbaaDoor.H
set_option linter.unusedVariables false
open Go.Joins Go.ChangeShapes Go.WideShapes Go.ChangeAt Go.RowKit Go.Deep
open Go.ChangeMaps (open_string shut_string)

theorem own : ownKnob Tryd.prog.godebug = none := by kernel_rfl
theorem laidOut : laidOutB Tryd.prog = true := by kernel_rfl
theorem gS : Tryd.prog.globalNamed "actorgrid/hashing.shifts" = some 0 := by kernel_rfl
theorem gF : Tryd.prog.globalNamed "actorgrid/hashing.factors" = some 1 := by kernel_rfl
theorem gI : Tryd.prog.globalNamed "actorgrid/hashing.inverses" = some 2 := by kernel_rfl
theorem tS : (Tryd.prog.globals[0]?).map (·.type) = some 37 := by kernel_rfl
theorem tF : (Tryd.prog.globals[1]?).map (·.type) = some 38 := by kernel_rfl
theorem tI : (Tryd.prog.globals[2]?).map (·.type) = some 38 := by kernel_rfl
theorem c3 : Tryd.prog.cellsOf 37 = 3 := by kernel_rfl
theorem c2 : Tryd.prog.cellsOf 38 = 2 := by kernel_rfl
theorem cU : Tryd.prog.cellsOf 36 = 1 := by kernel_rfl
theorem cW : Tryd.prog.cellsOf 22 = 1 := by kernel_rfl
def zS : List Int := [30, 27, 31]
def zF : List Int := [13787848793156543929, 10723151780598845931]
def zI : List Int := [10871156337175269513, 3573116690164977347]

theorem tab_of_laid {W : World} (h : laidMetH Tryd.prog [("actorgrid/hashing.shifts", Rows.laid_actorgrid_hashing_shifts), ("actorgrid/hashing.factors", Rows.laid_actorgrid_hashing_factors), ("actorgrid/hashing.inverses", Rows.laid_actorgrid_hashing_inverses)] W) : Tab W := by
  have h0 : laidMet Tryd.prog [("actorgrid/hashing.shifts", Lib.tabData .u64 zS), ("actorgrid/hashing.factors", Lib.tabData .u64 zF), ("actorgrid/hashing.inverses", Lib.tabData .u64 zI)] W := h
  have h1 : laidMet Tryd.prog [("actorgrid/hashing.factors", Lib.tabData .u64 zF)] W := by
    have := h0.filter fun x => x.1 == "actorgrid/hashing.factors"
    simpa using this
  have h2 : laidMet Tryd.prog [("actorgrid/hashing.inverses", Lib.tabData .u64 zI)] W := by
    have := h0.filter fun x => x.1 == "actorgrid/hashing.inverses"
    simpa using this
  have k0 := Lib.tabIs_of_head gS tS Tryd.underlying37 Tryd.underlying36 cU c3 h0
  have k1 := Lib.tabIs_of_head gF tF Tryd.underlying38 Tryd.underlying22 cW c2 h1
  have k2 := Lib.tabIs_of_head gI tI Tryd.underlying38 Tryd.underlying22 cW c2 h2
  exact ⟨k0.cell gS 0 (by decide), k0.cell gS 1 (by decide), k0.cell gS 2 (by decide), k1.cell gF 0 (by decide), k1.cell gF 1 (by decide), k2.cell gI 0 (by decide), k2.cell gI 1 (by decide)⟩

/-- A row laid anew, where it lies. -/
def laid (vs : Array Value) : Obj → Obj
  | .cells _ t frozen => .cells vs t frozen
  | o => o
/-- A world for the witness: the settled one, the tables holding what their initialisers lay. -/
noncomputable def laidWorld (os : Os) : World :=
  { World.holding Tryd.prog os ⟨#[], #[], []⟩ with
    heap := ((((World.holding Tryd.prog os ⟨#[], #[], []⟩).heap.modify 0 (laid #[.int .u64 30, .int .u64 27, .int .u64 31])).modify 1 (laid #[.int .u64 13787848793156543929, .int .u64 10723151780598845931])).modify 2 (laid #[.int .u64 10871156337175269513, .int .u64 3573116690164977347])) }

theorem word_of {a : Int} (h : (Lit.int .u64 a).wf = true) : ∃ x : BitVec 64, a = (x.toNat : Int) := by
  have := bounds_u64 h
  refine ⟨BitVec.ofNat 64 a.toNat, ?_⟩
  rw [BitVec.toNat_ofNat]
  omega
theorem len_max {s : ByteArray} (h : s.size ≤ maxLen) : s.data.toList.length ≤ 9223372036854775807 := by
  have e : s.data.toList.length = s.size := by rw [Array.length_toList]; rfl
  rw [e]
  unfold maxLen at h
  omega
section
variable {H : Type} {enc : TypeId × Value → H} {W : World} {base : Nat} {d : DataW H} {p : List MemPlace} {v : Value}
theorem open_ref (hval : Value.okWide Tryd.prog W .any base 30 v) (h : DataW.Trod enc Tryd.prog W 0 (fun _ => true) true 30 v d p) :
    ∃ (s t : List UInt8), v = .agg #[.string ⟨s.toArray⟩, .string ⟨t.toArray⟩] ∧ s.length ≤ 9223372036854775807 ∧ t.length ≤ 9223372036854775807 := by
  obtain ⟨cs, rfl, hsz⟩ := okWide_struct Tryd.underlying30 hval
  obtain ⟨l⟩ := cs
  match l, hsz.trans (show Tryd.prog.cellsOf 30 = 2 by kernel_rfl) with
  | [c0, c1], _ =>
    obtain ⟨fuel, hf⟩ := h
    obtain ⟨xs, n, _, hx, _, hlen, hg⟩ := DataW.trod_struct Tryd.underlying30 hf
    have e2 : Tryd.prog.cellsOf 9 = 1 := by kernel_rfl
    match xs, hlen with
    | [y0, y1], _ =>
      have h0 := hg 0 _ rfl
      have h1 := hg 1 _ rfl
      simp [Value.cells, e2] at h0 h1
      obtain ⟨s, q0, _, w0⟩ := DataW.trod_string Tryd.underlying9 h0
      obtain ⟨t, q1, _, w1⟩ := DataW.trod_string Tryd.underlying9 h1
      simp only [List.cons.injEq, and_true] at q0 q1
      subst q0 q1
      exact ⟨s.data.toList, t.data.toList, rfl, len_max w0, len_max w1⟩
end
end Go.Proofs.YtecjnojbnklbbaaDoor.H
