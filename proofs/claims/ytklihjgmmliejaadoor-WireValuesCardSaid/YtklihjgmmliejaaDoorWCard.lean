/- What every card of this program takes: the package's table, and the arguments' opening. -/
import Derived.Test.YtklihjgmmliejaaDoorWSmall
import Derived.Test.YtklihjgmmliejaaDoorCards
import Derived.Test.YtklihjgmmliejaaDoorTie
import Derived.WalkKit
import Derived.ProofKit
import Derived.OpenShut
import Derived.ShutString
import Derived.Carry
import Derived.SliceStrings
import Derived.Deep.Fields
import Derived.Deep.DeepHandedRow
import Derived.Lib.LaidTab
import Derived.Lib.SmallJoins
namespace Go.Proofs.YtklihjgmmliejaaDoor.W
set_option linter.unusedVariables false
open Go.Joins Go.ChangeShapes Go.WideShapes Go.ChangeAt Go.RowKit Go.Deep
open Go.ChangeMaps (open_string shut_string)
open Go.Lib (byteCells byteCells_length)

theorem own : ownKnob Tryd.prog.godebug = none := by kernel_rfl
theorem laidOut : laidOutB Tryd.prog = true := by kernel_rfl
theorem gTab : Tryd.prog.globalNamed "actorgrid/wire.halfSums" = some 0 := by kernel_rfl
theorem gTabType : (Tryd.prog.globals[0]?).map (·.type) = some 87 := by kernel_rfl
theorem cellsTab : Tryd.prog.cellsOf 87 = 16 := by kernel_rfl
theorem cellsU32 : Tryd.prog.cellsOf 67 = 1 := by kernel_rfl
def tabZ : List Int := tblN.map fun (n : Nat) => (n : Int)

theorem cell_lt {w : World} {p : Addr} {v : Value} (h : w.cell? p = some v) : p.block < w.heap.size := by
  by_cases hc : p.block < w.heap.size
  · exact hc
  · have : w.heap[p.block]? = none := by simp; omega
    simp [World.cell?, this] at h

theorem tab_of_laid {W : World} (h : laidMetH Tryd.prog [("actorgrid/wire.halfSums", Rows.laid_actorgrid_wire_halfSums)] W) : Tab W := by
  have hT : Lib.TabIs Tryd.prog W "actorgrid/wire.halfSums" .u32 tabZ :=
    Lib.tabIs_of_head (rest := []) gTab gTabType Tryd.underlying87 Tryd.underlying67 cellsU32 cellsTab h
  have hc : ∀ j, j < 16 → W.cell? ⟨0, j, none⟩ = some (.int .u32 ((tblN.getD j 0 : Nat) : Int)) := fun j hj => by
    have := hT.cell gTab j hj
    rw [this]
    have e : tabZ.getD j 0 = ((tblN.getD j 0 : Nat) : Int) := by
      have : ∀ j, j < 16 → tabZ.getD j 0 = ((tblN.getD j 0 : Nat) : Int) := by decide
      exact this j hj
    rw [e]
  exact ⟨cell_lt (hc 0 (by omega)), hc⟩

/-- A world for the witness: the settled one, the table holding what its initialiser lays. -/
noncomputable def laidWorld (os : Os) : World :=
  { World.holding Tryd.prog os ⟨#[], #[], []⟩ with heap := (World.holding Tryd.prog os ⟨#[], #[], []⟩).heap.modify 0 fun
      | .cells _ t frozen => .cells #[.int .u32 0, .int .u32 498536548, .int .u32 997073096, .int .u32 651767980, .int .u32 1994146192, .int .u32 1802195444, .int .u32 1303535960, .int .u32 1342533948, .int .u32 3988292384, .int .u32 4027552580, .int .u32 3604390888, .int .u32 3412177804, .int .u32 2607071920, .int .u32 2262029012, .int .u32 2685067896, .int .u32 3183342108] t frozen
      | o => o }

section
variable {H : Type} {enc : TypeId × Value → H} {W : World} {base : Nat} {d : DataW H} {p : List MemPlace} {v : Value}

theorem bytes_of {W : World} {a : Addr} {len cap : Nat} {zs : List Int} (hl : len ≤ cap) (hz : zs.length = cap) (hcell : ∀ i, i < zs.length → W.cell? (a.add i) = some (.int .u8 (zs.getD i 0))) (hw : ∀ n ∈ zs, (Lit.int .u8 n).wf = true) :
    ∃ bs : List UInt8, Reads W W.heap.size 1 (some a) len (byteCells bs) := by
  refine ⟨(zs.take len).map fun z => z.toNat.toUInt8, ?_, fun hn => ⟨a, rfl, ?_, fun j u hu => ?_⟩⟩
  · rw [byteCells_length, List.length_map, List.length_take]; omega
  · have := cell_lt (hcell 0 (by omega))
    rwa [block_of_add] at this
  · have hjl : j < (byteCells ((zs.take len).map fun z => z.toNat.toUInt8)).length := (List.getElem?_eq_some_iff.1 hu).1
    rw [byteCells_length, List.length_map, List.length_take] at hjl
    have hj : j < zs.length := by omega
    rw [hcell j hj, ← hu, byteCells_get (by rw [List.length_map, List.length_take]; omega)]
    have hb := bounds_u8 (hw (zs.getD j 0) (by simp [hj]))
    simp [hj] at hb ⊢
    omega

theorem open_bytes (hval : Value.okWide Tryd.prog W .any base 22 v) (h : DataW.Trod enc Tryd.prog W 0 (fun _ => true) true 22 v d p) :
    ∃ (A : Option Addr) (n c : Nat) (bs : List UInt8), v = .slice A n c ∧ n ≤ c ∧ c ≤ maxLen ∧ Reads W W.heap.size 1 A n (byteCells bs) := by
  obtain ⟨A, n, c, rfl⟩ := okWide_slice Tryd.underlying22 hval
  obtain ⟨fuel, hf⟩ := h
  rcases open_ints Tryd.underlying22 Tryd.underlying5 (by kernel_rfl) hf with ⟨hcs, _⟩ | ⟨x, l, c', zs, hcs, _, hl, hm, hz, _, hcell, hw⟩
  · simp [Value.cells] at hcs
    obtain ⟨rfl, rfl, rfl⟩ := hcs
    exact ⟨none, 0, 0, [], rfl, Nat.le_refl _, Nat.zero_le _, Reads.nothing⟩
  · simp [Value.cells] at hcs
    obtain ⟨rfl, rfl, rfl⟩ := hcs
    obtain ⟨bs, hr⟩ := bytes_of hl (by simpa using hz) hcell hw
    exact ⟨_, _, _, bs, rfl, hl, hm, hr⟩

theorem ints_of {W : World} {n : Nat} {cs : List Value} {x : DataW H × List MemPlace} (h : DataW.trod enc Tryd.prog W 0 (fun _ => true) true n 37 cs = some x) :
    ∃ (A : Option Addr) (c : Nat) (is : List Int), cs = [.slice A is.length c] ∧ is.length ≤ c ∧ c ≤ maxLen ∧ Reads W W.heap.size 1 A is.length (is.map intV) ∧ ∀ x ∈ is, In64 x := by
  rcases open_ints Tryd.underlying37 Tryd.underlying3 (by kernel_rfl) h with ⟨hcs, _⟩ | ⟨x, l, c', zs, hcs, _, hl, hm, hz, _, hcell, hw⟩
  · exact ⟨none, 0, [], hcs, Nat.le_refl _, Nat.zero_le _, Reads.none_, fun x hx => by simp at hx⟩
  · have hz' : zs.length = c' := by simpa using hz
    have hlen : (zs.take l).length = l := by rw [List.length_take]; omega
    refine ⟨some x, c', zs.take l, by rw [hlen]; exact hcs, by rw [hlen]; exact hl, hm, ⟨by simp, fun hn => ⟨x, rfl, ?_, fun j u hu => ?_⟩⟩, fun y hy => ?_⟩
    · have := cell_lt (hcell 0 (by omega))
      rwa [block_of_add] at this
    · have hjl : j < ((zs.take l).map intV).length := (List.getElem?_eq_some_iff.1 hu).1
      rw [List.length_map, hlen] at hjl
      have hj : j < zs.length := by omega
      rw [hcell j hj, ← hu]
      simp [hj, hjl, intV]
    · have := bounds_i64 (hw y (List.mem_of_mem_take hy))
      exact this

theorem strs_of {W : World} {n : Nat} {cs : List Value} {x : DataW H × List MemPlace} (h : DataW.trod enc Tryd.prog W 0 (fun _ => true) true n 38 cs = some x) :
    ∃ (A : Option Addr) (c : Nat) (ss : List (List UInt8)), cs = [.slice A ss.length c] ∧ ss.length ≤ c ∧ c ≤ maxLen ∧ Reads W W.heap.size 1 A ss.length (ss.map strV) ∧ ∀ x ∈ ss, x.length ≤ maxLen := by
  rcases open_strings Tryd.underlying38 Tryd.underlying9 (by kernel_rfl) h with ⟨hcs, _⟩ | ⟨x, l, c', zs, hcs, _, hl, hm, hz, _, hcell, hw⟩
  · exact ⟨none, 0, [], hcs, Nat.le_refl _, Nat.zero_le _, Reads.none_, fun x hx => by simp at hx⟩
  · have hz' : zs.length = c' := by simpa using hz
    have hlen : ((zs.take l).map fun s => s.data.toList).length = l := by rw [List.length_map, List.length_take]; omega
    refine ⟨some x, c', (zs.take l).map (fun s => s.data.toList), by rw [hlen]; exact hcs, by rw [hlen]; exact hl, hm, ⟨by simp, fun hn => ⟨x, rfl, ?_, fun j u hu => ?_⟩⟩, fun y hy => ?_⟩
    · have := cell_lt (hcell 0 (by omega))
      rwa [block_of_add] at this
    · have hjl : j < (((zs.take l).map fun s => s.data.toList).map strV).length := (List.getElem?_eq_some_iff.1 hu).1
      rw [List.length_map, hlen] at hjl
      have hj : j < zs.length := by omega
      rw [hcell j hj, ← hu]
      simp [hj, hjl, strV]
    · obtain ⟨s, hs, rfl⟩ := List.mem_map.1 hy
      have := hw s (List.mem_of_mem_take hs)
      simpa using this

theorem open_gv (hval : Value.okWide Tryd.prog W .any base 55 v) (h : DataW.Trod enc Tryd.prog W 0 (fun _ => true) true 55 v d p) :
    ∃ (g : GV) (I L : Option Addr) (ci cl : Nat), v = gvV g I L ci cl ∧ GVraw W W.heap.size g I L ci cl := by
  obtain ⟨cs, rfl, hsz⟩ := okWide_struct Tryd.underlying55 hval
  obtain ⟨l⟩ := cs
  match l, hsz.trans (show Tryd.prog.cellsOf 55 = 5 by kernel_rfl) with
  | [c0, c1, c2, c3, c4], _ =>
    obtain ⟨fuel, hf⟩ := h
    obtain ⟨xs, n, _, hx, _, hlen, hg⟩ := DataW.trod_struct Tryd.underlying55 hf
    have e1 : Tryd.prog.cellsOf 3 = 1 := by kernel_rfl
    have e2 : Tryd.prog.cellsOf 9 = 1 := by kernel_rfl
    have e3 : Tryd.prog.cellsOf 37 = 1 := by kernel_rfl
    have e4 : Tryd.prog.cellsOf 38 = 1 := by kernel_rfl
    match xs, hlen with
    | [y0, y1, y2, y3, y4], _ =>
      have h0 := hg 0 _ rfl
      have h1 := hg 1 _ rfl
      have h2 := hg 2 _ rfl
      have h3 := hg 3 _ rfl
      have h4 := hg 4 _ rfl
      simp [Value.cells, e1, e2, e3, e4] at h0 h1 h2 h3 h4
      obtain ⟨k, q0, _, w0⟩ := DataW.trod_int Tryd.underlying3 h0
      obtain ⟨m, q1, _, w1⟩ := DataW.trod_int Tryd.underlying3 h1
      obtain ⟨s, q2, _, w2⟩ := DataW.trod_string Tryd.underlying9 h2
      obtain ⟨I, ci, is, q3, hci, mi, ri, wi⟩ := ints_of h3
      obtain ⟨L, cl, ls, q4, hcl, ml, rl, wl⟩ := strs_of h4
      simp only [List.cons.injEq, and_true] at q0 q1 q2 q3 q4
      subst q0 q1 q2 q3 q4
      unfold maxLen at mi ml w2 wl
      refine ⟨⟨k, m, s.data.toList, is, ls⟩, I, L, ci, cl, rfl, ?_⟩
      exact { ri := ri, rl := rl, hci := hci, hcl := hcl, k64 := bounds_i64 w0, n64 := bounds_i64 w1, i64 := wi, s40 := by simpa using w2, i40 := by dsimp only; omega, l40 := by dsimp only; omega, e40 := fun y hy => wl y hy }
end
end Go.Proofs.YtklihjgmmliejaaDoor.W
