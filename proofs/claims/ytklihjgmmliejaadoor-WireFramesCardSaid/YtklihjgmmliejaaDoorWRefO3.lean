/- The reference's Open, whatever comes in. -/
import Derived.Test.YtklihjgmmliejaaDoorWRefO2
namespace Go.Proofs.YtklihjgmmliejaaDoor.W
set_option linter.unusedVariables false
open Go.RowKit
open Go.Lib (byteCells byteCells_length byteCells_append byteCells_snoc)

/-- The reference's length: the error of ReadUint, else the limit. -/
theorem rdLen_of {b : List UInt8} {v m e : Nat} (h : rdU b = (v, m, e)) : rdLen b 16777216 = if e ≠ 0 then (0, 0, e) else if 16777216 < v then (0, 0, 5) else (v, m, e) := by
  unfold rdLen
  rw [h, if_neg (by omega)]
  dsimp only
  by_cases he : e ≠ 0
  · rw [if_pos he, if_pos he]
  · rw [if_neg he, if_neg he]
    by_cases hv : 16777216 < v
    · rw [if_pos (by omega), if_pos hv]
    · rw [if_neg (by omega), if_neg hv]
/-- WHAT the reference's Open GIVES. -/
theorem refOpen_any (A : Option Addr) (c : Nat) (bs : List UInt8) (w : World) (hr : Reads w w.heap.size 1 A bs.length (byteCells bs)) (hcap : bs.length ≤ c) (hl : bs.length ≤ 1099511627776) :
    Calls Tryd.prog 50 #[.slice A bs.length c] w (OpenPost w (rdOpen bs).1 (rdOpen bs).2.1 (rdOpen bs).2.2.1 (rdOpen bs).2.2.2) := by
  unfold rdOpen
  by_cases h3 : bs.length < 3
  · rw [if_pos h3]
    exact refOpen_short A c bs.length w h3
  rw [if_neg h3]
  by_cases hh : bs.getD 0 0 ≠ 65 ∨ bs.getD 1 0 ≠ 71 ∨ bs.getD 2 0 = 0
  · rw [if_pos hh]
    exact refOpen_head A c bs w hr (by omega) hl hh
  rw [if_neg hh]
  obtain ⟨ad, z0, rfl, _, c0, _, e0, b0⟩ := hr.byte (k := 0) (by omega)
  obtain ⟨ad', z1, hA, _, c1, _, e1, b1⟩ := hr.byte (k := 1) (by omega)
  obtain rfl := Option.some.inj hA
  obtain ⟨ad', z2, hA, _, c2, _, e2, b2⟩ := hr.byte (k := 2) (by omega)
  obtain rfl := Option.some.inj hA
  have g2 : bs.getD 2 0 = z2 := by simp [List.getD, e2]
  have hz : z0 = 65 ∧ z1 = 71 ∧ z2 ≠ 0 := by
    simp only [List.getD, e0, e1, e2, Option.getD_some] at hh
    refine ⟨?_, ?_, ?_⟩
    · exact Classical.byContradiction fun h => hh (.inl h)
    · exact Classical.byContradiction fun h => hh (.inr (.inl h))
    · exact fun h => hh (.inr (.inr h))
  obtain ⟨rfl, rfl, hz2⟩ := hz
  have c0' : w.cell? ad = some (.int .u8 65) := by simpa [Addr.add] using c0
  have c1' : w.cell? ⟨ad.block, ad.off + 1, none⟩ = some (.int .u8 71) := by simpa [Addr.add] using c1
  have c2' : w.cell? ⟨ad.block, ad.off + 2, none⟩ = some (.int .u8 (z2.toNat : Int)) := by simpa [Addr.add] using c2
  have hz3 : z2.toNat ≠ 0 := fun h => hz2 (UInt8.toNat_inj.1 h)
  have k2 : ((z2.toNat : Int) == 0) = false := beqF (by omega)
  rw [g2]
  obtain ⟨⟨v, m, e⟩, hx⟩ : ∃ r, rdU (bs.drop 3) = r := ⟨_, rfl⟩
  have hL := rdLen_of hx
  by_cases he : e = 0
  · subst he
    obtain ⟨_, hm1, hm2, hm3⟩ := rdU_used hx
    rw [List.length_drop] at hm3
    rw [if_neg (by simp)] at hL
    by_cases hv : 16777216 < v
    · rw [if_pos hv] at hL
      rw [hL]
      exact refOpen_limit ad c bs.length z2 bs w hr rfl hcap hl (by omega) c0' c1' c2' k2 v m hx hv
    rw [if_neg hv] at hL
    rw [hL]
    dsimp only
    rw [if_neg (by simp)]
    by_cases hsh : bs.length - (3 + m) < v + 4
    · rw [if_pos hsh]
      exact refOpen_trunc ad c bs.length z2 bs w hr rfl hcap hl (by omega) c0' c1' c2' k2 v m hx (by omega) (by omega) hsh
    · rw [if_neg hsh]
      by_cases hs : (bs.drop (3 + m + v)).take 4 = low4 (crc (bs.take (3 + m + v)))
      · rw [if_neg (by simpa using hs)]
        exact refOpen_ok ad c bs.length z2 bs w hr rfl hcap hl (by omega) c0' c1' c2' k2 v m hx (by omega) (by omega) hsh hs.symm
      · rw [if_pos hs]
        exact refOpen_sum ad c bs.length z2 bs w hr rfl hcap hl (by omega) c0' c1' c2' k2 v m hx (by omega) (by omega) hsh (fun h => hs h.symm)
  · rw [if_pos he] at hL
    rw [hL]
    dsimp only
    rw [if_pos he]
    exact refOpen_err ad c bs.length z2 bs w hr rfl hcap hl (by omega) c0' c1' c2' k2 v m e hx he
end Go.Proofs.YtklihjgmmliejaaDoor.W
