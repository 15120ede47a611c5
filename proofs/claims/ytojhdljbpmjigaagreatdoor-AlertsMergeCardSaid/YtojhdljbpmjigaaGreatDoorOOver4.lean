/- Package overlay: Shared, Neighbours. -/
import Derived.Test.YtojhdljbpmjigaaGreatDoorOV
import Derived.Lib.OwnBridge
namespace Go.Proofs.YtojhdljbpmjigaaGreatDoor.O
set_option linter.unusedVariables false
open Go.RowKit Go.Sort Go.Lib
open Go.Proofs.YtojhdljbpmjigaaGreatDoor.W
open Go.Proofs.YtojhdljbpmjigaaGreatDoor.V

/-! ### neighbours: sorted and made compact -/
theorem compact_asc {d : Array Int} (hs : ∀ i j, i < j → j < d.size → d[i]! ≤ d[j]!) : ∀ m, m ≤ d.size → Asc (compactUpTo d m) ∧ ∀ x, x ∈ compactUpTo d m ↔ ∃ j, j < m ∧ d[j]! = x
  | 0, _ => ⟨by unfold compactUpTo Asc; simp, fun x => by unfold compactUpTo; simp⟩
  | m + 1, hm => by
    obtain ⟨h1, h2⟩ := compact_asc hs m (by omega)
    rw [compactUpTo_succ]
    by_cases hk : m = 0 ∨ d[m]! ≠ d[m - 1]!
    · have hkt : keeps d m = true := by unfold keeps; exact decide_eq_true hk
      rw [hkt, if_pos rfl]
      refine ⟨?_, fun x => ?_⟩
      · unfold Asc at h1 ⊢
        rw [List.pairwise_append]
        refine ⟨h1, by simp, fun a ha b hb => ?_⟩
        obtain rfl : b = d[m]! := by simpa using hb
        obtain ⟨j, hj, rfl⟩ := (h2 a).1 ha
        rcases hk with rfl | hk
        · omega
        · have h3 := hs (m - 1) m (by omega) (by omega)
          rcases Nat.lt_or_ge j (m - 1) with hl | hl
          · have := hs j (m - 1) hl (by omega); omega
          · have : j = m - 1 := by omega
            subst this
            omega
      · rw [List.mem_append, h2]
        constructor
        · rintro (⟨j, hj, e⟩ | hx)
          · exact ⟨j, by omega, e⟩
          · exact ⟨m, by omega, (List.mem_singleton.1 hx).symm⟩
        · rintro ⟨j, hj, e⟩
          by_cases hjm : j = m
          · subst hjm; right; simp [e]
          · left; exact ⟨j, by omega, e⟩
    · have hkf : keeps d m = false := by unfold keeps; exact decide_eq_false hk
      have h0 : m ≠ 0 := fun e => hk (.inl e)
      have he : d[m]! = d[m - 1]! := Classical.byContradiction fun e => hk (.inr e)
      rw [hkf]
      simp only [Bool.false_eq_true, if_false, List.append_nil]
      refine ⟨h1, fun x => ?_⟩
      rw [h2]
      constructor
      · rintro ⟨j, hj, e⟩; exact ⟨j, by omega, e⟩
      · rintro ⟨j, hj, e⟩
        by_cases hjm : j = m
        · subst hjm; exact ⟨j - 1, by omega, by rw [← he]; exact e⟩
        · exact ⟨j, by omega, e⟩
def srt (l : List Int) : List Int := l.mergeSort fun x y => decide (x ≤ y)
theorem srt_facts (l : List Int) : Asc (Lib.compact (srt l)) ∧ ∀ x, x ∈ Lib.compact (srt l) ↔ x ∈ l := by
  have hp : (srt l).Pairwise (fun x y => decide (x ≤ y) = true) := List.pairwise_mergeSort (fun a b c h1 h2 => by simp at *; omega) (fun a b => by simp; omega) l
  have hs : ∀ i j, i < j → j < (srt l).toArray.size → (srt l).toArray[i]! ≤ (srt l).toArray[j]! := fun i j hij hj => by
    have hj' : j < (srt l).length := by simpa using hj
    have := (List.pairwise_iff_getElem.1 hp) i j (by omega) hj' hij
    rw [getElem!_pos (srt l).toArray i (by simp; omega), getElem!_pos (srt l).toArray j hj]
    simpa using this
  obtain ⟨h1, h2⟩ := compact_asc hs (srt l).length (by simp)
  refine ⟨h1, fun x => ?_⟩
  unfold Lib.compact
  rw [h2]
  have hm : x ∈ srt l ↔ x ∈ l := List.mem_mergeSort
  rw [← hm, List.mem_iff_getElem]
  constructor
  · rintro ⟨j, hj, e⟩
    refine ⟨j, hj, ?_⟩
    rw [getElem!_pos (srt l).toArray j (by simpa using hj)] at e
    simpa using e
  · rintro ⟨j, hj, e⟩
    refine ⟨j, hj, ?_⟩
    rw [getElem!_pos (srt l).toArray j (by simpa using hj)]
    simpa using e
/-- Nobody observes itself. -/
theorem self_not (l : List Int) (id : Int) : id ∉ obsL K l id ++ subL K l id := by
  intro hm
  rw [List.mem_append] at hm
  rcases hm with hm | hm
  · unfold obsL at hm
    split at hm
    · rename_i hc
      simp only [Bool.and_eq_true, Bool.not_eq_true', decide_eq_false_iff_not] at hc
      obtain ⟨⟨hv, hi⟩, hne⟩ := hc
      obtain ⟨r, _, e⟩ := List.mem_map.1 hm
      have hml : id ∈ l := by rw [← e]; exact ahead_mem inj_K hv r id
      have h2 : 2 ≤ l.length := by
        have h1 := (validM_iff.1 hv).1
        rcases Nat.lt_or_ge l.length 2 with h3 | h3
        · exfalso
          obtain ⟨x0, hx0⟩ : ∃ x, l[0]? = some x := ⟨_, List.getElem?_eq_getElem (by omega)⟩
          have hl := one_of (show l.length = 1 by omega) hx0
          rw [hl] at hml hne
          have : id = x0 := by simpa using hml
          subst this
          exact hne rfl
        · exact h3
      exact (ahead_facts inj_K hv h2 r hml).2.1 e
    · simp at hm
  · unfold subL at hm
    split at hm
    · rename_i hc
      simp only [Bool.and_eq_true, decide_eq_true_eq] at hc
      obtain ⟨⟨hv, h2⟩, hh⟩ := hc
      obtain ⟨r, _, e⟩ := List.mem_map.1 hm
      exact (next_facts inj_K hv h2 r (hasB_iff.1 hh)).2.1 e
    · simp at hm
theorem nb_compact (l : List Int) (id : Int) : Lib.compact (srt (obsL K l id ++ subL K l id)) = nbL K l id := by
  obtain ⟨h1, h2⟩ := srt_facts (obsL K l id ++ subL K l id)
  refine Asc.ext h1 asc_nbL fun x => ?_
  rw [h2, mem_nbL, List.mem_append]
  constructor
  · intro h
    exact ⟨fun e => self_not l id (by rw [e] at h; exact List.mem_append.2 h), h⟩
  · exact fun h => h.2
theorem len_srt (l : List Int) : (srt l).length = l.length := List.length_mergeSort l
theorem compact_len_le (l : List Int) : (Lib.compact l).length ≤ l.length := by
  unfold Lib.compact compactUpTo
  rw [List.length_map]
  exact Nat.le_trans (List.length_filter_le _ _) (by simp)
theorem sortI_own {base : Nat} {l : List Int} {A : Option Addr} {n cap : Nat} {w : World} (hn : l.length = n) (hl : l.length ≤ 1000000) (hown : w.ownsRow base 3 1 (.slice A n cap) n (l.map intV)) :
    Calls Tryz.prog 20 #[.slice A n cap] w fun e w' => e = .returned (.tuple #[]) ∧ w'.ownsRow base 3 1 (.slice A n cap) n ((srt l).map intV) ∧ Below base w w' := by
  rcases hown.2 with ⟨h, h0⟩ | ⟨g', cap', cur, hv, hbase, hgb, r1, r2, r3, r4⟩
  · cases h
    have hl0 : l = [] := List.eq_nil_of_length_eq_zero (by omega)
    subst hl0
    exact (Tryz.slices_Sort_int_none none 0 w).mono fun _ _ ⟨he, hw⟩ => ⟨he, by rw [hw, show srt [] = [] from by simp [srt]]; exact hown, by rw [hw]; exact Below.refl _ _⟩
  · subst hn
    cases hv
    have hH : Holds intV w g' 0 l.toArray := holds_of_blockI hgb (by have := r4; rw [Nat.mul_one] at this; exact this)
    have hgl : g' < w.heap.size := (Array.getElem?_eq_some_iff.1 hgb).1
    refine (Tryz.slices_Sort_int g' 0 cap l w hH hgl (by omega)).mono ?_
    rintro e w' ⟨rfl, n, os, rfl⟩
    exact ⟨rfl, ownsRow_sortedI (ss := l) (len_srt l) hbase hgb r1 r2 r3, below_sort hbase hgl⟩
theorem compactI_own {base : Nat} {l : List Int} {A : Option Addr} {n cap : Nat} {w : World} (hn : l.length = n) (hl : l.length ≤ 1000000) (hown : w.ownsRow base 3 1 (.slice A n cap) n (l.map intV)) (hbase : base ≤ w.heap.size) :
    Calls Tryz.prog 21 #[.slice A n cap] w fun e w' => ∃ v, e = .returned v ∧ w'.ownsRow base 3 1 v (Lib.compact l).length ((Lib.compact l).map intV) ∧ Below base w w' := by
  rcases hown.2 with ⟨h, h0⟩ | ⟨g', cap', cur, hv, hb, hgb, r1, r2, r3, r4⟩
  · cases h
    have hl0 : l = [] := List.eq_nil_of_length_eq_zero (by omega)
    subst hl0
    exact (Tryz.slices_Compact_int_empty none 0 w).mono fun _ _ ⟨he, hw⟩ => ⟨_, he, World.ownsRow_nil _ _ _ _, by rw [hw]; exact Below.refl _ _⟩
  · subst hn
    cases hv
    have hH : Holds intV w g' 0 l.toArray := holds_of_blockI hgb (by have := r4; rw [Nat.mul_one] at this; exact this)
    refine (Tryz.slices_Compact_int g' 0 cap l w hH (by omega) r1).mono ?_
    rintro e w' ⟨rfl, q, rfl⟩
    have hc := compact_len_le l
    refine ⟨_, rfl, ?_, below_putRow (Below.refl _ _) hb⟩
    have := ownsRow_putRow (q := q) (k := (Lib.compact l).length) (ys := Lib.compact l ++ List.replicate (l.length - (Lib.compact l).length) 0) hown (by simp; omega) hc
    rw [List.take_left] at this
    exact this
end Go.Proofs.YtojhdljbpmjigaaGreatDoor.O
