/- Layer 8: the mathematics of VoteOnce: at most one cut wins, and it stays; what cannot be decided stays so. -/
import Derived.Test.YtmnagkjdnmnbkaaFTog
namespace Go.Proofs.Ytmnagkjdnmnbkaa.Fv
set_option linter.unusedVariables false
set_option linter.unusedSimpArgs false
open Go.Proofs.Ytmnagkjdnmnbkaa.V

theorem sub_lenI : ∀ {a b : List Int}, a.Nodup → (∀ x ∈ a, x ∈ b) → a.length ≤ b.length
  | [], b, _, _ => Nat.zero_le _
  | x :: a, b, hn, hs => by
    rw [List.nodup_cons] at hn
    have hx := hs x (by simp)
    have := sub_lenI (a := a) (b := b.erase x) hn.2 fun y hy => (List.mem_erase_of_ne (fun (e : y = x) => hn.1 (by rw [← e]; exact hy))).2 (hs y (by simp [hy]))
    rw [List.length_erase_of_mem hx] at this
    have hp := List.length_pos_of_mem hx
    simp
    omega
theorem box_len {num : Int} {l : List Int} {s : List Bal} (h : okB num l s = true) : s.length ≤ l.length := by
  obtain ⟨_, h1, h2⟩ := okB_iff.1 h
  have h3 : (s.map (·.mem)).Nodup := by
    rw [List.nodup_iff_pairwise_ne, List.pairwise_map]
    exact h2.imp fun hl e => by omega
  have := sub_lenI (b := l) h3 fun x hx => by
    obtain ⟨b, hb, rfl⟩ := List.mem_map.1 hx
    exact (okBal_iff.1 (h1 b hb)).1
  simpa using this
theorem votes_two {a b : List Int} (hab : a ≠ b) : ∀ {s : List Bal}, votesF s a + votesF s b ≤ s.length
  | [] => by simp [votesF]
  | x :: t => by
    have := votes_two hab (s := t)
    unfold votesF at *
    rw [List.countP_cons, List.countP_cons, List.length_cons]
    by_cases h1 : x.cut = a
    · have h2 : x.cut ≠ b := fun e => hab (h1.symm.trans e)
      rw [decide_eq_true h1, decide_eq_false h2]
      simp
      omega
    · by_cases h2 : x.cut = b
      · rw [decide_eq_false h1, decide_eq_true h2]
        simp
        omega
      · rw [decide_eq_false h1, decide_eq_false h2]
        simp
        omega
section
variable {num : Int} {l : List Int} {s : List Bal} {b : Bal}
theorem fast_of (h : okB num l s = true) : 1 ≤ fastQ (l.length : Int) ∧ (l.length : Int) < 2 * fastQ (l.length : Int) ∧ fastQ (l.length : Int) ≤ l.length := by
  have hM := validM_iff.1 (validV_iff.1 (okB_iff.1 h).1).2.2
  obtain ⟨h1, h2, h3⟩ := fast_bd hM.1 hM.2.1
  refine ⟨h3, ?_, h2⟩
  rw [h1]
  have := hM.1
  omega
theorem win_one (h : okB num l s = true) {a c : List Int} (ha : fastQ (l.length : Int) ≤ (votesF s a : Int)) (hc : fastQ (l.length : Int) ≤ (votesF s c : Int)) : a = c := by
  obtain ⟨h1, h2, h3⟩ := fast_of h
  by_cases e : a = c
  · exact e
  · have := votes_two e (s := s)
    have := box_len h
    omega
theorem winI_some {box : List Bal} : ∀ {t : List Bal} {x : List Int}, winI l box t = some x → fastQ (l.length : Int) ≤ (votesF box x : Int) ∧ ∃ y ∈ t, y.cut = x
  | [], x, h => by cases h
  | y :: t, x, h => by
    unfold winI at h
    split at h
    · rename_i hq
      cases h
      exact ⟨hq, y, by simp, rfl⟩
    · obtain ⟨h1, z, hz, e⟩ := winI_some h
      exact ⟨h1, z, by simp [hz], e⟩
theorem winI_none {box : List Bal} : ∀ {t : List Bal}, winI l box t = none → ∀ y ∈ t, ¬ fastQ (l.length : Int) ≤ (votesF box y.cut : Int)
  | [], _, y, hy => by cases hy
  | z :: t, h, y, hy => by
    unfold winI at h
    split at h
    · cases h
    · rename_i hq
      rcases List.mem_cons.1 hy with rfl | hy
      · exact hq
      · exact winI_none h y hy
theorem win_iff (h : okB num l s = true) {x : List Int} : winF num l s = some x ↔ fastQ (l.length : Int) ≤ (votesF s x : Int) := by
  unfold winF
  rw [h, if_pos rfl]
  constructor
  · intro e; exact (winI_some e).1
  · intro hx
    rcases hw : winI l s s with _ | y
    · exfalso
      have h1 := (fast_of h).1
      have h2 : 0 < votesF s x := by omega
      unfold votesF at h2
      obtain ⟨z, hz, e⟩ := List.countP_pos_iff.1 h2
      have e2 : z.cut = x := by simpa using e
      exact winI_none hw z hz (by rw [e2]; exact hx)
    · rw [win_one h (winI_some hw).1 hx]
theorem win_cut {x : List Int} (h : winF num l s = some x) : ∃ y ∈ s, y.cut = x := by
  unfold winF at h
  split at h
  · exact (winI_some h).2
  · cases h
theorem win_stays (h : okB num l s = true) (h' : okB num l (insF b s) = true) {x : List Int} (hx : winF num l s = some x) : winF num l (insF b s) = some x := by
  rw [win_iff h'] 
  rw [win_iff h] at hx
  rw [votes_ins]
  split <;> omega
theorem mostI_le {box : List Bal} {q : Nat} : ∀ {t : List Bal} {m : Nat}, m ≤ q → (∀ y ∈ t, votesF box y.cut ≤ q) → mostI box t m ≤ q
  | [], m, h, _ => h
  | y :: t, m, h, ht => by
    unfold mostI
    exact mostI_le (Nat.max_le.2 ⟨h, ht y (by simp)⟩) fun z hz => ht z (by simp [hz])
theorem mostI_ge {box : List Bal} : ∀ {t : List Bal} {m : Nat}, m ≤ mostI box t m ∧ ∀ y ∈ t, votesF box y.cut ≤ mostI box t m
  | [], m => ⟨Nat.le_refl _, fun y hy => by cases hy⟩
  | y :: t, m => by
    obtain ⟨h1, h2⟩ := mostI_ge (box := box) (t := t) (m := max m (votesF box y.cut))
    unfold mostI
    refine ⟨by omega, fun z hz => ?_⟩
    rcases List.mem_cons.1 hz with rfl | hz
    · omega
    · exact h2 z hz
theorem und_win (h : undF num l s = true) : winF num l s = none := by
  unfold undF at h
  rw [Bool.and_eq_true, decide_eq_true_iff] at h
  rcases hw : winF num l s with _ | x
  · rfl
  · exfalso
    have h1 := (win_iff h.1).1 hw
    obtain ⟨y, hy, e⟩ := win_cut hw
    have h2 := (mostI_ge (box := s) (t := s) (m := 0)).2 y hy
    rw [e] at h2
    have := box_len h.1
    omega
theorem und_stays (h' : okB num l (insF b s) = true) (h : undF num l s = true) : undF num l (insF b s) = true := by
  unfold undF at h ⊢
  rw [Bool.and_eq_true, decide_eq_true_iff] at h
  rw [h', Bool.true_and, decide_eq_true_iff, len_insF]
  have h2 : mostI (insF b s) (insF b s) 0 ≤ mostI s s 0 + 1 := by
    refine mostI_le (Nat.zero_le _) fun y hy => ?_
    rw [votes_ins]
    rcases mem_insF.1 hy with rfl | hy
    · by_cases hz : 0 < votesF s y.cut
      · unfold votesF at hz
        obtain ⟨z, hz1, e⟩ := List.countP_pos_iff.1 hz
        have e2 : z.cut = y.cut := by simpa using e
        have := (mostI_ge (box := s) (t := s) (m := 0)).2 z hz1
        rw [e2] at this
        split <;> omega
      · split <;> omega
    · have := (mostI_ge (box := s) (t := s) (m := 0)).2 y hy
      split <;> omega
  have := h.2
  omega
theorem und_nil (h : validV num l = true) : undF num l [] = false := by
  unfold undF
  rw [Bool.and_eq_false_iff]
  refine .inr ?_
  rw [decide_eq_false_iff_not]
  have := (fast_of (okB_nil (num := num) (l := l) h)).2.2
  show ¬ ((mostI [] [] 0 : Nat) : Int) + (l.length : Int) - (([] : List Bal).length : Int) < fastQ (l.length : Int)
  simp [mostI]
  omega
theorem win_nil : winF num l [] = none := by
  unfold winF
  split <;> rfl
/-- What a ballot that is cast leads to. -/
theorem cast_cases (h : okB num l s = true) (hm : b.mem ∈ l) (hc : applF num l b.cut = true) : (castE num l s b = 7 ∧ hasM s b.mem = true) ∨ (castE num l s b = 0 ∧ castB num l s b = insF b s ∧ okB num l (insF b s) = true) := by
  have hb : okBal num l b = true := okBal_iff.2 ⟨hm, hc⟩
  cases hh : hasM s b.mem
  · refine .inr ?_
    have e : castE num l s b = 0 := by
      unfold castE
      rw [h, hc, if_neg (by simp), hasB_iff.2 hm, if_neg (by simp), hh]; rfl
    exact ⟨e, castB_ok e, okB_ins h hb hh⟩
  · refine .inl ⟨?_, rfl⟩
    unfold castE
    rw [h, hc, if_neg (by simp), hasB_iff.2 hm, if_neg (by simp), hh]; rfl
end
end Go.Proofs.Ytmnagkjdnmnbkaa.Fv
