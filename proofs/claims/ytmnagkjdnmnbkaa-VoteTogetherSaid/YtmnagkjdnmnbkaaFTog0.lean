/- Layer 8: the mathematics of VoteTogether. -/
import Derived.Test.YtmnagkjdnmnbkaaFCuts
namespace Go.Proofs.Ytmnagkjdnmnbkaa.Fv
set_option linter.unusedVariables false
set_option linter.unusedSimpArgs false
open Go.Proofs.Ytmnagkjdnmnbkaa.V

def memT (l : List Int) (wh j : Nat) : Int := l.getD ((j + wh) % l.length) 0
def boxT (l : List Int) (wh : Nat) (x : List Int) : Nat → List Bal
  | 0 => []
  | k + 1 => insF ⟨memT l wh k, x⟩ (boxT l wh x k)
theorem lenT {l : List Int} {wh : Nat} {x : List Int} : ∀ k, (boxT l wh x k).length = k
  | 0 => rfl
  | k + 1 => by show (insF _ _).length = _; rw [len_insF, lenT k]
theorem memT_in {l : List Int} {wh j : Nat} (hl : 0 < l.length) : memT l wh j ∈ l := by
  have h : (j + wh) % l.length < l.length := Nat.mod_lt _ hl
  unfold memT
  rw [List.getD_eq_getElem?_getD, List.getElem?_eq_getElem h]
  exact List.getElem_mem h
theorem in_boxT {l : List Int} {wh : Nat} {x : List Int} : ∀ {k : Nat} {b : Bal}, b ∈ boxT l wh x k → b.cut = x ∧ ∃ j, j < k ∧ b.mem = memT l wh j
  | 0, b, h => by cases h
  | k + 1, b, h => by
    rcases mem_insF.1 h with rfl | h
    · exact ⟨rfl, k, by omega, rfl⟩
    · obtain ⟨h1, j, h2, h3⟩ := in_boxT h
      exact ⟨h1, j, by omega, h3⟩
theorem mod_inj {n a b wh : Nat} (ha : a < n) (hb : b < n) (h : (a + wh) % n = (b + wh) % n) : a = b := by
  have h1 := Nat.div_add_mod (a + wh) n
  have h2 := Nat.div_add_mod (b + wh) n
  rw [h] at h1
  have h3 : (a : Int) - b = n * (((a + wh) / n : Nat) - ((b + wh) / n : Nat) : Int) := by
    rw [Int.mul_sub]
    have e1 : ((n * ((a + wh) / n) + (b + wh) % n : Nat) : Int) = ((a + wh : Nat) : Int) := by rw [h1]
    have e2 : ((n * ((b + wh) / n) + (b + wh) % n : Nat) : Int) = ((b + wh : Nat) : Int) := by rw [h2]
    simp only [Int.natCast_add, Int.natCast_mul] at e1 e2
    omega
  rcases Int.lt_trichotomy (((a + wh) / n : Nat) - ((b + wh) / n : Nat) : Int) 0 with h4 | h4 | h4
  · have : (n : Int) * (((a + wh) / n : Nat) - ((b + wh) / n : Nat) : Int) ≤ n * (-1) := Int.mul_le_mul_of_nonneg_left (by omega) (by omega)
    omega
  · rw [h4] at h3; omega
  · have : (n : Int) * 1 ≤ n * (((a + wh) / n : Nat) - ((b + wh) / n : Nat) : Int) := Int.mul_le_mul_of_nonneg_left (by omega) (by omega)
    omega
theorem memT_inj {l : List Int} {wh a b : Nat} (hl : Asc l) (ha : a < l.length) (hb : b < l.length) (h : memT l wh a = memT l wh b) : a = b := by
  have hp : 0 < l.length := by omega
  have h1 : (a + wh) % l.length < l.length := Nat.mod_lt _ hp
  have h2 : (b + wh) % l.length < l.length := Nat.mod_lt _ hp
  unfold memT at h
  rw [List.getD_eq_getElem?_getD, List.getD_eq_getElem?_getD, List.getElem?_eq_getElem h1, List.getElem?_eq_getElem h2] at h
  simp only [Option.getD_some] at h
  refine mod_inj (wh := wh) ha hb ?_
  rcases Nat.lt_trichotomy ((a + wh) % l.length) ((b + wh) % l.length) with h3 | h3 | h3
  · have := List.pairwise_iff_getElem.1 hl _ _ h1 h2 h3; omega
  · exact h3
  · have := List.pairwise_iff_getElem.1 hl _ _ h2 h1 h3; omega
section
variable {num : Int} {l x : List Int} {wh : Nat}
theorem okT (hv : validV num l = true) (hx : applF num l x = true) : ∀ k, k ≤ l.length → okB num l (boxT l wh x k) = true
  | 0, _ => okB_nil hv
  | k + 1, hk => by
    have hA := (validM_iff.1 (validV_iff.1 hv).2.2).2.2.1
    refine okB_ins (okT hv hx k (by omega)) (okBal_iff.2 ⟨memT_in (by omega), hx⟩) ?_
    rw [← Bool.not_eq_true]
    intro h
    obtain ⟨b, hb, e⟩ := hasM_iff.1 h
    obtain ⟨_, j, hj, e2⟩ := in_boxT hb
    have := memT_inj (wh := wh) hA (a := j) (b := k) (by omega) (by omega) (by rw [← e2]; exact e)
    omega
theorem castT (hv : validV num l = true) (hx : applF num l x = true) {k : Nat} (hk : k < l.length) : castE num l (boxT l wh x k) ⟨memT l wh k, x⟩ = 0 := by
  have hA := (validM_iff.1 (validV_iff.1 hv).2.2).2.2.1
  unfold castE
  rw [okT hv hx k (by omega)]
  simp only [hx]
  rw [if_neg (by simp), hasB_iff.2 (memT_in (by omega)), if_neg (by simp), if_neg]
  intro h
  obtain ⟨b, hb, e⟩ := hasM_iff.1 h
  obtain ⟨_, j, hj, e2⟩ := in_boxT hb
  have := memT_inj (wh := wh) hA (a := j) (b := k) (by omega) (by omega) (by rw [← e2]; exact e)
  omega
theorem votes_all {box : List Bal} (h : ∀ b ∈ box, b.cut = x) : votesF box x = box.length := by
  unfold votesF
  rw [List.countP_eq_length]
  intro b hb
  simp [h b hb]
theorem winI_all {box : List Bal} : ∀ {s : List Bal}, s ≠ [] → (∀ b ∈ s, b.cut = x) → winI l box s = if fastQ (l.length : Int) ≤ (votesF box x : Int) then some x else none
  | [], h, _ => absurd rfl h
  | b :: t, _, h => by
    have hb := h b (by simp)
    unfold winI
    rw [hb]
    split
    · rfl
    · rename_i hn
      rcases t with _ | ⟨c, t⟩
      · rfl
      · rw [winI_all (by simp) fun y hy => h y (by simp [hy]), if_neg hn]
theorem mostI_all {box : List Bal} : ∀ {s : List Bal} {m : Nat}, s ≠ [] → (∀ b ∈ s, b.cut = x) → mostI box s m = max m (votesF box x)
  | [], m, h, _ => absurd rfl h
  | b :: t, m, _, h => by
    have hb := h b (by simp)
    unfold mostI
    rw [hb]
    rcases t with _ | ⟨c, t⟩
    · rfl
    · rw [mostI_all (by simp) fun y hy => h y (by simp [hy])]
      omega
theorem boxT_ne {k : Nat} (h : 0 < k) : boxT l wh x k ≠ [] := fun e => by
  have := lenT (l := l) (wh := wh) (x := x) k
  rw [e] at this
  simp at this
  omega
theorem winT (hv : validV num l = true) (hx : applF num l x = true) {k : Nat} (hk : k ≤ l.length) (h0 : 0 < k) : winF num l (boxT l wh x k) = if fastQ (l.length : Int) ≤ (k : Int) then some x else none := by
  unfold winF
  rw [okT hv hx k hk, if_pos rfl, winI_all (boxT_ne h0) fun b hb => (in_boxT hb).1, votes_all fun b hb => (in_boxT hb).1, lenT]
theorem votesT {k : Nat} : votesF (boxT l wh x k) x = k := by rw [votes_all fun b hb => (in_boxT hb).1, lenT]
theorem fast_bd {n : Nat} (h1 : 1 ≤ n) (h2 : n ≤ 16) : fastQ (n : Int) = (n : Int) - (((n - 1) / 4 : Nat) : Int) ∧ fastQ (n : Int) ≤ n ∧ 1 ≤ fastQ (n : Int) := by
  unfold fastQ
  rw [if_neg (by omega)]
  omega
theorem undT (hv : validV num l = true) {k : Nat} (h0 : 0 < k) : undF num l (boxT l wh x k) = false := by
  unfold undF
  rw [Bool.and_eq_false_iff]
  refine .inr ?_
  rw [decide_eq_false_iff_not, mostI_all (boxT_ne h0) fun b hb => (in_boxT hb).1, votesT, lenT]
  have hM := validM_iff.1 (validV_iff.1 hv).2.2
  have := (fast_bd hM.1 hM.2.1).2.1
  omega
end
end Go.Proofs.Ytmnagkjdnmnbkaa.Fv
