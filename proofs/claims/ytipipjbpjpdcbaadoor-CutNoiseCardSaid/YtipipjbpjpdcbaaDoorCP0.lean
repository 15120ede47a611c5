/- The package's own way to the tallies, in mathematics. -/
import Derived.Test.YtipipjbpjpdcbaaDoorCSpec
namespace Go.Proofs.YtipipjbpjpdcbaaDoor.Ct
set_option linter.unusedVariables false
open Go.Proofs.YtipipjbpjpdcbaaDoor.V
open Go.Proofs.YtipipjbpjpdcbaaDoor.O
open Go.Proofs.YtipipjbpjpdcbaaDoor.Pb (Alr)
open Go.Proofs.YtipipjbpjpdcbaaDoor.Al

theorem has_iff {l : List Int} {x : Int} : hasB l x = true ↔ x ∈ l := by rw [hasB_mem]; simp
/-- The tallies without the implicit reports. -/
def explL (s : List Alr) : List Tly := (subsA s).map fun x => ⟨x, cntA s x, 0⟩
theorem subs_take {s : List Alr} {k : Nat} {x : Alr} (h : s[k]? = some x) : subsA (s.take (k + 1)) = subStep (subsA (s.take k)) x := by
  unfold subsA
  rw [List.take_add_one, h, List.foldl_append]
  rfl
theorem ins_last {x : Int} : ∀ {l : List Int}, (∀ y ∈ l, y < x) → ins x l = l ++ [x]
  | [], _ => rfl
  | y :: t, h => by
    have hy := h y (by simp)
    have ih := ins_last (x := x) (l := t) fun z hz => h z (by simp [hz])
    unfold ins
    first
      | rw [if_neg (by omega), ih]; rfl
      | rw [if_pos hy, ih]; rfl
      | (simp [show ¬ x < y by omega, show ¬ x ≤ y by omega, hy, ih])
theorem cnt_zero {s : List Alr} {y : Int} (h : ∀ a ∈ s, a.subj ≠ y) : cntA s y = 0 := by
  unfold cntA
  rw [List.countP_eq_zero]
  intro a ha
  have := h a ha
  simp [this]
theorem asc_last {l : List Int} {x : Int} (ha : Asc l) (hx : x ∈ l) (hm : ∀ y ∈ l, y ≤ x) : ∃ F, l = F ++ [x] ∧ ∀ y ∈ F, y < x := by
  rcases List.eq_nil_or_concat l with rfl | ⟨F, z, rfl⟩
  · cases hx
  · rw [List.concat_eq_append] at *
    unfold Asc at ha
    rw [List.pairwise_append] at ha
    obtain ⟨_, _, h3⟩ := ha
    have hz : z = x := by
      rcases List.mem_append.1 hx with h | h
      · have := h3 x h z (by simp)
        have := hm z (by simp)
        omega
      · simp at h; exact h.symm
    subst hz
    exact ⟨F, rfl, fun y hy => h3 y hy z (by simp)⟩
theorem expl_len {s : List Alr} : (explL s).length ≤ s.length := by
  have h := count_sum (s := s)
  have h2 : (explL s).length = (subsA s).length := by unfold explL; rw [List.length_map]
  rw [h2]
  have : ∀ l : List Int, (∀ x ∈ l, 1 ≤ cntA s x) → l.length ≤ (l.map (cntA s)).sum := by
    intro l
    induction l with
    | nil => intro _; simp
    | cons a t ih =>
      intro h
      have h1 := h a (by simp)
      have h2 := ih fun x hx => h x (by simp [hx])
      simp
      omega
  have := this (subsA s) fun x hx => cnt_pos hx
  omega
/-- How explicit's loop goes on. -/
theorem expl_step {s : List Alr} {k : Nat} {x : Alr} (hs : AscA s) (hx : s[k]? = some x) : ∃ (F : List Tly) (c : Nat), explL (s.take (k + 1)) = F ++ [⟨x.subj, c + 1, 0⟩] ∧ c ≤ k ∧ F.length ≤ k ∧
    ((k = 0 ∨ ∃ p, s[k - 1]? = some p ∧ p.subj ≠ x.subj) → explL (s.take k) = F ∧ c = 0) ∧ ((0 < k ∧ ∃ p, s[k - 1]? = some p ∧ p.subj = x.subj) → explL (s.take k) = F ++ [⟨x.subj, c, 0⟩]) := by
  have hk := (List.getElem?_eq_some_iff.1 hx).1
  have hle : ∀ a ∈ s.take k, a.subj ≤ x.subj := fun a ha => by
    obtain ⟨i, hi, e⟩ := List.mem_iff_getElem.1 ha
    rw [List.length_take] at hi
    have h1 := List.pairwise_iff_getElem.1 hs i k (by omega) hk (by omega)
    rw [List.getElem_take] at e
    rw [e, (List.getElem?_eq_some_iff.1 hx).2, lessA_iff] at h1
    omega
  have hcx : ∀ y, cntA (s.take (k + 1)) y = cntA (s.take k) y + if x.subj = y then 1 else 0 := fun y => cntA_take hx
  have hlen : (subsA (s.take k)).length ≤ k := by
    have := expl_len (s := s.take k)
    unfold explL at this
    rw [List.length_map, List.length_take] at this
    omega
  by_cases hm : x.subj ∈ subsA (s.take k)
  · obtain ⟨F, hF, hlt⟩ := asc_last (asc_subsA (s.take k)) hm fun y hy => by
      obtain ⟨a, ha, rfl⟩ := mem_subsA.1 hy
      exact hle a ha
    have hpos := cnt_pos hm
    have hlast : 0 < k ∧ ∃ p, s[k - 1]? = some p ∧ p.subj = x.subj := by
      obtain ⟨a, ha, e⟩ := mem_subsA.1 hm
      obtain ⟨i, hi, e2⟩ := List.mem_iff_getElem.1 ha
      rw [List.length_take] at hi
      rw [List.getElem_take] at e2
      refine ⟨by omega, s[k - 1], List.getElem?_eq_getElem (by omega), ?_⟩
      have h1 := hle s[k - 1] (List.mem_iff_getElem.2 ⟨k - 1, by rw [List.length_take]; omega, by rw [List.getElem_take]⟩)
      rcases Nat.lt_or_ge i (k - 1) with h | h
      · have h2 := List.pairwise_iff_getElem.1 hs i (k - 1) (by omega) (by omega) h
        rw [e2, lessA_iff] at h2
        omega
      · have : i = k - 1 := by omega
        subst this
        rw [e2]; exact e
    refine ⟨F.map fun y => ⟨y, cntA (s.take k) y, 0⟩, cntA (s.take k) x.subj, ?_, ?_, ?_, ?_, ?_⟩
    · unfold explL
      rw [subs_take hx]
      unfold subStep
      rw [if_pos (has_iff.2 hm), hF, List.map_append]
      congr 1
      · refine List.map_congr_left fun y hy => ?_
        rw [hcx, if_neg (by have := hlt y hy; omega)]; simp
      · simp [hcx]
    · unfold cntA
      exact Nat.le_trans List.countP_le_length (by rw [List.length_take]; omega)
    · rw [List.length_map]
      have : (subsA (s.take k)).length = F.length + 1 := by rw [hF]; simp
      omega
    · rintro (h | ⟨p, hp, hne⟩)
      · omega
      · obtain ⟨_, q, hq, e⟩ := hlast
        rw [hq] at hp
        cases hp
        exact absurd e hne
    · intro _
      unfold explL
      rw [hF, List.map_append]
      rfl
  · have hno : ∀ a ∈ s.take k, a.subj ≠ x.subj := fun a ha e => hm (mem_subsA.2 ⟨a, ha, e⟩)
    refine ⟨explL (s.take k), 0, ?_, Nat.zero_le _, ?_, fun _ => ⟨rfl, rfl⟩, ?_⟩
    · unfold explL
      rw [subs_take hx]
      unfold subStep
      have hb : hasB (subsA (s.take k)) x.subj = false := by rw [← Bool.not_eq_true]; exact fun h => hm (has_iff.1 h)
      rw [if_neg (by rw [hb]; simp), ins_last (fun y hy => by
        obtain ⟨a, ha, rfl⟩ := mem_subsA.1 hy
        have := hle a ha
        have := hno a ha
        omega), List.map_append]
      congr 1
      · refine List.map_congr_left fun y hy => ?_
        rw [hcx, if_neg (by
          intro e
          subst e
          exact hm hy)]; simp
      · simp [hcx, cnt_zero hno]
    · unfold explL; rw [List.length_map]; exact hlen
    · rintro ⟨h0, p, hp, e⟩
      have hp' := List.getElem?_eq_some_iff.1 hp
      exact absurd e (hno p (List.mem_iff_getElem.2 ⟨k - 1, by rw [List.length_take]; omega, by rw [List.getElem_take]; exact hp'.2⟩))

/-! ### the alerts about one subject lie together -/
def blkA (s : List Alr) (x : Int) : List Alr := s.filter fun a => decide (a.subj = x)
theorem blk_len {s : List Alr} {x : Int} : (blkA s x).length = cntA s x := by unfold blkA cntA; rw [List.countP_eq_length_filter]
def restA (s : List Alr) (k : Nat) : List Alr := ((subsA s).drop k).flatMap (blkA s)
theorem rest_zero {s : List Alr} (hs : AscA s) : restA s 0 = s := by
  refine AscA.ext ?_ hs fun a => ?_
  · unfold AscA restA
    rw [List.drop_zero, List.pairwise_flatMap]
    refine ⟨fun x _ => List.Pairwise.filter _ hs, ?_⟩
    refine List.Pairwise.imp ?_ (asc_subsA s)
    intro x y hxy a ha b hb
    have h1 := (List.mem_filter.1 ha).2
    have h2 := (List.mem_filter.1 hb).2
    simp at h1 h2
    rw [lessA_iff]
    omega
  · unfold restA blkA
    rw [List.drop_zero, List.mem_flatMap]
    constructor
    · rintro ⟨x, _, h⟩
      exact (List.mem_filter.1 h).1
    · intro h
      exact ⟨a.subj, mem_subsA.2 ⟨a, h, rfl⟩, List.mem_filter.2 ⟨h, by simp⟩⟩
theorem rest_cons {s : List Alr} {k : Nat} {x : Int} (hx : (subsA s)[k]? = some x) : restA s k = blkA s x ++ restA s (k + 1) := by
  have hk := (List.getElem?_eq_some_iff.1 hx).1
  unfold restA
  rw [List.drop_eq_getElem_cons hk, (List.getElem?_eq_some_iff.1 hx).2, List.flatMap_cons]
theorem expl_at {s : List Alr} {k : Nat} {x : Int} (hx : (subsA s)[k]? = some x) : (explL s)[k]? = some ⟨x, cntA s x, 0⟩ := by unfold explL; rw [List.getElem?_map, hx]; rfl
/-- The members among the suspects. -/
def leavL (l : List Int) (T : List Tly) : List Int := (T.filter fun t => decide (2 ≤ t.expl) && hasB l t.subj).map (·.subj)
theorem leav_has {l : List Int} {s : List Alr} {o : Int} (ho : o ∈ l) : hasB (leavL l (explL s)) o = decide (2 ≤ cntA s o) := by
  rw [Bool.eq_iff_iff, has_iff, decide_eq_true_iff]
  unfold leavL explL
  rw [List.mem_map]
  constructor
  · rintro ⟨t, ht, rfl⟩
    obtain ⟨h1, h2⟩ := List.mem_filter.1 ht
    obtain ⟨x, _, rfl⟩ := List.mem_map.1 h1
    simp at h2
    exact h2.1
  · intro h
    refine ⟨⟨o, cntA s o, 0⟩, List.mem_filter.2 ⟨List.mem_map.2 ⟨o, in_subs (by omega), rfl⟩, ?_⟩, rfl⟩
    simp [h, has_iff.2 ho]
/-- What implicit counts. -/
def impP (ab : List Alr) (lv : List Int) : Nat → List Int → Nat
  | _, [] => 0
  | r, o :: t => (if (!(ab.any fun a => decide (a.ring = (r : Int)))) && hasB lv o then 1 else 0) + impP ab lv (r + 1) t
theorem any_blk {s : List Alr} {x r : Int} : ((blkA s x).any fun a => decide (a.ring = r)) = hasA s x r := by
  rw [Bool.eq_iff_iff, hasA_mem, List.any_eq_true]
  unfold blkA
  constructor
  · rintro ⟨a, ha, h⟩
    obtain ⟨h1, h2⟩ := List.mem_filter.1 ha
    simp at h h2
    exact ⟨a, h1, h2, h⟩
  · rintro ⟨a, ha, h1, h2⟩
    exact ⟨a, List.mem_filter.2 ⟨ha, by simpa using h1⟩, by simpa using h2⟩
theorem imp_eq {l : List Int} {s : List Alr} {x : Int} : ∀ {O : List Int} {r : Nat}, (∀ o ∈ O, o ∈ l) → impP (blkA s x) (leavL l (explL s)) r O = impF s x r O
  | [], r, _ => rfl
  | o :: t, r, h => by
    unfold impP impF
    rw [imp_eq fun y hy => h y (by simp [hy]), any_blk, leav_has (h o (by simp))]
theorem imp_le {ab : List Alr} {lv : List Int} : ∀ {O : List Int} {r : Nat}, impP ab lv r O ≤ O.length
  | [], r => Nat.le_refl _
  | o :: t, r => by
    have := imp_le (ab := ab) (lv := lv) (O := t) (r := r + 1)
    unfold impP
    rw [List.length_cons]
    split <;> omega
theorem imp_drop {ab : List Alr} {lv : List Int} {O : List Int} {k : Nat} {o : Int} (h : O[k]? = some o) : impP ab lv k (O.drop k) = (if (!(ab.any fun a => decide (a.ring = (k : Int)))) && hasB lv o then 1 else 0) + impP ab lv (k + 1) (O.drop (k + 1)) := by
  rw [List.drop_eq_getElem_cons (List.getElem?_eq_some_iff.1 h).1, (List.getElem?_eq_some_iff.1 h).2]; rfl
theorem any_drop {ab : List Alr} {r : Int} {k : Nat} {a : Alr} (h : ab[k]? = some a) : (ab.drop k).any (fun a => decide (a.ring = r)) = (decide (a.ring = r) || (ab.drop (k + 1)).any fun a => decide (a.ring = r)) := by
  rw [List.drop_eq_getElem_cons (List.getElem?_eq_some_iff.1 h).1, (List.getElem?_eq_some_iff.1 h).2]; rfl
end Go.Proofs.YtipipjbpjpdcbaaDoor.Ct
