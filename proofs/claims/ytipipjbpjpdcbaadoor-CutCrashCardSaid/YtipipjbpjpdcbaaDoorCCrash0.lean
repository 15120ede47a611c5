/- Layer 7: the mathematics of CutCrash's loops. -/
import Derived.Test.YtipipjbpjpdcbaaDoorCFull0
namespace Go.Proofs.YtipipjbpjpdcbaaDoor.Ct
set_option linter.unusedVariables false
set_option linter.unusedSimpArgs false
open Go.RowKit
open Go.Proofs.YtipipjbpjpdcbaaDoor.W
open Go.Proofs.YtipipjbpjpdcbaaDoor.V
open Go.Proofs.YtipipjbpjpdcbaaDoor.O
open Go.Proofs.YtipipjbpjpdcbaaDoor.Pb (Alr alrC alrsC len_alrsC step_append_alr reads_blk)
open Go.Proofs.YtipipjbpjpdcbaaDoor.Al

theorem hasA_put_iff {num : Int} {l : List Int} {s : List Alr} {a : Alr} (hs : okS K num l s = true) (ha : okA K num l a = true) {y r : Int} : hasA (putA s a) y r = true ↔ hasA s y r = true ∨ (a.subj = y ∧ a.ring = r) := by
  constructor
  · intro h
    obtain ⟨x, hx, h1, h2⟩ := hasA_iff.1 h
    rcases ((okS_put hs ha).2 x).1 hx with e | e
    · exact .inl (hasA_iff.2 ⟨x, e, h1, h2⟩)
    · subst e; exact .inr ⟨h1, h2⟩
  · rintro (h | ⟨h1, h2⟩)
    · exact hasA_put hs ha h
    · rw [← h1, ← h2]; exact hasA_new hs ha
/-- The live observers' alerts about the subjects P have come, those about x for the rings below j. -/
structure CI (num : Int) (l : List Int) (G P : List Int) (x : Int) (j : Nat) (s : List Alr) : Prop where
  ok : okS K num l s = true
  sub : ∀ a ∈ s, a.subj ∈ G
  done : ∀ y ∈ P, ∀ r : Nat, r < 5 → (hasA s y (r : Int) = true ↔ r < (obsL K l y).length ∧ (obsL K l y).getD r 0 ∉ G)
  part : ∀ r : Nat, r < 5 → (hasA s x (r : Int) = true ↔ r < j ∧ (obsL K l x).getD r 0 ∉ G)
  none_ : ∀ y, y ∉ P → y ≠ x → ∀ r : Nat, hasA s y (r : Int) = false
structure CF (num : Int) (l : List Int) (G P : List Int) (s : List Alr) : Prop where
  ok : okS K num l s = true
  sub : ∀ a ∈ s, a.subj ∈ G
  done : ∀ y ∈ P, ∀ r : Nat, r < 5 → (hasA s y (r : Int) = true ↔ r < (obsL K l y).length ∧ (obsL K l y).getD r 0 ∉ G)
  none_ : ∀ y, y ∉ P → ∀ r : Nat, hasA s y (r : Int) = false
theorem CF.start {num : Int} {l G : List Int} (hv : validV num l = true) : CF num l G [] [] := ⟨okS_nil hv, (fun a h => by cases h), (fun y h => by cases h), (fun y h r => rfl)⟩
theorem CF.into {num : Int} {l G P : List Int} {s : List Alr} (h : CF num l G P s) {x : Int} (hx : x ∉ P) : CI num l G P x 0 s :=
  ⟨h.ok, h.sub, h.done, (fun r hr => by rw [h.none_ x hx r]; simp), (fun y hy _ r => h.none_ y hy r)⟩
theorem CI.put {num : Int} {l G P : List Int} {x o : Int} {j : Nat} {s : List Alr} (h : CI num l G P x j s) (hxG : x ∈ G) (hxP : x ∉ P) (ha : okA K num l ⟨num, (j : Int), o, x⟩ = true) (ho : (obsL K l x).getD j 0 ∉ G) : CI num l G P x (j + 1) (putA s ⟨num, (j : Int), o, x⟩) where
  ok := (okS_put h.ok ha).1
  sub := fun a h1 => by
    rcases ((okS_put h.ok ha).2 a).1 h1 with h2 | h2
    · exact h.sub a h2
    · rw [h2]; exact hxG
  done := fun y hy r hr => by
    rw [hasA_put_iff h.ok ha, ← h.done y hy r hr]
    constructor
    · rintro (h1 | ⟨h1, _⟩)
      · exact h1
      · exact absurd (show x = y from h1) fun e => hxP (by rw [e]; exact hy)
    · exact .inl
  part := fun r hr => by
    rw [hasA_put_iff h.ok ha, h.part r hr]
    constructor
    · rintro (⟨h1, h2⟩ | ⟨_, h2⟩)
      · exact ⟨by omega, h2⟩
      · have e : j = r := by have : (j : Int) = (r : Int) := h2; omega
        subst e
        exact ⟨by omega, ho⟩
    · rintro ⟨h1, h2⟩
      by_cases e : r = j
      · exact .inr ⟨rfl, by rw [e]⟩
      · exact .inl ⟨by omega, h2⟩
  none_ := fun y hy hn r => by
    cases hc : hasA (putA s ⟨num, (j : Int), o, x⟩) y (r : Int) with
    | false => rfl
    | true =>
      rcases (hasA_put_iff h.ok ha).1 hc with h1 | ⟨h1, _⟩
      · rw [h.none_ y hy hn r] at h1; cases h1
      · exact absurd (show y = x from h1.symm) hn
theorem CI.skip {num : Int} {l G P : List Int} {x : Int} {j : Nat} {s : List Alr} (h : CI num l G P x j s) (ho : (obsL K l x).getD j 0 ∈ G) : CI num l G P x (j + 1) s :=
  ⟨h.ok, h.sub, h.done, (fun r hr => by
    rw [h.part r hr]
    constructor
    · rintro ⟨h1, h2⟩; exact ⟨by omega, h2⟩
    · rintro ⟨h1, h2⟩
      by_cases e : r = j
      · subst e; exact absurd ho h2
      · exact ⟨by omega, h2⟩), h.none_⟩
theorem CI.out {num : Int} {l G P : List Int} {x : Int} {s : List Alr} (h : CI num l G P x (obsL K l x).length s) : CF num l G (P ++ [x]) s :=
  ⟨h.ok, h.sub, (fun y hy r hr => by
    rcases List.mem_append.1 hy with h1 | h1
    · exact h.done y h1 r hr
    · rw [List.mem_singleton.1 h1]; exact h.part r hr), (fun y hy r => h.none_ y (fun h1 => hy (List.mem_append.2 (.inl h1))) (fun h1 => hy (List.mem_append.2 (.inr (List.mem_singleton.2 h1)))) r)⟩
/-- How many have come about x. -/
theorem CI.count {num : Int} {l G P : List Int} {x : Int} {s : List Alr} {j : Nat} (h : CI num l G P x j s) (hj : j ≤ 5) : cntA s x = (List.range j).countP fun r : Nat => decide ((obsL K l x).getD r 0 ∉ G) := by
  rw [cnt_rings h.ok x]
  have e : (List.range 5).countP (fun r : Nat => hasA s x (r : Int)) = (List.range 5).countP (fun r : Nat => decide (r < j) && decide ((obsL K l x).getD r 0 ∉ G)) := by
    refine List.countP_congr fun r hr => ?_
    rw [h.part r (List.mem_range.1 hr)]
    simp
  rw [e]
  have : j = 0 ∨ j = 1 ∨ j = 2 ∨ j = 3 ∨ j = 4 ∨ j = 5 := by omega
  rcases this with rfl | rfl | rfl | rfl | rfl | rfl <;> simp [List.range, List.range.loop, List.countP_cons]
theorem CF.full {num : Int} {l G : List Int} {s : List Alr} (h : CF num l G G s) (hG : Asc G) (h2 : ∀ x ∈ G, 2 ≤ cntA s x) : susp K num l s true = G ∧ susp K num l s false = [] := by
  refine Ct.full h.ok hG h.sub h2 fun x hx r hr => ?_
  by_cases e : (obsL K l x).getD r 0 ∈ G
  · exact .inr e
  · left
    rw [h.done x hx r hr]
    have := obs_of_cnt h.ok (x := x) (by have := h2 x hx; omega)
    exact ⟨by omega, e⟩
theorem CF.cnt {num : Int} {l G P : List Int} {s : List Alr} (h : CF num l G P s) {y : Int} (hy : y ∈ P) : cntA s y = (List.range 5).countP fun r : Nat => decide (r < (obsL K l y).length) && decide ((obsL K l y).getD r 0 ∉ G) := by
  rw [cnt_rings h.ok y]
  refine List.countP_congr fun r hr => ?_
  rw [h.done y hy r (List.mem_range.1 hr)]
  simp
theorem CF.more {num : Int} {l G P : List Int} {x : Int} {s s' : List Alr} {m : Nat} (h : CF num l G P s) (h' : CI num l G P x (obsL K l x).length s') (ho : (obsL K l x).length ≤ 5) (hm : m = (List.range (obsL K l x).length).countP fun r : Nat => decide ((obsL K l x).getD r 0 ∉ G)) {en : Bool} (he : en = true → ∀ y ∈ P, 2 ≤ cntA s y) :
    (en && decide (2 ≤ m)) = true → ∀ y ∈ P ++ [x], 2 ≤ cntA s' y := fun h1 y hy => by
  simp at h1
  rcases List.mem_append.1 hy with h2 | h2
  · have := he h1.1 y h2
    rw [h.cnt h2] at this
    rw [(h'.out).cnt hy]
    exact this
  · rw [List.mem_singleton.1 h2, h'.count ho, ← hm]
    exact h1.2
theorem cnt_up {o G : List Int} {j : Nat} : (List.range (j + 1)).countP (fun r : Nat => decide (o.getD r 0 ∉ G)) = (List.range j).countP (fun r : Nat => decide (o.getD r 0 ∉ G)) + (if o.getD j 0 ∈ G then 0 else 1) := by
  rw [List.range_succ, List.countP_append]
  congr 1
  by_cases h : o.getD j 0 ∈ G <;> simp [h]
end Go.Proofs.YtipipjbpjpdcbaaDoor.Ct
