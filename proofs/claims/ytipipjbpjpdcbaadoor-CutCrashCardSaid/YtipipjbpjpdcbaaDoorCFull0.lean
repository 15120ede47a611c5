/- Layer 7: the mathematics of CutFull's loops. -/
import Derived.Test.YtipipjbpjpdcbaaDoorCTells
import Derived.Test.YtipipjbpjpdcbaaDoorCHolds
namespace Go.Proofs.YtipipjbpjpdcbaaDoor.Ct
set_option linter.unusedVariables false
set_option linter.unusedSimpArgs false
open Go.RowKit
open Go.Proofs.YtipipjbpjpdcbaaDoor.W
open Go.Proofs.YtipipjbpjpdcbaaDoor.V
open Go.Proofs.YtipipjbpjpdcbaaDoor.O
open Go.Proofs.YtipipjbpjpdcbaaDoor.Pb (Alr alrC alrsC len_alrsC step_append_alr reads_blk)
open Go.Proofs.YtipipjbpjpdcbaaDoor.Al

theorem hasA_put {num : Int} {l : List Int} {s : List Alr} {a : Alr} (hs : okS K num l s = true) (ha : okA K num l a = true) {y r : Int} (h : hasA s y r = true) : hasA (putA s a) y r = true := by
  obtain ⟨x, hx, h1, h2⟩ := hasA_iff.1 h
  exact hasA_iff.2 ⟨x, ((okS_put hs ha).2 x).2 (.inl hx), h1, h2⟩
theorem hasA_new {num : Int} {l : List Int} {s : List Alr} {a : Alr} (hs : okS K num l s = true) (ha : okA K num l a = true) : hasA (putA s a) a.subj a.ring = true :=
  hasA_iff.2 ⟨a, ((okS_put hs ha).2 a).2 (.inr rfl), rfl, rfl⟩
/-- All alerts of the subjects W, and no others; of x, those of the rings below j. -/
structure GI (num : Int) (l : List Int) (W : List Int) (x : Int) (j : Nat) (s : List Alr) : Prop where
  ok : okS K num l s = true
  sub : ∀ a ∈ s, a.subj ∈ W
  all : ∀ y ∈ W, y ≠ x → ∀ r : Nat, r < 5 → hasA s y (r : Int) = true
  part : ∀ r : Nat, r < j → hasA s x (r : Int) = true
structure GF (num : Int) (l : List Int) (W : List Int) (s : List Alr) : Prop where
  ok : okS K num l s = true
  asc : Asc W
  sub : ∀ a ∈ s, a.subj ∈ W
  all : ∀ y ∈ W, ∀ r : Nat, r < 5 → hasA s y (r : Int) = true
theorem GI.put {num : Int} {l : List Int} {W : List Int} {x o : Int} {j : Nat} {s : List Alr} (h : GI num l W x j s) (hx : x ∈ W) (ha : okA K num l ⟨num, (j : Int), o, x⟩ = true) : GI num l W x (j + 1) (putA s ⟨num, (j : Int), o, x⟩) where
  ok := (okS_put h.ok ha).1
  sub := fun a h1 => by
    rcases ((okS_put h.ok ha).2 a).1 h1 with h2 | h2
    · exact h.sub a h2
    · rw [h2]; exact hx
  all := fun y hy hn r hr => hasA_put h.ok ha (h.all y hy hn r hr)
  part := fun r hr => by
    by_cases e : r = j
    · rw [e]; exact hasA_new h.ok ha
    · exact hasA_put h.ok ha (h.part r (by omega))
theorem GF.start {num : Int} {l : List Int} (hv : validV num l = true) : GF num l [] [] := ⟨okS_nil hv, List.Pairwise.nil, (fun a h => by cases h), (fun y h => by cases h)⟩
theorem GF.into {num : Int} {l : List Int} {W : List Int} {s : List Alr} (h : GF num l W s) (x : Int) : GI num l (if hasB W x then W else ins x W) x 0 s := by
  refine ⟨h.ok, fun a ha => ?_, fun y hy hn => ?_, fun r hr => by omega⟩
  · split
    · exact h.sub a ha
    · exact mem_ins.2 (.inr (h.sub a ha))
  · refine h.all y ?_
    split at hy
    · exact hy
    · exact (mem_ins.1 hy).resolve_left hn
theorem GF.asc' {num : Int} {l : List Int} {W : List Int} {s : List Alr} (h : GF num l W s) (x : Int) : Asc (if hasB W x then W else ins x W) ∧ x ∈ (if hasB W x then W else ins x W) := by
  split
  · rename_i h1
    exact ⟨h.asc, hasB_iff.1 h1⟩
  · rename_i h1
    exact ⟨Asc.ins h.asc fun h2 => h1 (hasB_iff.2 h2), mem_ins.2 (.inl rfl)⟩
theorem GI.out {num : Int} {l : List Int} {W : List Int} {x : Int} {s : List Alr} (h : GI num l W x 5 s) (hW : Asc W) : GF num l W s :=
  ⟨h.ok, hW, h.sub, fun y hy r hr => by
    by_cases e : y = x
    · rw [e]; exact h.part r hr
    · exact h.all y hy e r hr⟩
theorem GF.full {num : Int} {l : List Int} {W : List Int} {s : List Alr} (h : GF num l W s) : susp K num l s true = W ∧ susp K num l s false = [] := by
  refine Ct.full h.ok h.asc h.sub (fun x hx => ?_) (fun x hx r hr => .inl (h.all x hx r hr))
  rw [cnt_rings h.ok x]
  have : (List.range 5).countP (fun r : Nat => hasA s x (r : Int)) = (List.range 5).length := List.countP_eq_length.2 fun r hr => h.all x hx r (List.mem_range.1 hr)
  rw [this]
  simp
theorem next_empty {num : Int} {l : List Int} : ¬ (next num l []).2 = 0 := by
  unfold next
  cases validV num l <;> simp [validC]
end Go.Proofs.YtipipjbpjpdcbaaDoor.Ct
