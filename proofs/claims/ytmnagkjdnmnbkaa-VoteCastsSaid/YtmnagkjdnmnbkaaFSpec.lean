/- The fast round, in mathematics. -/
import Derived.Test.YtmnagkjdnmnbkaaVB
namespace Go.Proofs.Ytmnagkjdnmnbkaa.Fv
set_option linter.unusedVariables false
open Go.Proofs.Ytmnagkjdnmnbkaa.V

/-- A ballot. -/
structure Bal where
  mem : Int
  cut : List Int
deriving DecidableEq
def applF (num : Int) (l cut : List Int) : Bool := decide ((next num l cut).2 = 0)
def riseM : List Bal → Bool
  | a :: b :: t => decide (a.mem < b.mem) && riseM (b :: t)
  | _ => true
def okBal (num : Int) (l : List Int) (b : Bal) : Bool := hasB l b.mem && applF num l b.cut
def okB (num : Int) (l : List Int) (box : List Bal) : Bool := validV num l && (box.all (okBal num l) && riseM box)
def votesF (box : List Bal) (cut : List Int) : Nat := box.countP fun b => decide (b.cut = cut)
def hasM (box : List Bal) (m : Int) : Bool := box.any fun b => decide (b.mem = m)
def insF (b : Bal) : List Bal → List Bal
  | [] => [b]
  | x :: t => if b.mem < x.mem then b :: x :: t else x :: insF b t
def castE (num : Int) (l : List Int) (box : List Bal) (b : Bal) : Nat :=
  if (okB num l box && applF num l b.cut) = false then 1 else if hasB l b.mem = false then 6 else if hasM box b.mem then 7 else 0
def castB (num : Int) (l : List Int) (box : List Bal) (b : Bal) : List Bal := if castE num l box b = 0 then insF b box else []
def winI (l : List Int) (box : List Bal) : List Bal → Option (List Int)
  | [] => none
  | b :: t => if fastQ (l.length : Int) ≤ (votesF box b.cut : Int) then some b.cut else winI l box t
def winF (num : Int) (l : List Int) (box : List Bal) : Option (List Int) := if okB num l box then winI l box box else none
def mostI (box : List Bal) : List Bal → Nat → Nat
  | [], m => m
  | b :: t, m => mostI box t (max m (votesF box b.cut))
def undF (num : Int) (l : List Int) (box : List Bal) : Bool := okB num l box && decide ((mostI box box 0 : Int) + (l.length : Int) - (box.length : Int) < fastQ (l.length : Int))
/-! ### valid boxes -/
def AscM (box : List Bal) : Prop := box.Pairwise fun a b => a.mem < b.mem
theorem riseM_iff : ∀ {s : List Bal}, riseM s = true ↔ AscM s
  | [] => by simp [riseM, AscM]
  | [a] => by simp [riseM, AscM]
  | a :: b :: t => by
    have ih := riseM_iff (s := b :: t)
    unfold AscM at *
    rw [show riseM (a :: b :: t) = (decide (a.mem < b.mem) && riseM (b :: t)) from rfl, Bool.and_eq_true, ih, decide_eq_true_iff]
    constructor
    · rintro ⟨h1, h2⟩
      refine List.pairwise_cons.2 ⟨fun x hx => ?_, h2⟩
      rcases List.mem_cons.1 hx with rfl | hx
      · exact h1
      · exact Int.lt_trans h1 ((List.pairwise_cons.1 h2).1 x hx)
    · intro h
      obtain ⟨h1, h2⟩ := List.pairwise_cons.1 h
      exact ⟨h1 b (by simp), h2⟩
theorem okB_iff {num : Int} {l : List Int} {box : List Bal} : okB num l box = true ↔ validV num l = true ∧ (∀ b ∈ box, okBal num l b = true) ∧ AscM box := by unfold okB; simp [riseM_iff]
theorem okBal_iff {num : Int} {l : List Int} {b : Bal} : okBal num l b = true ↔ b.mem ∈ l ∧ applF num l b.cut = true := by
  unfold okBal; rw [Bool.and_eq_true, hasB_iff]
theorem okB_nil {num : Int} {l : List Int} (h : validV num l = true) : okB num l [] = true := okB_iff.2 ⟨h, fun b hb => (by cases hb), by unfold AscM; simp⟩
/-- How the loop of Valid goes on. -/
structure Seen (num : Int) (l : List Int) (s : List Bal) (k : Nat) : Prop where
  all : ∀ i x, i < k → s[i]? = some x → okBal num l x = true
  lt : ∀ i x y, i + 1 < k → s[i]? = some x → s[i + 1]? = some y → x.mem < y.mem
theorem Seen.zero {num : Int} {l : List Int} {s : List Bal} : Seen num l s 0 := ⟨fun i x h => absurd h (by omega), fun i x y h => absurd h (by omega)⟩
theorem Seen.next {num : Int} {l : List Int} {s : List Bal} {k : Nat} {x : Bal} (h : Seen num l s k) (hx : s[k]? = some x) (h1 : okBal num l x = true) (h2 : ∀ p, 0 < k → s[k - 1]? = some p → p.mem < x.mem) : Seen num l s (k + 1) where
  all := fun i y hi hy => by
    rcases Nat.lt_or_ge i k with hl | hg
    · exact h.all i y hl hy
    · obtain rfl : i = k := by omega
      rw [hx] at hy; cases hy; exact h1
  lt := fun i y z hi hy hz => by
    rcases Nat.lt_or_ge (i + 1) k with hl | hg
    · exact h.lt i y z hl hy hz
    · obtain rfl : k = i + 1 := by omega
      rw [hx] at hz; cases hz
      exact h2 y (by omega) (by simpa using hy)
theorem Seen.done {num : Int} {l : List Int} {s : List Bal} (h : Seen num l s s.length) (hv : validV num l = true) : okB num l s = true := by
  refine okB_iff.2 ⟨hv, fun b hb => ?_, ?_⟩
  · obtain ⟨i, hi, e⟩ := List.mem_iff_getElem.1 hb
    exact h.all i b hi (by rw [List.getElem?_eq_getElem hi, e])
  · have : ∀ j i (hi : i < s.length) (hj : j < s.length), i < j → s[i].mem < s[j].mem := by
      intro j
      induction j with
      | zero => intro i hi hj hl; omega
      | succ j ih =>
        intro i hi hj hl
        have h1 := h.lt j s[j] s[j + 1] hj (List.getElem?_eq_getElem (by omega)) (List.getElem?_eq_getElem hj)
        rcases Nat.lt_or_ge i j with h2 | h2
        · exact Int.lt_trans (ih i hi (by omega) h2) h1
        · obtain rfl : i = j := by omega
          exact h1
    unfold AscM
    rw [List.pairwise_iff_getElem]
    exact fun i j hi hj hl => this j i hi hj hl
theorem okB_at {num : Int} {l : List Int} {s : List Bal} {k : Nat} {x : Bal} (h : okB num l s = true) (hx : s[k]? = some x) : okBal num l x = true ∧ ∀ p, 0 < k → s[k - 1]? = some p → p.mem < x.mem := by
  obtain ⟨_, h1, h2⟩ := okB_iff.1 h
  refine ⟨h1 x (List.mem_of_getElem? hx), fun p h0 hp => ?_⟩
  have h3 := List.getElem?_eq_some_iff.1 hx
  have h4 := List.getElem?_eq_some_iff.1 hp
  have := List.pairwise_iff_getElem.1 h2 (k - 1) k h4.1 h3.1 (by omega)
  rw [h3.2, h4.2] at this
  exact this
/-! ### a ballot put in its place -/
theorem mem_insF {b x : Bal} : ∀ {s : List Bal}, x ∈ insF b s ↔ x = b ∨ x ∈ s
  | [] => by simp [insF]
  | y :: t => by
    unfold insF
    split
    · simp
    · simp only [List.mem_cons, mem_insF (s := t)]
      constructor
      · rintro (h | h | h)
        · exact .inr (.inl h)
        · exact .inl h
        · exact .inr (.inr h)
      · rintro (h | h | h)
        · exact .inr (.inl h)
        · exact .inl h
        · exact .inr (.inr h)
theorem len_insF {b : Bal} : ∀ {s : List Bal}, (insF b s).length = s.length + 1
  | [] => rfl
  | y :: t => by
    unfold insF
    split
    · simp
    · simp [len_insF (s := t)]
theorem hasM_iff {s : List Bal} {m : Int} : hasM s m = true ↔ ∃ b ∈ s, b.mem = m := by unfold hasM; simp
theorem asc_insF {b : Bal} : ∀ {s : List Bal}, AscM s → hasM s b.mem = false → AscM (insF b s)
  | [], _, _ => by unfold AscM insF; simp
  | y :: t, h, hn => by
    have hne : y.mem ≠ b.mem := fun e => by
      have : hasM (y :: t) b.mem = true := hasM_iff.2 ⟨y, by simp, e⟩
      rw [this] at hn; cases hn
    have hn2 : hasM t b.mem = false := by
      rw [← Bool.not_eq_true]
      intro h2
      obtain ⟨z, hz, e⟩ := hasM_iff.1 h2
      have : hasM (y :: t) b.mem = true := hasM_iff.2 ⟨z, by simp [hz], e⟩
      rw [this] at hn; cases hn
    unfold AscM at h
    obtain ⟨h1, h2⟩ := List.pairwise_cons.1 h
    unfold insF
    split
    · rename_i hl
      unfold AscM
      refine List.pairwise_cons.2 ⟨fun z hz => ?_, h⟩
      rcases List.mem_cons.1 hz with rfl | hz
      · exact hl
      · exact Int.lt_trans hl (h1 z hz)
    · rename_i hl
      unfold AscM
      refine List.pairwise_cons.2 ⟨fun z hz => ?_, asc_insF h2 hn2⟩
      rcases mem_insF.1 hz with rfl | hz
      · omega
      · exact h1 z hz
theorem okB_ins {num : Int} {l : List Int} {s : List Bal} {b : Bal} (h : okB num l s = true) (hb : okBal num l b = true) (hn : hasM s b.mem = false) : okB num l (insF b s) = true := by
  obtain ⟨h1, h2, h3⟩ := okB_iff.1 h
  refine okB_iff.2 ⟨h1, fun x hx => ?_, asc_insF h3 hn⟩
  rcases mem_insF.1 hx with rfl | hx
  · exact hb
  · exact h2 x hx
theorem votes_ins {b : Bal} {cut : List Int} : ∀ {s : List Bal}, votesF (insF b s) cut = votesF s cut + if b.cut = cut then 1 else 0
  | [] => by unfold insF votesF; by_cases h : b.cut = cut <;> simp [h]
  | y :: t => by
    unfold insF
    split
    · unfold votesF
      rw [List.countP_cons]
      simp
    · have ih := votes_ins (b := b) (cut := cut) (s := t)
      unfold votesF at *
      rw [List.countP_cons, List.countP_cons, ih]
      omega
end Go.Proofs.Ytmnagkjdnmnbkaa.Fv
