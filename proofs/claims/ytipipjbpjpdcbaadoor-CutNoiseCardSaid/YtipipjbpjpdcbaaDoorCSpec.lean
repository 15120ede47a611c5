/- The cut detector, in mathematics. -/
import Derived.Test.YtipipjbpjpdcbaaDoorARef9
namespace Go.Proofs.YtipipjbpjpdcbaaDoor.Ct
set_option linter.unusedVariables false
open Go.Proofs.YtipipjbpjpdcbaaDoor.V
open Go.Proofs.YtipipjbpjpdcbaaDoor.O
open Go.Proofs.YtipipjbpjpdcbaaDoor.Pb (Alr)
open Go.Proofs.YtipipjbpjpdcbaaDoor.Al

/-- A tally. -/
structure Tly where
  subj : Int
  expl : Nat
  impl : Nat
deriving DecidableEq
/-- The rings, from r on, on which a subject has no alert and its observer is a suspect. -/
def impF (s : List Alr) (x : Int) : Nat → List Int → Nat
  | _, [] => 0
  | r, o :: t => (if (!hasA s x (r : Int)) && decide (2 ≤ cntA s o) then 1 else 0) + impF s x (r + 1) t
def tally (K : Int → Int → Nat) (l : List Int) (s : List Alr) (x : Int) : Tly := ⟨x, cntA s x, if 2 ≤ cntA s x then impF s x 0 (obsL K l x) else 0⟩
def tallies (K : Int → Int → Nat) (num : Int) (l : List Int) (s : List Alr) : List Tly := if okS K num l s then (subsA s).map (tally K l s) else []
def isS (high : Bool) (t : Tly) : Bool := decide (2 ≤ t.expl) && (decide (4 ≤ t.expl + t.impl) == high)
def susp (K : Int → Int → Nat) (num : Int) (l : List Int) (s : List Alr) (high : Bool) : List Int := ((tallies K num l s).filter (isS high)).map (·.subj)
/-- The greatest place of an element that is no member, or acc. -/
def lastF (m : List Int) : Nat → List Int → Int → Int
  | _, [], acc => acc
  | i, x :: t, acc => lastF m (i + 1) t (if hasB m x then acc else (i : Int))
def prop (num : Int) (l : List Int) : Nat → List Int → Option (List Int)
  | 0, _ => none
  | n + 1, s => if (next num l s).2 = 0 then some s else if (next num l s).2 = 5 ∧ 0 ≤ lastF l 0 s (-1) then prop num l n (s.eraseIdx (lastF l 0 s (-1)).toNat) else none
def propA (K : Int → Int → Nat) (num : Int) (l : List Int) (s : List Alr) : Option (List Int) :=
  if susp K num l s true = [] ∨ susp K num l s false ≠ [] then none else prop num l ((susp K num l s true).length + 1) (susp K num l s true)

theorem lastF_lt {m : List Int} : ∀ {s : List Int} {i : Nat} {acc : Int}, acc < (i : Int) → lastF m i s acc < ((i + s.length : Nat) : Int)
  | [], i, acc, h => by simpa [lastF] using h
  | x :: t, i, acc, h => by
    unfold lastF
    have h2 : (if hasB m x then acc else (i : Int)) < ((i + 1 : Nat) : Int) := by split <;> omega
    have := lastF_lt (m := m) (s := t) h2
    rw [List.length_cons]; omega
theorem prop_some {num : Int} {l : List Int} : ∀ {n : Nat} {s c : List Int}, prop num l n s = some c → (next num l c).2 = 0 ∧ (c = s ∨ c.length < s.length)
  | 0, s, c, h => by simp [prop] at h
  | n + 1, s, c, h => by
    unfold prop at h
    split at h
    · rename_i h1
      cases h
      exact ⟨h1, .inl rfl⟩
    · split at h
      · rename_i h2
        obtain ⟨h3, h4⟩ := prop_some h
        have h5 := lastF_lt (m := l) (s := s) (i := 0) (acc := -1) (by omega)
        have h6 : (s.eraseIdx (lastF l 0 s (-1)).toNat).length = s.length - 1 := List.length_eraseIdx_of_lt (by omega)
        refine ⟨h3, .inr ?_⟩
        rcases h4 with h4 | h4
        · rw [h4, h6]; omega
        · omega
      · cases h
theorem propA_some {num : Int} {l : List Int} {s : List Alr} {c : List Int} (h : propA K num l s = some c) : (next num l c).2 = 0 ∧ (c = susp K num l s true ∨ c.length < (susp K num l s true).length) := by
  unfold propA at h
  split at h
  · cases h
  · exact prop_some h
theorem propA_ok {num : Int} {l : List Int} {s : List Alr} (h1 : susp K num l s true ≠ []) (h2 : susp K num l s false = []) (h3 : (next num l (susp K num l s true)).2 = 0) : propA K num l s = some (susp K num l s true) := by
  unfold propA
  rw [if_neg (by simp [h1, h2])]
  unfold prop
  rw [if_pos h3]
theorem propA_no {num : Int} {l : List Int} {s : List Alr} (h : susp K num l s true = [] ∨ susp K num l s false ≠ []) : propA K num l s = none := by unfold propA; rw [if_pos h]

/-! ### who is a suspect -/
def tot (K : Int → Int → Nat) (l : List Int) (s : List Alr) (x : Int) : Nat := cntA s x + impF s x 0 (obsL K l x)
theorem susp_eq {num : Int} {l : List Int} {s : List Alr} {high : Bool} : susp K num l s high = if okS K num l s then (subsA s).filter (fun x => decide (2 ≤ cntA s x) && (decide (4 ≤ tot K l s x) == high)) else [] := by
  unfold susp tallies
  split
  · rw [List.filter_map, List.map_map]
    have e : (fun x => decide (2 ≤ cntA s x) && (decide (4 ≤ tot K l s x) == high)) = (isS high ∘ tally K l s) := by
      funext x
      show _ = isS high (tally K l s x)
      unfold isS tally tot
      by_cases h : 2 ≤ cntA s x <;> simp [h]
    rw [e]
    exact List.map_id'' (fun x => rfl) _
  · rfl
theorem asc_susp {num : Int} {l : List Int} {s : List Alr} {high : Bool} : Asc (susp K num l s high) := by
  rw [susp_eq]
  split
  · exact List.Pairwise.filter _ (asc_subsA s)
  · unfold Asc; simp
theorem in_subs {s : List Alr} {x : Int} (h : 1 ≤ cntA s x) : x ∈ subsA s := by
  rw [mem_subsA]
  unfold cntA at h
  obtain ⟨a, ha, e⟩ := List.countP_pos_iff.1 h
  exact ⟨a, ha, by simpa using e⟩
theorem mem_susp {num : Int} {l : List Int} {s : List Alr} {high : Bool} (hs : okS K num l s = true) {x : Int} : x ∈ susp K num l s high ↔ 2 ≤ cntA s x ∧ (decide (4 ≤ tot K l s x)) = high := by
  rw [susp_eq, if_pos hs, List.mem_filter]
  simp only [Bool.and_eq_true, decide_eq_true_eq, beq_iff_eq]
  constructor
  · rintro ⟨_, h⟩; exact h
  · rintro ⟨h1, h2⟩; exact ⟨in_subs (by omega), h1, h2⟩
theorem hasA_mem {s : List Alr} {x r : Int} : hasA s x r = true ↔ ∃ a ∈ s, a.subj = x ∧ a.ring = r := by
  unfold hasA; simp
theorem sub_lenN : ∀ {a b : List Nat}, a.Nodup → (∀ x ∈ a, x ∈ b) → a.length ≤ b.length
  | [], b, _, _ => Nat.zero_le _
  | x :: a, b, hn, hs => by
    rw [List.nodup_cons] at hn
    have hx := hs x (by simp)
    have := sub_lenN (a := a) (b := b.erase x) hn.2 fun y hy => (List.mem_erase_of_ne (fun (e : y = x) => hn.1 (by rw [← e]; exact hy))).2 (hs y (by simp [hy]))
    rw [List.length_erase_of_mem hx] at this
    have hp := List.length_pos_of_mem hx
    simp
    omega
/-- In a valid set the number of alerts is the number of the rings that have one. -/
theorem cnt_rings {num : Int} {l : List Int} {s : List Alr} (hs : okS K num l s = true) (x : Int) : cntA s x = (List.range 5).countP fun r : Nat => hasA s x (r : Int) := by
  obtain ⟨_, h1, h2⟩ := okS_iff.1 hs
  unfold cntA
  rw [List.countP_eq_length_filter, List.countP_eq_length_filter]
  have hin : ∀ a ∈ s, 0 ≤ a.ring ∧ a.ring < 5 := fun a ha => by
    have := okA_iff.1 (h1 a ha)
    exact ⟨this.2.2.1, this.2.2.2.1⟩
  have hp : ((s.filter fun y => decide (y.subj = x)).map fun y => y.ring.toNat).Nodup := by
    unfold AscA at h2
    have h3 := h2.filter (fun y => decide (y.subj = x))
    rw [List.nodup_iff_pairwise_ne, List.pairwise_map]
    refine List.Pairwise.imp_of_mem ?_ h3
    intro a b ha hb hl e
    have ea := (List.mem_filter.1 ha).2
    have eb := (List.mem_filter.1 hb).2
    have ia := hin a (List.mem_filter.1 ha).1
    have ib := hin b (List.mem_filter.1 hb).1
    simp at ea eb
    rw [lessA_iff] at hl
    omega
  have hq : ((List.range 5).filter fun r : Nat => hasA s x (r : Int)).Nodup := List.nodup_range.filter _
  have k1 := sub_lenN (b := (List.range 5).filter fun r : Nat => hasA s x (r : Int)) hp fun r hr => by
    obtain ⟨a, ha, rfl⟩ := List.mem_map.1 hr
    have ia := hin a (List.mem_filter.1 ha).1
    have ea := (List.mem_filter.1 ha).2
    simp at ea
    rw [List.mem_filter, List.mem_range]
    refine ⟨by omega, hasA_mem.2 ⟨a, (List.mem_filter.1 ha).1, ea, by omega⟩⟩
  have k2 := sub_lenN (b := (s.filter fun y => decide (y.subj = x)).map fun y => y.ring.toNat) hq fun r hr => by
    rw [List.mem_filter, List.mem_range] at hr
    obtain ⟨a, ha, e1, e2⟩ := hasA_mem.1 hr.2
    rw [List.mem_map]
    exact ⟨a, List.mem_filter.2 ⟨ha, by simpa using e1⟩, by omega⟩
  rw [List.length_map] at k1 k2
  omega
theorem countP_or {α : Type} (p q : α → Bool) : ∀ l : List α, l.countP p + l.countP (fun a => !p a && q a) = l.countP (fun a => p a || q a)
  | [] => rfl
  | a :: t => by
    have := countP_or p q t
    rw [List.countP_cons, List.countP_cons, List.countP_cons]
    cases p a <;> cases q a <;> simp <;> omega
theorem impF_eq {s : List Alr} {x : Int} : ∀ {o : List Int} {r : Nat}, impF s x r o = (List.range o.length).countP fun i => (!hasA s x ((r + i : Nat) : Int)) && decide (2 ≤ cntA s (o.getD i 0))
  | [], r => rfl
  | y :: t, r => by
    unfold impF
    rw [impF_eq (o := t), List.length_cons, List.range_succ_eq_map, List.countP_cons, List.countP_map]
    have e : ((fun i => (!hasA s x ((r + i : Nat) : Int)) && decide (2 ≤ cntA s ((y :: t).getD i 0))) ∘ Nat.succ) = fun i => (!hasA s x ((r + 1 + i : Nat) : Int)) && decide (2 ≤ cntA s (t.getD i 0)) := by
      funext i
      show ((!hasA s x ((r + (i + 1) : Nat) : Int)) && decide (2 ≤ cntA s ((y :: t).getD (i + 1) 0))) = _
      rw [show r + (i + 1) = r + 1 + i by omega]
      simp
    rw [e, Nat.add_comm]
    simp
theorem tot_eq {num : Int} {l : List Int} {s : List Alr} (hs : okS K num l s = true) {x : Int} (ho : (obsL K l x).length = 5) : tot K l s x = (List.range 5).countP fun r : Nat => hasA s x (r : Int) || decide (2 ≤ cntA s ((obsL K l x).getD r 0)) := by
  unfold tot
  rw [cnt_rings hs x, impF_eq, ho]
  simp only [Nat.zero_add]
  exact countP_or _ _ _
theorem obs_of_cnt {num : Int} {l : List Int} {s : List Alr} (hs : okS K num l s = true) {x : Int} (h : 1 ≤ cntA s x) : (obsL K l x).length = 5 := by
  obtain ⟨a, ha, rfl⟩ := mem_subsA.1 (in_subs h)
  have := (okA_iff.1 ((okS_iff.1 hs).2.1 a ha)).2.2.2.2
  rcases obs_cases l a.subj with h1 | h1
  · rw [h1] at this; simp at this
  · exact h1
/-- What CutGrows says. -/
theorem stable_mono {num : Int} {l : List Int} {a b : List Alr} (ha : okS K num l a = true) (hb : okS K num l b = true) (hab : ∀ x ∈ a, x ∈ b) {x : Int} (hx : x ∈ susp K num l a true) : x ∈ susp K num l b true := by
  have hh : ∀ y r : Int, hasA a y r = true → hasA b y r = true := fun y r h => by
    obtain ⟨z, hz, e⟩ := hasA_mem.1 h
    exact hasA_mem.2 ⟨z, hab z hz, e⟩
  have hc : ∀ y, cntA a y ≤ cntA b y := fun y => by
    rw [cnt_rings ha, cnt_rings hb]
    exact List.countP_mono_left fun r _ h => hh y r h
  obtain ⟨h1, h2⟩ := (mem_susp ha).1 hx
  refine (mem_susp hb).2 ⟨Nat.le_trans h1 (hc x), decide_eq_true ?_⟩
  have h3 := of_decide_eq_true h2
  have ho := obs_of_cnt ha (x := x) (by omega)
  rw [tot_eq ha ho] at h3
  rw [tot_eq hb ho]
  refine Nat.le_trans h3 (List.countP_mono_left fun r _ h => ?_)
  simp only [Bool.or_eq_true, decide_eq_true_eq] at h ⊢
  rcases h with h | h
  · exact .inl (hh x r h)
  · exact .inr (Nat.le_trans h (hc _))
/-- What CutNoise says: an alert about a subject without others turns no suspect. -/
theorem noise {num : Int} {l : List Int} {s : List Alr} {p : Alr} (hs : okS K num l s = true) (hp : okA K num l p = true) (h0 : cntA s p.subj = 0) (high : Bool) : susp K num l (putA s p) high = susp K num l s high := by
  obtain ⟨hs', hm⟩ := okS_put hs hp
  have hno : ∀ r : Int, hasA s p.subj r = false := fun r => by
    rw [← Bool.not_eq_true]
    intro h
    obtain ⟨a, ha, e, _⟩ := hasA_mem.1 h
    have : 1 ≤ cntA s p.subj := by unfold cntA; exact List.countP_pos_iff.2 ⟨a, ha, by simpa using e⟩
    omega
  have hh : ∀ y r : Int, y ≠ p.subj → hasA (putA s p) y r = hasA s y r := fun y r hy => by
    rw [Bool.eq_iff_iff, hasA_mem, hasA_mem]
    constructor
    · rintro ⟨a, ha, e1, e2⟩
      rcases (hm a).1 ha with ha | rfl
      · exact ⟨a, ha, e1, e2⟩
      · exact absurd e1.symm hy
    · rintro ⟨a, ha, e⟩
      exact ⟨a, (hm a).2 (.inl ha), e⟩
  have hc : ∀ y, y ≠ p.subj → cntA (putA s p) y = cntA s y := fun y hy => by
    rw [cnt_rings hs', cnt_rings hs]
    exact congrArg (fun f => List.countP f (List.range 5)) (funext fun r => hh y r hy)
  have h1 : cntA (putA s p) p.subj ≤ 1 := by
    rw [cnt_rings hs']
    have : ∀ r : Nat, hasA (putA s p) p.subj (r : Int) = true → (r : Int) = p.ring := fun r h => by
      obtain ⟨a, ha, e1, e2⟩ := hasA_mem.1 h
      rcases (hm a).1 ha with ha | rfl
      · have := hno a.ring
        rw [← Bool.not_eq_true] at this
        exact absurd (hasA_mem.2 ⟨a, ha, e1, rfl⟩) this
      · exact e2.symm
    rw [List.countP_eq_length_filter]
    have hq : ((List.range 5).filter fun r : Nat => hasA (putA s p) p.subj (r : Int)).Nodup := List.nodup_range.filter _
    have := sub_lenN (b := [p.ring.toNat]) hq fun r hr => by
      have := this r (List.mem_filter.1 hr).2
      simp; omega
    simpa using this
  refine Asc.ext asc_susp asc_susp fun y => ?_
  rw [mem_susp hs', mem_susp hs]
  by_cases hy : y = p.subj
  · subst hy
    constructor
    · rintro ⟨h, _⟩; omega
    · rintro ⟨h, _⟩; omega
  · rw [hc y hy]
    constructor
    all_goals
      rintro ⟨h2, h3⟩
      refine ⟨h2, ?_⟩
      rw [← h3]
      have ho := obs_of_cnt hs (x := y) (by omega)
      have e : tot K l (putA s p) y = tot K l s y := by
        rw [tot_eq hs' ho, tot_eq hs ho]
        refine congrArg (fun f => List.countP f (List.range 5)) (funext fun r => ?_)
        rw [hh y r hy]
        by_cases hq : (obsL K l y).getD r 0 = p.subj
        · rw [hq]
          have e1 : decide (2 ≤ cntA (putA s p) p.subj) = false := decide_eq_false (by omega)
          have e2 : decide (2 ≤ cntA s p.subj) = false := decide_eq_false (by omega)
          rw [e1, e2]
        · rw [hc _ hq]
      rw [e]
/-- Sets that have all alerts of some subjects, but for those of some observers: what CutCrash and CutFull say. -/
theorem full {num : Int} {l : List Int} {s : List Alr} {W : List Int} (hs : okS K num l s = true) (hW : Asc W) (hsub : ∀ a ∈ s, a.subj ∈ W) (h2 : ∀ x ∈ W, 2 ≤ cntA s x) (hall : ∀ x ∈ W, ∀ r : Nat, r < 5 → hasA s x (r : Int) = true ∨ (obsL K l x).getD r 0 ∈ W) : susp K num l s true = W ∧ susp K num l s false = [] := by
  have ht : ∀ x ∈ W, tot K l s x = 5 := fun x hx => by
    have ho := obs_of_cnt hs (x := x) (by have := h2 x hx; omega)
    rw [tot_eq hs ho]
    have : (List.range 5).countP (fun r : Nat => hasA s x (r : Int) || decide (2 ≤ cntA s ((obsL K l x).getD r 0))) = (List.range 5).length := List.countP_eq_length.2 (fun (r : Nat) hr => by
      rw [List.mem_range] at hr
      rcases hall x hx r hr with h | h
      · rw [h]; rfl
      · rw [decide_eq_true (h2 _ h)]; simp)
    simpa using this
  have hin : ∀ x, 2 ≤ cntA s x → x ∈ W := fun x h => by
    obtain ⟨a, ha, rfl⟩ := mem_subsA.1 (in_subs (s := s) (x := x) (by omega))
    exact hsub a ha
  constructor
  · refine Asc.ext asc_susp hW fun x => ?_
    rw [mem_susp hs]
    constructor
    · rintro ⟨h, _⟩; exact hin x h
    · intro h
      exact ⟨h2 x h, decide_eq_true (by rw [ht x h]; omega)⟩
  · refine List.eq_nil_iff_forall_not_mem.2 fun x hx => ?_
    obtain ⟨h, h3⟩ := (mem_susp hs).1 hx
    rw [ht x (hin x h)] at h3
    cases h3
end Go.Proofs.YtipipjbpjpdcbaaDoor.Ct
