import Derived.Test.YtmnagkjdnmnbkaaWB
import Derived.Deep.RegionHeld3
import Derived.Deep.LoopGhost
/- Views as data: ascending lists, the effect of a cut, differences, quorums; and the laws of layer 3 as plain mathematics. -/
namespace Go.Proofs.Ytmnagkjdnmnbkaa.V
set_option linter.unusedVariables false
/-! ### ascending lists -/
def isID (x : Int) : Bool := decide (1 ≤ x) && decide (x ≤ 1000)
/-- Strictly ascending identifiers, each greater than p. -/
def riseF (p : Int) : List Int → Bool
  | [] => true
  | x :: t => isID x && decide (p < x) && riseF x t
def rising (l : List Int) : Bool := riseF 0 l
def validM (l : List Int) : Bool := decide (1 ≤ l.length) && decide (l.length ≤ 16) && rising l
def validC (c : List Int) : Bool := decide (1 ≤ c.length) && decide (c.length ≤ 32) && rising c
def validV (num : Int) (l : List Int) : Bool := decide (0 ≤ num) && decide (num ≤ 1099511627776) && validM l
def Asc (l : List Int) : Prop := l.Pairwise (· < ·)
def IDs (l : List Int) : Prop := ∀ x ∈ l, 1 ≤ x ∧ x ≤ 1000
theorem isID_iff {x : Int} : isID x = true ↔ 1 ≤ x ∧ x ≤ 1000 := by simp [isID]
theorem riseF_iff : ∀ {p : Int} {l : List Int}, riseF p l = true ↔ (∀ x ∈ l, p < x) ∧ Asc l ∧ IDs l
  | p, [] => by simp [riseF, Asc, IDs]
  | p, x :: t => by
    simp only [riseF, Bool.and_eq_true, isID_iff, decide_eq_true_eq, riseF_iff (p := x) (l := t), Asc, IDs, List.pairwise_cons, List.mem_cons, forall_eq_or_imp]
    constructor
    · rintro ⟨⟨h1, h2⟩, h3, h4, h5⟩
      exact ⟨⟨h2, fun y hy => by have := h3 y hy; omega⟩, ⟨h3, h4⟩, h1, h5⟩
    · rintro ⟨⟨h1, h2⟩, ⟨h3, h4⟩, h5, h6⟩
      exact ⟨⟨h5, h1⟩, h3, h4, h6⟩
theorem rising_iff {l : List Int} : rising l = true ↔ Asc l ∧ IDs l := by
  unfold rising
  rw [riseF_iff]
  exact ⟨fun h => h.2, fun h => ⟨fun x hx => by have := h.2 x hx; omega, h⟩⟩
theorem validM_iff {l : List Int} : validM l = true ↔ 1 ≤ l.length ∧ l.length ≤ 16 ∧ Asc l ∧ IDs l := by
  simp [validM, rising_iff, and_assoc]
theorem validC_iff {l : List Int} : validC l = true ↔ 1 ≤ l.length ∧ l.length ≤ 32 ∧ Asc l ∧ IDs l := by
  simp [validC, rising_iff, and_assoc]
theorem validV_iff {n : Int} {l : List Int} : validV n l = true ↔ 0 ≤ n ∧ n ≤ 1099511627776 ∧ validM l = true := by
  simp [validV, and_assoc]
/-- An ascending list is what its elements are. -/
theorem Asc.ext : ∀ {a b : List Int}, Asc a → Asc b → (∀ x, x ∈ a ↔ x ∈ b) → a = b
  | [], [], _, _, _ => rfl
  | [], y :: b, _, _, h => by have := (h y).2 (by simp); simp at this
  | x :: a, [], _, _, h => by have := (h x).1 (by simp); simp at this
  | x :: a, y :: b, ha, hb, h => by
    unfold Asc at ha hb
    rw [List.pairwise_cons] at ha hb
    have hxy : x = y := by
      rcases List.mem_cons.1 ((h x).1 (by simp)) with e | hx
      · exact e
      · rcases List.mem_cons.1 ((h y).2 (by simp)) with e | hy
        · exact e.symm
        · have h1 := hb.1 x hx
          have h2 := ha.1 y hy
          omega
    subst hxy
    have hab : a = b := Asc.ext ha.2 hb.2 fun z => by
      constructor
      · intro hz
        rcases List.mem_cons.1 ((h z).1 (by simp [hz])) with e | hz2
        · have := ha.1 z hz; omega
        · exact hz2
      · intro hz
        rcases List.mem_cons.1 ((h z).2 (by simp [hz])) with e | hz2
        · have := hb.1 z hz; omega
        · exact hz2
    rw [hab]
theorem Asc.filter {l : List Int} (h : Asc l) (p : Int → Bool) : Asc (l.filter p) := List.Pairwise.filter p h
theorem IDs.filter {l : List Int} (h : IDs l) (p : Int → Bool) : IDs (l.filter p) := fun x hx => h x (List.mem_filter.1 hx).1
/-! ### the words of the layer -/
def placeF (id : Int) : Nat → List Int → Int
  | _, [] => -1
  | i, x :: t => if x = id then (i : Int) else placeF id (i + 1) t
def place (l : List Int) (id : Int) : Int := placeF id 0 l
def hasB (l : List Int) (id : Int) : Bool := decide (0 ≤ place l id)
theorem placeF_iff : ∀ {id : Int} {l : List Int} {i : Nat}, 0 ≤ placeF id i l ↔ id ∈ l
  | id, [], i => by simp [placeF]
  | id, x :: t, i => by
    unfold placeF
    by_cases h : x = id
    · rw [if_pos h]
      simp [h]
    · rw [if_neg h, placeF_iff (l := t)]
      simp [Ne.symm h]
theorem hasB_iff {l : List Int} {id : Int} : hasB l id = true ↔ id ∈ l := by simp [hasB, place, placeF_iff]
theorem hasB_mem (l : List Int) (id : Int) : hasB l id = decide (id ∈ l) := by
  cases h : hasB l id
  · have : id ∉ l := fun hm => by rw [hasB_iff.2 hm] at h; cases h
    simp [this]
  · simp [hasB_iff.1 h]
def maj (n : Int) : Int := if n < 1 ∨ 16 < n then 0 else n / 2 + 1
def fastQ (n : Int) : Int := if n < 1 ∨ 16 < n then 0 else n - (n - 1) / 4
def among (l m : List Int) (b : Bool) : List Int := l.filter fun x => hasB m x == b
def lvs (num : Int) (l c : List Int) : List Int := if validV num l && validC c then among c l true else []
def jns (num : Int) (l c : List Int) : List Int := if validV num l && validC c then among c l false else []
def svs (num : Int) (l c : List Int) : List Int := if validV num l && validC c then among l c false else []
/-- The sorted union of two lists without a common element. -/
def ins (id : Int) : List Int → List Int
  | [] => [id]
  | x :: t => if id < x then id :: x :: t else x :: ins id t
def insAll (l : List Int) (j : List Int) : List Int := j.foldl (fun s x => ins x s) l
theorem mem_ins {id y : Int} : ∀ {l : List Int}, y ∈ ins id l ↔ y = id ∨ y ∈ l
  | [] => by simp [ins]
  | x :: t => by
    unfold ins
    split
    · simp
    · simp only [List.mem_cons, mem_ins (l := t)]
      constructor
      · rintro (h | h | h)
        · exact .inr (.inl h)
        · exact .inl h
        · exact .inr (.inr h)
      · rintro (h | h | h)
        · exact .inr (.inl h)
        · exact .inl h
        · exact .inr (.inr h)
theorem len_ins {id : Int} : ∀ {l : List Int}, (ins id l).length = l.length + 1
  | [] => rfl
  | x :: t => by
    unfold ins
    split
    · simp
    · simp [len_ins (l := t)]
theorem Asc.ins {id : Int} : ∀ {l : List Int}, Asc l → id ∉ l → Asc (ins id l)
  | [], _, _ => by simp [V.ins, Asc]
  | x :: t, h, hn => by
    unfold Asc at h ⊢
    unfold V.ins
    rw [List.pairwise_cons] at h
    have hne : x ≠ id := fun e => hn (by simp [e])
    split
    · rename_i hlt
      rw [List.pairwise_cons, List.pairwise_cons]
      refine ⟨fun y hy => ?_, h⟩
      rcases List.mem_cons.1 hy with e | hy
      · omega
      · have := h.1 y hy; omega
    · rename_i hlt
      rw [List.pairwise_cons]
      refine ⟨fun y hy => ?_, Asc.ins h.2 fun hm => hn (by simp [hm])⟩
      rcases mem_ins.1 hy with e | hy
      · omega
      · exact h.1 y hy
theorem mem_insAll {y : Int} : ∀ {j l : List Int}, y ∈ insAll l j ↔ y ∈ l ∨ y ∈ j
  | [], l => by simp [insAll]
  | x :: j, l => by
    have := mem_insAll (y := y) (j := j) (l := ins x l)
    unfold insAll at this ⊢
    rw [List.foldl_cons, this, mem_ins, List.mem_cons]
    constructor
    · rintro ((h | h) | h)
      · exact .inr (.inl h)
      · exact .inl h
      · exact .inr (.inr h)
    · rintro (h | h | h)
      · exact .inl (.inr h)
      · exact .inl (.inl h)
      · exact .inr h
theorem len_insAll : ∀ {j l : List Int}, (insAll l j).length = l.length + j.length
  | [], l => rfl
  | x :: j, l => by
    have := len_insAll (j := j) (l := ins x l)
    unfold insAll at this ⊢
    rw [List.foldl_cons, this, len_ins, List.length_cons]
    omega
theorem Asc.insAll : ∀ {j l : List Int}, Asc l → Asc j → (∀ x ∈ j, x ∉ l) → Asc (insAll l j)
  | [], l, h, _, _ => h
  | x :: j, l, h, hj, hd => by
    unfold Asc at hj
    rw [List.pairwise_cons] at hj
    have := Asc.insAll (j := j) (l := V.ins x l) (h.ins (hd x (by simp))) hj.2 (fun y hy hm => by
      rcases mem_ins.1 hm with e | hm
      · have := hj.1 y hy; omega
      · exact hd y (by simp [hy]) hm)
    unfold V.insAll at this ⊢
    rw [List.foldl_cons]
    exact this
/-- The view behind a cut: number, members, error. -/
def next (num : Int) (l c : List Int) : (Int × List Int) × Nat :=
  if (validV num l && validC c) = false then ((0, []), 1)
  else if 2 * (svs num l c).length ≤ l.length then ((0, []), 9)
  else if num = 1099511627776 ∨ 16 < (svs num l c).length + (jns num l c).length then ((0, []), 5)
  else ((num + 1, insAll (svs num l c) (jns num l c)), 0)
def diff (n1 : Int) (a : List Int) (n2 : Int) (b : List Int) : List Int :=
  if validV n1 a && validV n2 b then insAll (among a b false) (among b a false) else []
theorem mem_among {l m : List Int} {b : Bool} {x : Int} : x ∈ among l m b ↔ x ∈ l ∧ (decide (x ∈ m) = b) := by
  unfold among
  rw [List.mem_filter, hasB_mem]
  simp
theorem among_asc {l m : List Int} {b : Bool} (h : Asc l) : Asc (among l m b) := h.filter _
/-- Two ascending lists: what is common is the same from either side. -/
theorem among_comm {l m : List Int} (hl : Asc l) (hm : Asc m) : among l m true = among m l true :=
  Asc.ext (among_asc hl) (among_asc hm) fun x => by simp [mem_among, and_comm]
theorem filter_len (p : Int → Bool) : ∀ l : List Int, (l.filter fun x => p x == true).length + (l.filter fun x => p x == false).length = l.length
  | [] => rfl
  | x :: t => by
    have := filter_len p t
    rw [List.filter_cons, List.filter_cons]
    cases hx : p x <;> simp at this ⊢ <;> omega
theorem among_len (l m : List Int) : (among l m true).length + (among l m false).length = l.length := filter_len _ l
theorem valid_parts {num : Int} {l c : List Int} (h : (validV num l && validC c) = true) :
    0 ≤ num ∧ num ≤ 1099511627776 ∧ 1 ≤ l.length ∧ l.length ≤ 16 ∧ Asc l ∧ IDs l ∧ 1 ≤ c.length ∧ c.length ≤ 32 ∧ Asc c ∧ IDs c := by
  rw [Bool.and_eq_true, validV_iff, validM_iff, validC_iff] at h
  obtain ⟨⟨h1, h2, h3, h4, h5, h6⟩, h7, h8, h9, h10⟩ := h
  exact ⟨h1, h2, h3, h4, h5, h6, h7, h8, h9, h10⟩
theorem lvs_eq {num : Int} {l c : List Int} (h : (validV num l && validC c) = true) : lvs num l c = among c l true := by unfold lvs; rw [if_pos h]
theorem jns_eq {num : Int} {l c : List Int} (h : (validV num l && validC c) = true) : jns num l c = among c l false := by unfold jns; rw [if_pos h]
theorem svs_eq {num : Int} {l c : List Int} (h : (validV num l && validC c) = true) : svs num l c = among l c false := by unfold svs; rw [if_pos h]
/-- A cut is the leavers and the joiners, the members are the leavers and the survivors. -/
theorem parts_len {num : Int} {l c : List Int} (h : (validV num l && validC c) = true) :
    (lvs num l c).length + (jns num l c).length = c.length ∧ (lvs num l c).length + (svs num l c).length = l.length := by
  obtain ⟨_, _, _, _, hl, _, _, _, hc, _⟩ := valid_parts h
  rw [lvs_eq h, jns_eq h, svs_eq h]
  refine ⟨among_len c l, ?_⟩
  rw [among_comm hc hl]
  exact among_len l c
theorem parts_mem {num : Int} {l c : List Int} (h : (validV num l && validC c) = true) (x : Int) :
    (x ∈ lvs num l c ↔ x ∈ l ∧ x ∈ c) ∧ (x ∈ jns num l c ↔ x ∈ c ∧ x ∉ l) ∧ (x ∈ svs num l c ↔ x ∈ l ∧ x ∉ c) := by
  rw [lvs_eq h, jns_eq h, svs_eq h]
  simp [mem_among, and_comm]
theorem parts_asc {num : Int} {l c : List Int} (h : (validV num l && validC c) = true) : Asc (lvs num l c) ∧ Asc (jns num l c) ∧ Asc (svs num l c) := by
  obtain ⟨_, _, _, _, hl, _, _, _, hc, _⟩ := valid_parts h
  rw [lvs_eq h, jns_eq h, svs_eq h]
  exact ⟨among_asc hc, among_asc hc, among_asc hl⟩
/-- What a view behind an applicable cut is. -/
structure NextOk (num : Int) (l c : List Int) (num' : Int) (l' : List Int) : Prop where
  val : (validV num l && validC c) = true
  more : l.length < 2 * (svs num l c).length
  lt : num < 1099511627776
  nx : num' = num + 1
  eq : l' = insAll (svs num l c) (jns num l c)
  len : l'.length = (svs num l c).length + (jns num l c).length
  le : l'.length ≤ 16
  asc : Asc l'
  ids : IDs l'
  mem : ∀ x, x ∈ l' ↔ (x ∈ l ∧ x ∉ c) ∨ (x ∈ c ∧ x ∉ l)
  valid : validV num' l' = true
theorem next_ok {num num' : Int} {l c l' : List Int} (h : next num l c = ((num', l'), 0)) : NextOk num l c num' l' := by
  unfold next at h
  split at h
  · simp at h
  · rename_i hv
    split at h
    · simp at h
    · rename_i hm
      split at h
      · simp at h
      · rename_i hlim
        simp only [Prod.mk.injEq, and_true] at h
        obtain ⟨h1, h2⟩ := h
        have hv' : (validV num l && validC c) = true := by cases hb : (validV num l && validC c) <;> simp_all
        obtain ⟨a1, a2, a3, a4, hl, il, a5, a6, hc, ic⟩ := valid_parts hv'
        obtain ⟨_, pj, ps⟩ := parts_asc hv'
        have hmem : ∀ x, x ∈ l' ↔ (x ∈ l ∧ x ∉ c) ∨ (x ∈ c ∧ x ∉ l) := fun x => by
          rw [← h2, mem_insAll, (parts_mem hv' x).2.1, (parts_mem hv' x).2.2]
        have hasc : Asc l' := by
          rw [← h2]
          exact Asc.insAll ps pj fun x hx hs => ((parts_mem hv' x).2.1.1 hx).2 ((parts_mem hv' x).2.2.1 hs).1
        have hlen : l'.length = (svs num l c).length + (jns num l c).length := by rw [← h2, len_insAll]
        have hids : IDs l' := fun x hx => by
          rcases (hmem x).1 hx with hx | hx
          · exact il x hx.1
          · exact ic x hx.1
        have h3 : ¬ num = 1099511627776 := fun e => hlim (.inl e)
        have h4 : ¬ 16 < (svs num l c).length + (jns num l c).length := fun e => hlim (.inr e)
        refine ⟨hv', by omega, by omega, h1.symm, h2.symm, hlen, by omega, hasc, hids, hmem, ?_⟩
        rw [validV_iff, validM_iff]
        exact ⟨by omega, by omega, by omega, by omega, hasc, hids⟩
theorem mem_diff {n1 n2 : Int} {a b : List Int} (h : (validV n1 a && validV n2 b) = true) (x : Int) : x ∈ diff n1 a n2 b ↔ (x ∈ a ∧ x ∉ b) ∨ (x ∈ b ∧ x ∉ a) := by
  unfold diff
  rw [if_pos h, mem_insAll, mem_among, mem_among]
  simp
theorem diff_asc {n1 n2 : Int} {a b : List Int} (h : (validV n1 a && validV n2 b) = true) : Asc (diff n1 a n2 b) := by
  have h' := h
  rw [Bool.and_eq_true, validV_iff, validV_iff, validM_iff, validM_iff] at h'
  obtain ⟨⟨_, _, _, _, ha, _⟩, _, _, _, _, hb, _⟩ := h'
  unfold diff
  rw [if_pos h]
  refine Asc.insAll (among_asc ha) (among_asc hb) fun x hx hx2 => ?_
  rw [mem_among] at hx hx2
  have := hx2.2
  simp at this hx
  exact this hx.1
theorem diff_comm {n1 n2 : Int} {a b : List Int} : diff n1 a n2 b = diff n2 b n1 a := by
  by_cases h : (validV n1 a && validV n2 b) = true
  · have h2 : (validV n2 b && validV n1 a) = true := by rw [Bool.and_comm]; exact h
    refine Asc.ext (diff_asc h) (diff_asc h2) fun x => ?_
    rw [mem_diff h, mem_diff h2, or_comm]
  · have h2 : ¬ (validV n2 b && validV n1 a) = true := by rw [Bool.and_comm]; exact h
    unfold diff
    rw [if_neg h, if_neg h2]
theorem diff_self {n1 n2 : Int} {a : List Int} : diff n1 a n2 a = [] := by
  by_cases h : (validV n1 a && validV n2 a) = true
  · refine List.eq_nil_iff_forall_not_mem.2 fun x hx => ?_
    rcases (mem_diff h x).1 hx with hx | hx <;> exact hx.2 hx.1
  · unfold diff; rw [if_neg h]
/-- The difference of a view and the next one is the cut. -/
theorem diff_next {num num' : Int} {l c l' : List Int} (h : next num l c = ((num', l'), 0)) : diff num l num' l' = c ∧ diff num' l' num l = c := by
  have H := next_ok h
  obtain ⟨a1, a2, a3, a4, hl, il, a5, a6, hc, ic⟩ := valid_parts H.val
  have hv : validV num l = true := by have := H.val; rw [Bool.and_eq_true] at this; exact this.1
  have hd : (validV num l && validV num' l') = true := by rw [hv, H.valid]; rfl
  have h1 : diff num l num' l' = c := Asc.ext (diff_asc hd) hc fun x => by
    rw [mem_diff hd, H.mem]
    by_cases hx : x ∈ l <;> by_cases hy : x ∈ c <;> simp [hx, hy]
  exact ⟨h1, by rw [diff_comm]; exact h1⟩
/-- A cut applied twice leads back. -/
theorem next_back {num num' num2 : Int} {l c l' l2 : List Int} (h : next num l c = ((num', l'), 0)) (h2 : next num' l' c = ((num2, l2), 0)) : num2 = num + 2 ∧ l2 = l := by
  have H := next_ok h
  have H2 := next_ok h2
  obtain ⟨_, _, _, _, hl, _⟩ := valid_parts H.val
  refine ⟨by rw [H2.nx, H.nx]; omega, Asc.ext H2.asc hl fun x => ?_⟩
  rw [H2.mem, H.mem]
  by_cases hx : x ∈ l <;> by_cases hy : x ∈ c <;> simp [hx, hy]
theorem next_err {num num' : Int} {l c l' : List Int} {e : Nat} (h : next num l c = ((num', l'), e)) (he : e ≠ 0) : num' = 0 ∧ l' = [] := by
  unfold next at h
  split at h
  · simp at h; exact ⟨h.1.1.symm, h.1.2⟩
  · split at h
    · simp at h; exact ⟨h.1.1.symm, h.1.2⟩
    · split at h
      · simp at h; exact ⟨h.1.1.symm, h.1.2⟩
      · simp at h; omega
/-! ### quorums: how many bits are 1 -/
def pop : Nat → Nat → Nat
  | 0, _ => 0
  | k + 1, x => x % 2 + pop k (x / 2)
theorem pop_le : ∀ (k x : Nat), pop k x ≤ k
  | 0, _ => Nat.le_refl _
  | k + 1, x => by
    have := pop_le k (x / 2)
    show x % 2 + pop k (x / 2) ≤ _
    omega
theorem and_half (x y : Nat) : (x &&& y) / 2 = (x / 2) &&& (y / 2) := by
  rw [← Nat.shiftRight_eq_div_pow _ 1, ← Nat.shiftRight_eq_div_pow _ 1, ← Nat.shiftRight_eq_div_pow _ 1, Nat.shiftRight_and_distrib]
theorem and_odd (x y : Nat) : (x &&& y) % 2 = (x % 2) * (y % 2) := by
  have h := Nat.testBit_and x y 0
  rw [Nat.testBit_zero, Nat.testBit_zero, Nat.testBit_zero] at h
  have hx : x % 2 = 0 ∨ x % 2 = 1 := by omega
  have hy : y % 2 = 0 ∨ y % 2 = 1 := by omega
  have hz : (x &&& y) % 2 = 0 ∨ (x &&& y) % 2 = 1 := by omega
  rcases hx with hx | hx <;> rcases hy with hy | hy <;> rcases hz with hz | hz <;> simp_all
theorem pop_two : ∀ (k x y : Nat), x &&& y = 0 → pop k x + pop k y ≤ k
  | 0, _, _, _ => Nat.le_refl _
  | k + 1, x, y, h => by
    have h1 := and_half x y
    have h2 := and_odd x y
    rw [h] at h1 h2
    have ih := pop_two k (x / 2) (y / 2) h1.symm
    show x % 2 + pop k (x / 2) + (y % 2 + pop k (y / 2)) ≤ _
    have hx : x % 2 = 0 ∨ x % 2 = 1 := by omega
    have hy : y % 2 = 0 ∨ y % 2 = 1 := by omega
    rcases hx with hx | hx <;> rcases hy with hy | hy <;> rw [hx, hy] at h2 <;> omega
theorem pop_three : ∀ (k x y z : Nat), x &&& y &&& z = 0 → pop k x + pop k y + pop k z ≤ 2 * k
  | 0, _, _, _, _ => Nat.le_refl _
  | k + 1, x, y, z, h => by
    have h1 := and_half (x &&& y) z
    rw [and_half x y] at h1
    have h2 := and_odd (x &&& y) z
    rw [and_odd x y] at h2
    rw [h] at h1 h2
    have ih := pop_three k (x / 2) (y / 2) (z / 2) h1.symm
    show x % 2 + pop k (x / 2) + (y % 2 + pop k (y / 2)) + (z % 2 + pop k (z / 2)) ≤ _
    have hx : x % 2 = 0 ∨ x % 2 = 1 := by omega
    have hy : y % 2 = 0 ∨ y % 2 = 1 := by omega
    have hz : z % 2 = 0 ∨ z % 2 = 1 := by omega
    rcases hx with hx | hx <;> rcases hy with hy | hy <;> rcases hz with hz | hz <;> rw [hx, hy, hz] at h2 <;> omega
/-- Two majorities have a member in common. -/
theorem maj_two {k x y : Nat} (h1 : 1 ≤ k) (h2 : k ≤ 16) (hx : maj k ≤ (pop k x : Int)) (hy : maj k ≤ (pop k y : Int)) : x &&& y ≠ 0 := by
  intro h
  have := pop_two k x y h
  have e : maj k = (k : Int) / 2 + 1 := by unfold maj; rw [if_neg (by omega)]
  omega
/-- Two fast quorums and a majority, too. -/
theorem fast_three {k x y z : Nat} (h1 : 1 ≤ k) (h2 : k ≤ 16) (hx : fastQ k ≤ (pop k x : Int)) (hy : fastQ k ≤ (pop k y : Int)) (hz : maj k ≤ (pop k z : Int)) : x &&& y &&& z ≠ 0 := by
  intro h
  have := pop_three k x y z h
  have e : maj k = (k : Int) / 2 + 1 := by unfold maj; rw [if_neg (by omega)]
  have e2 : fastQ k = (k : Int) - ((k : Int) - 1) / 4 := by unfold fastQ; rw [if_neg (by omega)]
  omega
theorem quorum_order {k : Nat} (h1 : 1 ≤ k) (h2 : k ≤ 16) : 1 ≤ maj k ∧ maj k ≤ fastQ k ∧ fastQ k ≤ k := by
  have e : maj k = (k : Int) / 2 + 1 := by unfold maj; rw [if_neg (by omega)]
  have e2 : fastQ k = (k : Int) - ((k : Int) - 1) / 4 := by unfold fastQ; rw [if_neg (by omega)]
  omega
/-- The loop of 'ones': what is left to count, and how wide it is. -/
theorem pop_zero : ∀ k, pop k 0 = 0
  | 0 => rfl
  | k + 1 => by show 0 % 2 + pop k (0 / 2) = 0; simp [pop_zero k]
end Go.Proofs.Ytmnagkjdnmnbkaa.V

/- The reference of layer 3: identifiers, ascending lists, places, quorums. -/
namespace Go.Proofs.Ytmnagkjdnmnbkaa.V
set_option linter.unusedVariables false
open Go.RowKit
open Go.Proofs.Ytmnagkjdnmnbkaa.W

def GivesB (w : World) (b : Bool) (e : Ending) (w' : World) : Prop := e = .returned (.bool b) ∧ ∃ k, w' = w.drewN k
theorem retB' {a b : Bool} (h : b = a) : Ending.returned (.bool a) = Ending.returned (.bool b) := by rw [h]
theorem quiet_left {P : Program} {f : FuncId} {args : Array Value} {w : World} {k n : Nat} {v : Value}
    (h : Calls P f args (w.drewN (k + n)) fun e w' => e = .returned v ∧ w.drewN (k + n) = w') : Calls P f args (w.drewN (k + n)) fun e w'' => e = .returned v ∧ ∃ m, w'' = w.drewN (k + m) :=
  h.mono fun _ _ ⟨he, hm⟩ => ⟨he, n, hm.symm⟩
set_option maxRecDepth 100000 in
theorem refIsID_any (x : Int) (w : World) (hx : In64 x) : Calls Try.prog 59 #[.int .i64 x] w fun e w' => e = .returned (.bool (isID x)) ∧ w = w' := by
  obtain ⟨h1, h2⟩ := hx
  by_cases ha : 1 ≤ x
  · by_cases hb : x ≤ 1000
    · have hr := Lib.hid (show isID x = true by simp [isID, ha, hb])
      go_enter Try.func59, Try.ntmps59
      go_wp2
      go_ret
      exact ⟨retB' hr.out, rfl⟩
    · have hr := Lib.hid (show isID x = false by simp [isID, ha, hb])
      go_enter Try.func59, Try.ntmps59
      go_wp2
      go_ret
      exact ⟨retB' hr.out, rfl⟩
  · have hr := Lib.hid (show isID x = false by simp [isID, ha])
    go_enter Try.func59, Try.ntmps59
    go_wp2
    go_ret
    exact ⟨retB' hr.out, rfl⟩
set_option maxRecDepth 100000 in
set_option maxHeartbeats 1000000 in
theorem refRising_any (L : Option Addr) (c B : Nat) (l : List Int) (w : World) (hr : Reads w B 1 L l.length (l.map intV)) (hl : l.length ≤ 1099511627776) (hel : ∀ x ∈ l, In64 x) :
    Calls Try.prog 48 #[.slice L l.length c] w (GivesB w (rising l)) := by
  go_enter Try.func48, Try.ntmps48
  go_wp2
  go_loopw [3] (fun j wr => ∃ (k m : Nat) (p : Int), k ≤ l.length ∧ j = .int .i64 k ∧ wr = w.drewN m ∧ (k = 0 → p = 0) ∧ (∀ q, k = q + 1 → l[q]? = some p) ∧ riseF p (l.drop k) = rising l) (fun j _ => l.length - (intOf j).toNat)
  case atStart => exact ⟨0, 0, 0, Nat.zero_le _, rfl, rfl, fun _ => rfl, fun q h => by omega, rfl⟩
  case round =>
    obtain ⟨k, m, p, hk, rfl, rfl, hp0, hpk, hd⟩ := hrel
    by_cases hlt : k < l.length
    · obtain ⟨ad, u, rfl, _, hx, hcell⟩ := hr.at_ hlt
      have hux : u = .int .i64 l[k] := by simp [hlt, intV] at hx; exact hx.symm
      rw [hux] at hcell
      have hdk : l.drop k = l[k] :: l.drop (k + 1) := List.drop_eq_getElem_cons hlt
      have hgk : l[k]? = some l[k] := List.getElem?_eq_getElem hlt
      have hxs := hel l[k] (List.getElem_mem hlt)
      generalize l[k] = x at *
      rw [hdk] at hd
      have HD := Lib.hid hd
      have HG := Lib.hid hgk
      have CI := Lib.hid (fun n => refIsID_any x (w.drewN (m + n)) hxs)
      have hlt2 : (k : Int) < (l.length : Int) := by omega
      clear hd hdk hx hux hgk
      cases hid : isID x
      · have ht := Lib.hid (show rising l = false by rw [← HD.out]; simp [riseF, hid])
        rw [hid] at CI
        go_wp2_with fail
        go_quiet (first | (go_at_call 59; with_reducible exact quiet_left (CI.out _)))
        go_wp2_with fail
        go_ret
        exact ⟨retB' ht.out, _, World.drewN_drewN _ _ _⟩
      · rw [hid] at CI
        have hx1 := isID_iff.1 hid
        by_cases hk0 : k = 0
        · subst hk0
          have hp : p = 0 := hp0 rfl
          have hcell0 : w.cell? ad = some (.int .i64 x) := by simpa [Addr.add] using hcell
          have hpos : (0 : Int) < (l.length : Int) := by omega
          clear hcell
          have ht := Lib.hid (show riseF x (l.drop 1) = rising l by rw [← HD.out, hp]; simp [riseF, hid]; omega)
          go_wp2_with fail
          go_quiet (first | (go_at_call 59; with_reducible exact quiet_left (CI.out _)))
          go_wp2_with fail
          go_roundw
          case rel => exact ⟨1, _, x, by omega, by go_num, rfl, fun h => by omega, fun q hq => by obtain rfl : q = 0 := (by omega); exact HG.out, ht.out⟩
          case measure => simp [intOf]; omega
        · obtain ⟨q, hkq⟩ : ∃ q, k = q + 1 := ⟨k - 1, by omega⟩
          have hgp := hpk q hkq
          have wq : IntKind.i64.wrap ((k : Int) - 1) = (q : Int) := by rw [IntWalk.i64_in _ (by omega)]; omega
          have hkp : (0 : Int) < (k : Int) := by omega
          have hkn : 0 < k := by omega
          have hkd : decide (0 < k) = true := by simpa using hkn
          have hql : (q : Int) < (l.length : Int) := by omega
          have hql2 : q < l.length := by omega
          obtain ⟨ad', u', hA, _, hx', hcell'⟩ := hr.at_ (k := q) (by omega)
          obtain rfl := Option.some.inj hA
          have hu' : u' = .int .i64 p := by simp [hgp, intV] at hx'; exact hx'.symm
          rw [hu'] at hcell'
          clear hx' hu' hp0 hpk hkq hk0
          by_cases hle : x ≤ p
          · have ht := Lib.hid (show rising l = false by rw [← HD.out]; simp [riseF]; omega)
            go_wp2_with fail
            go_quiet (first | (go_at_call 59; with_reducible exact quiet_left (CI.out _)))
            go_wp2_with fail
            go_ret
            exact ⟨retB' ht.out, _, World.drewN_drewN _ _ _⟩
          · have ht := Lib.hid (show riseF x (l.drop (k + 1)) = rising l by rw [← HD.out]; simp [riseF, hid]; omega)
            go_wp2_with fail
            go_quiet (first | (go_at_call 59; with_reducible exact quiet_left (CI.out _)))
            go_wp2_with fail
            go_roundw
            case rel => exact ⟨k + 1, _, x, by omega, by go_num, rfl, fun h => by omega, fun r hq => by obtain rfl : r = k := (by omega); exact HG.out, ht.out⟩
            case measure => simp [intOf]; omega
    · have ht := Lib.hid (show rising l = true by rw [← hd, List.drop_eq_nil_of_le (by omega)]; rfl)
      have hlt2 : ¬ (k : Int) < (l.length : Int) := by omega
      clear hd
      go_wp2
      go_ret
      exact ⟨retB' ht.out, _, rfl⟩
set_option maxRecDepth 100000 in
set_option maxHeartbeats 400000 in
theorem refValidM_any (L : Option Addr) (c B : Nat) (l : List Int) (w : World) (hr : Reads w B 1 L l.length (l.map intV)) (hl : l.length ≤ 1099511627776) (hel : ∀ x ∈ l, In64 x) :
    Calls Try.prog 39 #[.slice L l.length c] w (GivesB w (validM l)) := by
  have CR := Lib.hid (refRising_any L c B l w hr hl hel)
  by_cases h1 : 1 ≤ l.length
  · by_cases h2 : l.length ≤ 16
    · have ht := Lib.hid (show validM l = rising l by simp [validM, h1, h2])
      have f1 : (1 : Int) ≤ (l.length : Int) := by omega
      have f2 : (l.length : Int) ≤ 16 := by omega
      clear hr hel
      go_enter Try.func39, Try.ntmps39
      go_wp2_with (go_at_call 48; refine CR.out.mono ?_; rintro e w1 ⟨rfl, q, rfl⟩)
      go_ret
      exact ⟨retB' ht.out, _, rfl⟩
    · have ht := Lib.hid (show validM l = false by simp [validM, h1, h2])
      have f1 : (1 : Int) ≤ (l.length : Int) := by omega
      have f2 : ¬ (l.length : Int) ≤ 16 := by omega
      clear hr hel CR
      go_enter Try.func39, Try.ntmps39
      go_wp2_with fail
      go_ret
      exact ⟨retB' ht.out, 0, rfl⟩
  · have ht := Lib.hid (show validM l = false by simp [validM, h1])
    have f1 : ¬ (1 : Int) ≤ (l.length : Int) := by omega
    clear hr hel CR
    go_enter Try.func39, Try.ntmps39
    go_wp2_with fail
    go_ret
    exact ⟨retB' ht.out, 0, rfl⟩
set_option maxRecDepth 100000 in
set_option maxHeartbeats 400000 in
theorem refValidC_any (L : Option Addr) (c B : Nat) (l : List Int) (w : World) (hr : Reads w B 1 L l.length (l.map intV)) (hl : l.length ≤ 1099511627776) (hel : ∀ x ∈ l, In64 x) :
    Calls Try.prog 54 #[.slice L l.length c] w (GivesB w (validC l)) := by
  have CR := Lib.hid (refRising_any L c B l w hr hl hel)
  by_cases h1 : 1 ≤ l.length
  · by_cases h2 : l.length ≤ 32
    · have ht := Lib.hid (show validC l = rising l by simp [validC, h1, h2])
      have f1 : (1 : Int) ≤ (l.length : Int) := by omega
      have f2 : (l.length : Int) ≤ 32 := by omega
      clear hr hel
      go_enter Try.func54, Try.ntmps54
      go_wp2_with (go_at_call 48; refine CR.out.mono ?_; rintro e w1 ⟨rfl, q, rfl⟩)
      go_ret
      exact ⟨retB' ht.out, _, rfl⟩
    · have ht := Lib.hid (show validC l = false by simp [validC, h1, h2])
      have f1 : (1 : Int) ≤ (l.length : Int) := by omega
      have f2 : ¬ (l.length : Int) ≤ 32 := by omega
      clear hr hel CR
      go_enter Try.func54, Try.ntmps54
      go_wp2_with fail
      go_ret
      exact ⟨retB' ht.out, 0, rfl⟩
  · have ht := Lib.hid (show validC l = false by simp [validC, h1])
    have f1 : ¬ (1 : Int) ≤ (l.length : Int) := by omega
    clear hr hel CR
    go_enter Try.func54, Try.ntmps54
    go_wp2_with fail
    go_ret
    exact ⟨retB' ht.out, 0, rfl⟩
theorem retI64 {a b : Int} (h : a = b) : Ending.returned (.int .i64 a) = Ending.returned (.int .i64 b) := by rw [h]
set_option maxRecDepth 100000 in
set_option maxHeartbeats 400000 in
theorem refPlace_any (L : Option Addr) (c B : Nat) (l : List Int) (id : Int) (w : World) (hr : Reads w B 1 L l.length (l.map intV)) (hl : l.length ≤ 1099511627776) :
    Calls Try.prog 45 #[.slice L l.length c, .int .i64 id] w fun e w' => e = .returned (.int .i64 (place l id)) ∧ w = w' := by
  go_enter Try.func45, Try.ntmps45
  go_wp2
  go_loop [5] (fun j => ∃ k : Nat, k ≤ l.length ∧ j = .int .i64 k ∧ placeF id k (l.drop k) = place l id) (fun j => l.length - (intOf j).toNat)
  case atStart => exact ⟨0, Nat.zero_le _, rfl, rfl⟩
  case round =>
    obtain ⟨k, hk, rfl, hd⟩ := hrel
    by_cases hlt : k < l.length
    · obtain ⟨ad, u, rfl, _, hx, hcell⟩ := hr.at_ hlt
      have hux : u = .int .i64 l[k] := by simp [hlt, intV] at hx; exact hx.symm
      rw [hux] at hcell
      have hdk : l.drop k = l[k] :: l.drop (k + 1) := List.drop_eq_getElem_cons hlt
      generalize l[k] = x at *
      rw [hdk] at hd
      have HD := Lib.hid hd
      have hlt2 : (k : Int) < (l.length : Int) := by omega
      clear hd hdk hx hux
      by_cases hxe : x = id
      · subst hxe
        have ht := Lib.hid (show (k : Int) = place l x by rw [← HD.out]; simp [placeF])
        go_wp2_with fail
        go_ret
        exact ⟨retI64 ht.out, rfl⟩
      · have fe : (x == id) = false := beqF hxe
        have ht := Lib.hid (show placeF id (k + 1) (l.drop (k + 1)) = place l id by rw [← HD.out, placeF, if_neg hxe])
        clear hxe
        go_wp2_with fail
        go_round
        case rel => exact ⟨k + 1, by omega, by go_num, ht.out⟩
        case measure => simp [intOf]; omega
    · have ht := Lib.hid (show (-1 : Int) = place l id by rw [← hd, List.drop_eq_nil_of_le (by omega)]; rfl)
      have hlt2 : ¬ (k : Int) < (l.length : Int) := by omega
      clear hd
      go_wp2
      go_ret
      exact ⟨retI64 ht.out, rfl⟩
set_option maxRecDepth 100000 in
theorem refContains_any (L : Option Addr) (c B : Nat) (l : List Int) (id : Int) (w : World) (hr : Reads w B 1 L l.length (l.map intV)) (hl : l.length ≤ 1099511627776) :
    Calls Try.prog 31 #[.slice L l.length c, .int .i64 id] w fun e w' => e = .returned (.bool (hasB l id)) ∧ w = w' := by
  have C := Lib.hid (refPlace_any L c B l id w hr hl)
  by_cases h : 0 ≤ place l id
  · have ht := Lib.hid (show hasB l id = true by simpa [hasB] using h)
    generalize place l id = p at *
    go_enter Try.func31, Try.ntmps31
    go_wp2_with (go_at_call 45; refine C.out.mono ?_; rintro e w1 ⟨rfl, rfl⟩)
    go_ret
    exact ⟨retB' ht.out, rfl⟩
  · have ht := Lib.hid (show hasB l id = false by simpa [hasB] using h)
    generalize place l id = p at *
    go_enter Try.func31, Try.ntmps31
    go_wp2_with (go_at_call 45; refine C.out.mono ?_; rintro e w1 ⟨rfl, rfl⟩)
    go_ret
    exact ⟨retB' (by rw [ht.out]; exact (decide_eq_false (by omega)).symm), rfl⟩
set_option maxRecDepth 100000 in
theorem refFast_any (n : Int) (w : World) (hn : In64 n) : Calls Try.prog 38 #[.int .i64 n] w fun e w' => e = .returned (.int .i64 (fastQ n)) ∧ w = w' := by
  obtain ⟨h1, h2⟩ := hn
  by_cases ha : n < 1
  · have ht := Lib.hid (show (0 : Int) = fastQ n by unfold fastQ; rw [if_pos (.inl ha)])
    go_enter Try.func38, Try.ntmps38
    go_wp2
    go_ret
    exact ⟨retI64 ht.out, rfl⟩
  · by_cases hb : 16 < n
    · have ht := Lib.hid (show (0 : Int) = fastQ n by unfold fastQ; rw [if_pos (.inr hb)])
      go_enter Try.func38, Try.ntmps38
      go_wp2
      go_ret
      exact ⟨retI64 ht.out, rfl⟩
    · have ht := Lib.hid (show n - (n - 1) / 4 = fastQ n by unfold fastQ; rw [if_neg (by omega)])
      go_enter Try.func38, Try.ntmps38
      go_wp2
      go_ret
      exact ⟨retI64 (by rw [← ht.out]; try omega), rfl⟩
end Go.Proofs.Ytmnagkjdnmnbkaa.V

/- The reference of layer 3: Valid, Among, Leavers, Joiners, Survivors, Insert. -/
namespace Go.Proofs.Ytmnagkjdnmnbkaa.V
set_option linter.unusedVariables false
open Go.RowKit
open Go.Proofs.Ytmnagkjdnmnbkaa.W

/-- A view as the program holds it. -/
def vwV (num : Int) (A : Option Addr) (n c : Nat) : Value := .agg #[.int .i64 num, .slice A n c]
structure VW (w : World) (B : Nat) (num : Int) (l : List Int) (A : Option Addr) (c : Nat) : Prop where
  num64 : In64 num
  rd : Reads w B 1 A l.length (l.map intV)
  l40 : l.length ≤ 1099511627776
  el : ∀ x ∈ l, In64 x
  cap : l.length ≤ c
theorem VW.below {w W : World} {B : Nat} {num : Int} {l : List Int} {A : Option Addr} {c : Nat} (h : VW w B num l A c) (hb : Below B w W) : VW W B num l A c := { h with rd := h.rd.below hb }
theorem VW.more {w : World} {B B' : Nat} {num : Int} {l : List Int} {A : Option Addr} {c : Nat} (h : VW w B num l A c) (hb : B ≤ B') : VW w B' num l A c := { h with rd := h.rd.more hb }
structure LS (w : World) (B : Nat) (l : List Int) (A : Option Addr) (c : Nat) : Prop where
  rd : Reads w B 1 A l.length (l.map intV)
  l40 : l.length ≤ 1099511627776
  el : ∀ x ∈ l, In64 x
  cap : l.length ≤ c
theorem LS.below {w W : World} {B : Nat} {l : List Int} {A : Option Addr} {c : Nat} (h : LS w B l A c) (hb : Below B w W) : LS W B l A c := { h with rd := h.rd.below hb }
theorem LS.more {w : World} {B B' : Nat} {l : List Int} {A : Option Addr} {c : Nat} (h : LS w B l A c) (hb : B ≤ B') : LS w B' l A c := { h with rd := h.rd.more hb }
theorem VW.ls {w : World} {B : Nat} {num : Int} {l : List Int} {A : Option Addr} {c : Nat} (h : VW w B num l A c) : LS w B l A c := ⟨h.rd, h.l40, h.el, h.cap⟩
theorem below_drewN' {B : Nat} {a w : World} (h : Below B a w) (n : Nat) : Below B a (w.drewN n) := ⟨h.os, h.tape, h.output, h.size, h.block⟩
/-- A Boolean, and nothing of what was there written. -/
def PB (w : World) (b : Bool) (e : Ending) (w' : World) : Prop := e = .returned (.bool b) ∧ Below w.heap.size w w'
theorem GivesB.pb {w : World} {b : Bool} {e : Ending} {w' : World} (h : GivesB w b e w') : PB w b e w' := by
  obtain ⟨h1, k, rfl⟩ := h
  exact ⟨h1, below_drewN' (Below.refl _ _) k⟩
/-- A list of the call's own. -/
def OwnI (w : World) (l : List Int) (e : Ending) (w' : World) : Prop := ∃ v, e = .returned v ∧ w'.ownsRow w.heap.size 3 1 v l.length (l.map intV) ∧ Below w.heap.size w w'
/-- .. written out. -/
def OutI (w : World) (l : List Int) (k : Nat) (e : Ending) (w' : World) : Prop := ∃ A c, e = .returned (.slice A k c) ∧ k ≤ c ∧ w'.ownsRow w.heap.size 3 1 (.slice A k c) k (l.map intV) ∧ Reads w' w'.heap.size 1 A k (l.map intV) ∧ Below w.heap.size w w'
theorem OwnI.to {w : World} {l : List Int} {e : Ending} {w' : World} (h : OwnI w l e w') (l' : List Int) (k : Nat) (hl : l = l') (hk : l'.length = k) : OutI w l' k e w' := by
  subst hl hk
  obtain ⟨v, rfl, ho, hb⟩ := h
  obtain ⟨A, c, hv, hc, hr⟩ := SliceOf.of_own (xs := l.map intV) (base := w.heap.size) (e := 3) (by rw [List.length_map]; exact ho)
  rw [List.length_map] at hv hc hr
  subst hv
  exact ⟨A, c, rfl, hc, ho, hr, hb⟩
theorem blk2 {W : World} {g : Nat} {t : TypeId} {a b : Value} (h : Blk W g t #[a, b]) : W.cell? ⟨g, 0, none⟩ = some a ∧ W.cell? ⟨g, 1, none⟩ = some b := ⟨h.cell 0, h.cell 1⟩
set_option maxRecDepth 100000 in
set_option maxHeartbeats 400000 in
theorem refValid_any (num : Int) (l : List Int) (A : Option Addr) (c B : Nat) (w : World) (h : VW w B num l A c) (hB : B ≤ w.heap.size) :
    Calls Try.prog 23 #[vwV num A l.length c] w (PB w (validV num l)) := by
  have hb0 := (Below.refl w.heap.size w).alloc (Nat.le_refl _) (.cells #[.int .i64 num, .slice A l.length c] 24)
  have CM := Lib.hid (fun W (hW : Below w.heap.size w W) => refValidM_any A c w.heap.size l W ((h.rd.more hB).below hW) h.l40 h.el)
  obtain ⟨n1, n2⟩ := h.num64
  dsimp only [vwV]
  by_cases h1 : 0 ≤ num
  · by_cases h2 : num ≤ 1099511627776
    · have ht := Lib.hid (show validV num l = validM l by simp [validV, h1, h2])
      clear h
      go_enter Try.func23, Try.ntmps23
      go_wp2_with (go_at_call 39; (with_reducible refine (CM.out _ hb0).mono ?_); rintro e w1 ⟨rfl, q, rfl⟩)
      go_ret
      exact ⟨retB' ht.out, below_drewN' hb0 _⟩
    · have ht := Lib.hid (show validV num l = false by simp [validV, h1, h2])
      clear h CM
      go_enter Try.func23, Try.ntmps23
      go_wp2_with fail
      go_ret
      exact ⟨retB' ht.out, hb0⟩
  · have ht := Lib.hid (show validV num l = false by simp [validV, h1])
    clear h CM
    go_enter Try.func23, Try.ntmps23
    go_wp2_with fail
    go_ret
    exact ⟨retB' ht.out, hb0⟩
theorem among_snoc {l m : List Int} {b : Bool} {k : Nat} {x : Int} (h : l[k]? = some x) : among (l.take (k + 1)) m b = among (l.take k) m b ++ if hasB m x == b then [x] else [] := by
  unfold among
  rw [List.take_add_one, h, List.filter_append]
  simp only [Option.toList_some, List.filter_cons, List.filter_nil]
theorem among_le (l m : List Int) (b : Bool) : (among l m b).length ≤ l.length := List.length_filter_le _ _
set_option maxRecDepth 100000 in
set_option maxHeartbeats 1000000 in
theorem refAmong_any (L M : Option Addr) (c d B : Nat) (l m : List Int) (b : Bool) (w : World) (h : LS w B l L c) (h' : LS w B m M d) (hB : B ≤ w.heap.size) :
    Calls Try.prog 60 #[.slice L l.length c, .slice M m.length d, .bool b] w (OwnI w (among l m b)) := by
  obtain ⟨i0, hi, hz0, hz1, hz2⟩ := info_parts intInfo
  have CC := Lib.hid (fun x W (hW : Below w.heap.size w W) => refContains_any M d w.heap.size m x W ((h'.rd.more hB).below hW) h'.l40)
  have hL := Lib.hid (fun W (hW : Below w.heap.size w W) => (h.rd.more hB).below hW)
  have hl40 := h.l40
  have hb0 := Below.refl w.heap.size w
  clear h h'
  go_enter Try.func60, Try.ntmps60
  go_wp2
  go_loopw [7, 8] (fun out i wr => ∃ k : Nat, k ≤ l.length ∧ i = .int .i64 k ∧ wr.ownsRow w.heap.size 3 1 out (among (l.take k) m b).length ((among (l.take k) m b).map intV) ∧ Below w.heap.size w wr) (fun _ i _ => l.length - (intOf i).toNat)
  case atStart => exact ⟨0, Nat.zero_le _, rfl, World.ownsRow_nil _ _ _ _, hb0⟩
  case round =>
    obtain ⟨k, hk, rfl, hown, hbel⟩ := hrel
    obtain ⟨wr', rfl⟩ : ∃ x, x = wr := ⟨_, rfl⟩
    by_cases hlt : k < l.length
    · obtain ⟨ad, u, rfl, _, hx, hcell⟩ := (hL.out _ hbel).at_ hlt
      obtain ⟨x, hxk⟩ : ∃ x, l[k]? = some x := ⟨_, List.getElem?_eq_getElem hlt⟩
      have hux : u = .int .i64 x := by simp [hxk, intV] at hx; exact hx.symm
      rw [hux] at hcell
      have hsn := among_snoc (m := m) (b := b) hxk
      have hlen : (among (l.take k) m b).length ≤ 1099511627776 := Nat.le_trans (among_le _ _ _) (by rw [List.length_take]; omega)
      have HC := Lib.hid (CC.out x wr' hbel)
      have hlt2 : (k : Int) < (l.length : Int) := by omega
      have hbs := hbel.size
      generalize among (l.take k) m b = P at *
      clear hx hux hxk
      cases hcb : hasB m x == b
      · have hfin := Lib.hid (show among (l.take (k + 1)) m b = P by rw [hsn, hcb]; simp)
        clear hsn
        generalize hasB m x = y at *
        go_wp2_with (go_at_call 31; (with_reducible refine HC.out.mono ?_); rintro e w1 ⟨rfl, rfl⟩)
        go_roundw
        case rel => exact ⟨k + 1, by omega, by go_num, by rw [hfin.out]; exact hown, hbel⟩
        case measure => simp [intOf]; omega
      · have hfin := Lib.hid (show among (l.take (k + 1)) m b = P ++ [x] by rw [hsn, hcb]; simp)
        clear hsn
        generalize hasB m x = y at *
        go_wp2_with (first
          | (go_at_call 31; (with_reducible refine HC.out.mono ?_); rintro e w1 ⟨rfl, rfl⟩)
          | (at_builtin; refine wpList_append_own _ rfl (.tmp 23) (.tmp 28) 22 rfl w.heap.size 3 i0 _ 1 8 Try.underlying22 hi hz0 hz1 hz2 rfl (by decide) _ _ _ rfl (hown.alloc _) ⟨wr'.heap.size, 0, none⟩ 1 1 [intV x] rfl rfl ?c1 ?c2 ?c3 ?c4 ?c5 ?_))
        case c1 => intro q u hq; match q, hq with | 0, hq => simp at hq; subst hq; simp [Addr.add, intV]
        case c2 => intro u hu; simp at hu; subst hu; rfl
        case c3 => unfold maxLen; omega
        case c4 => omega
        case c5 => simp; omega
        intro v' w1 hown' hgrow _
        have hbel' : Below w.heap.size w w1 := (hbel.alloc hbs _).grown hgrow (by simp; omega) (fun q hq => (hown.lt q hq).1)
        have hown2 : w1.ownsRow w.heap.size 3 1 v' (P ++ [x]).length ((P ++ [x]).map intV) := by simpa using hown'
        clear hown' hgrow hown
        go_wp2
        go_roundw
        case rel => exact ⟨k + 1, by omega, by go_num, by rw [hfin.out]; exact hown2, hbel'⟩
        case measure => simp [intOf]; omega
    · have ht := Lib.hid (show among (l.take k) m b = among l m b by rw [List.take_of_length_le (by omega)])
      have hlt2 : ¬ (k : Int) < (l.length : Int) := by omega
      go_wp2
      go_ret
      exact ⟨_, rfl, by rw [← ht.out]; exact hown, hbel⟩
set_option maxRecDepth 100000 in
set_option maxHeartbeats 1000000 in
theorem refJoiners_any (num : Int) (l q : List Int) (A C : Option Addr) (c d B : Nat) (w : World) (h : VW w B num l A c) (h' : LS w B q C d) (hB : B ≤ w.heap.size) :
    Calls Try.prog 56 #[vwV num A l.length c, .slice C q.length d] w (OwnI w (jns num l q)) := by
  have hb0 := (Below.refl w.heap.size w).alloc (Nat.le_refl _) (.cells #[.int .i64 num, .slice A l.length c] 24)
  have hk0 := Lib.hid (Blk.new w 24 #[.int .i64 num, .slice A l.length c])
  have hs0 := Lib.hid (show (w.alloc (.cells #[.int .i64 num, .slice A l.length c] 24)).heap.size = w.heap.size + 1 by simp)
  have CV := Lib.hid (fun W (hW : Below w.heap.size w W) => refValid_any num l A c w.heap.size W ((h.more hB).below hW) hW.size)
  have CT := Lib.hid (fun W (hW : Below w.heap.size w W) => (refValidC_any C d w.heap.size q W ((h'.rd.more hB).below hW) h'.l40 h'.el).mono fun _ _ h => h.pb)
  have CA := Lib.hid (fun W (hW : Below w.heap.size w W) => refAmong_any C A d c w.heap.size q l false W ((h'.more hB).below hW) ((h.ls.more hB).below hW) hW.size)
  dsimp only [vwV] at *
  clear h h'
  cases h1 : validV num l
  · have ht := Lib.hid (show jns num l q = [] by unfold jns; rw [h1]; simp)
    rw [h1] at CV
    clear CT CA
    go_enter Try.func56, Try.ntmps56
    go_wp2_with (go_at_call 23; (with_reducible refine (CV.out _ hb0).mono ?_); rintro e w1 ⟨rfl, hq1⟩; (have hb1 : Below w.heap.size w w1 := hb0.trans (hq1.mono (by rw [hs0.out]; omega))))
    go_ret
    exact ⟨_, rfl, by rw [ht.out]; exact World.ownsRow_nil _ _ _ _, hb1⟩
  · cases h2 : validC q
    · have ht := Lib.hid (show jns num l q = [] by unfold jns; rw [h1, h2]; simp)
      rw [h1] at CV
      rw [h2] at CT
      clear CA
      go_enter Try.func56, Try.ntmps56
      go_wp2_with (first
        | (go_at_call 23; (with_reducible refine (CV.out _ hb0).mono ?_); rintro e w1 ⟨rfl, hq1⟩; (have hb1 : Below w.heap.size w w1 := hb0.trans (hq1.mono (by rw [hs0.out]; omega))))
        | (go_at_call 54; (with_reducible refine (CT.out _ hb1).mono ?_); rintro e w2 ⟨rfl, hq2⟩; (have hb2 := bstep hb1 hq2)))
      go_ret
      exact ⟨_, rfl, by rw [ht.out]; exact World.ownsRow_nil _ _ _ _, hb2⟩
    · have ht := Lib.hid (show jns num l q = among q l false by unfold jns; rw [h1, h2]; simp)
      rw [h1] at CV
      rw [h2] at CT
      go_enter Try.func56, Try.ntmps56
      go_wp2_with (first
        | (go_at_call 23; (with_reducible refine (CV.out _ hb0).mono ?_); rintro e w1 ⟨rfl, hq1⟩; (have hb1 : Below w.heap.size w w1 := hb0.trans (hq1.mono (by rw [hs0.out]; omega))); (have hk1 := hk0.out.below hq1 (by rw [hs0.out]; omega)))
        | (go_at_call 54; (with_reducible refine (CT.out _ hb1).mono ?_); rintro e w2 ⟨rfl, hq2⟩; (have hb2 := bstep hb1 hq2); (have hk2 := hk1.below hq2 hk1.lt); obtain ⟨q0, q1⟩ := blk2 hk2)
        | (go_at_call 60; (with_reducible refine (CA.out _ hb2).mono ?_); rintro e w3 ⟨v3, rfl, ho3, hq3⟩))
      go_ret
      exact ⟨_, rfl, by rw [ht.out]; exact own_base ho3 hb2.size, bstep hb2 hq3⟩
set_option maxRecDepth 100000 in
set_option maxHeartbeats 1000000 in
theorem refSurvivors_any (num : Int) (l q : List Int) (A C : Option Addr) (c d B : Nat) (w : World) (h : VW w B num l A c) (h' : LS w B q C d) (hB : B ≤ w.heap.size) :
    Calls Try.prog 55 #[vwV num A l.length c, .slice C q.length d] w (OwnI w (svs num l q)) := by
  have hb0 := (Below.refl w.heap.size w).alloc (Nat.le_refl _) (.cells #[.int .i64 num, .slice A l.length c] 24)
  have hk0 := Lib.hid (Blk.new w 24 #[.int .i64 num, .slice A l.length c])
  have hs0 := Lib.hid (show (w.alloc (.cells #[.int .i64 num, .slice A l.length c] 24)).heap.size = w.heap.size + 1 by simp)
  have CV := Lib.hid (fun W (hW : Below w.heap.size w W) => refValid_any num l A c w.heap.size W ((h.more hB).below hW) hW.size)
  have CT := Lib.hid (fun W (hW : Below w.heap.size w W) => (refValidC_any C d w.heap.size q W ((h'.rd.more hB).below hW) h'.l40 h'.el).mono fun _ _ h => h.pb)
  have CA := Lib.hid (fun W (hW : Below w.heap.size w W) => refAmong_any A C c d w.heap.size l q false W ((h.ls.more hB).below hW) ((h'.more hB).below hW) hW.size)
  dsimp only [vwV] at *
  clear h h'
  cases h1 : validV num l
  · have ht := Lib.hid (show svs num l q = [] by unfold svs; rw [h1]; simp)
    rw [h1] at CV
    clear CT CA
    go_enter Try.func55, Try.ntmps55
    go_wp2_with (go_at_call 23; (with_reducible refine (CV.out _ hb0).mono ?_); rintro e w1 ⟨rfl, hq1⟩; (have hb1 : Below w.heap.size w w1 := hb0.trans (hq1.mono (by rw [hs0.out]; omega))))
    go_ret
    exact ⟨_, rfl, by rw [ht.out]; exact World.ownsRow_nil _ _ _ _, hb1⟩
  · cases h2 : validC q
    · have ht := Lib.hid (show svs num l q = [] by unfold svs; rw [h1, h2]; simp)
      rw [h1] at CV
      rw [h2] at CT
      clear CA
      go_enter Try.func55, Try.ntmps55
      go_wp2_with (first
        | (go_at_call 23; (with_reducible refine (CV.out _ hb0).mono ?_); rintro e w1 ⟨rfl, hq1⟩; (have hb1 : Below w.heap.size w w1 := hb0.trans (hq1.mono (by rw [hs0.out]; omega))))
        | (go_at_call 54; (with_reducible refine (CT.out _ hb1).mono ?_); rintro e w2 ⟨rfl, hq2⟩; (have hb2 := bstep hb1 hq2)))
      go_ret
      exact ⟨_, rfl, by rw [ht.out]; exact World.ownsRow_nil _ _ _ _, hb2⟩
    · have ht := Lib.hid (show svs num l q = among l q false by unfold svs; rw [h1, h2]; simp)
      rw [h1] at CV
      rw [h2] at CT
      go_enter Try.func55, Try.ntmps55
      go_wp2_with (first
        | (go_at_call 23; (with_reducible refine (CV.out _ hb0).mono ?_); rintro e w1 ⟨rfl, hq1⟩; (have hb1 : Below w.heap.size w w1 := hb0.trans (hq1.mono (by rw [hs0.out]; omega))); (have hk1 := hk0.out.below hq1 (by rw [hs0.out]; omega)))
        | (go_at_call 54; (with_reducible refine (CT.out _ hb1).mono ?_); rintro e w2 ⟨rfl, hq2⟩; (have hb2 := bstep hb1 hq2); (have hk2 := hk1.below hq2 hk1.lt); obtain ⟨q0, q1⟩ := blk2 hk2)
        | (go_at_call 60; (with_reducible refine (CA.out _ hb2).mono ?_); rintro e w3 ⟨v3, rfl, ho3, hq3⟩))
      go_ret
      exact ⟨_, rfl, by rw [ht.out]; exact own_base ho3 hb2.size, bstep hb2 hq3⟩
end Go.Proofs.Ytmnagkjdnmnbkaa.V

/- The reference of layer 3: Insert, Next, Diff, Same. -/
namespace Go.Proofs.Ytmnagkjdnmnbkaa.V
set_option linter.unusedVariables false
open Go.RowKit
open Go.Proofs.Ytmnagkjdnmnbkaa.W

/-- One integer appended to a row of the call's own. -/
theorem wp_append_int {ops : Array Oper} {rest : List Oper} {o : Oper} {a : Act} {Q : Exit → Act → World → Prop} (W : World) (hgd : o.guard = none) (s x : Operand)
    (ho : o.op = .call { callee := .builtin .append, args := #[s, x], argTypes := #[22, 22] }) (base : Nat) (v : Value) (l : List Int) (z : Int) (g : Nat) (hs : a.eval s = v)
    (hown : W.ownsRow base 3 1 v l.length (l.map intV)) (hx : a.eval x = .slice (some ⟨g, 0, none⟩) 1 1) (hcell : W.cell? ⟨g, 0, none⟩ = some (.int .i64 z))
    (hl : l.length ≤ 4398046521104) (hbase : base ≤ W.heap.size)
    (h : ∀ v' w', w'.ownsRow base 3 1 v' (l ++ [z]).length ((l ++ [z]).map intV) → Below base W w' → wpList Try.prog ops Q rest (a.put o.dst v') w') : wpList Try.prog ops Q (o :: rest) a W := by
  obtain ⟨i0, hi, hz0, hz1, hz2⟩ := info_parts intInfo
  refine wpList_append_own W hgd s x 22 ho base 3 i0 _ 1 8 Try.underlying22 hi hz0 hz1 hz2 rfl (by decide) v _ _ hs hown ⟨g, 0, none⟩ 1 1 [intV z] hx rfl ?_ ?_ ?_ ?_ hbase ?_
  · intro q u hq
    match q, hq with
    | 0, hq => simp at hq; subst hq; simpa [Addr.add, intV] using hcell
  · intro u hu; simp at hu; subst hu; rfl
  · unfold maxLen; omega
  · omega
  · intro v' w' h1 h2 _
    refine h v' w' ?_ ((Below.refl _ _).grown h2 hbase fun q hq => (hown.lt q hq).1)
    simpa using h1
theorem ins_nil (id : Int) : ins id [] = [id] := rfl
set_option maxRecDepth 100000 in
set_option maxHeartbeats 1000000 in
theorem refInsert_any (L : Option Addr) (c : Nat) (l : List Int) (id : Int) (w : World) (hr : Reads w w.heap.size 1 L l.length (l.map intV)) (hl : l.length ≤ 1099511627776) :
    Calls Try.prog 57 #[.slice L l.length c, .int .i64 id] w (OwnI w (ins id l)) := by
  have hL := Lib.hid (fun W (hW : Below w.heap.size w W) => hr.below hW)
  have hb0 := Below.refl w.heap.size w
  clear hr
  go_enter Try.func57, Try.ntmps57
  go_wp2
  go_loopw [5, 6, 7] (fun out put i wr => ∃ (k : Nat) (b : Bool) (P : List Int), k ≤ l.length ∧ i = .int .i64 k ∧ put = .bool b ∧ P.length ≤ k + b.toNat ∧ wr.ownsRow w.heap.size 3 1 out P.length (P.map intV) ∧ Below w.heap.size w wr ∧ ins id l = if b then P ++ l.drop k else P ++ ins id (l.drop k)) (fun _ _ i _ => l.length - (intOf i).toNat)
  case atStart => exact ⟨0, false, [], Nat.zero_le _, rfl, rfl, by simp, World.ownsRow_nil _ _ _ _, hb0, by simp⟩
  case round =>
    obtain ⟨k, b, P, hk, rfl, rfl, hPk, hown, hbel, hres⟩ := hrel
    obtain ⟨wr', rfl⟩ : ∃ x, x = wr := ⟨_, rfl⟩
    have hbs := hbel.size
    have hPk2 : P.length ≤ k + 1 := by cases b <;> simp at hPk <;> omega
    by_cases hlt : k < l.length
    · obtain ⟨ad, u, rfl, _, hx, hcell⟩ := (hL.out _ hbel).at_ hlt
      have hux : u = .int .i64 l[k] := by simp [hlt, intV] at hx; exact hx.symm
      rw [hux] at hcell
      have hdk : l.drop k = l[k] :: l.drop (k + 1) := List.drop_eq_getElem_cons hlt
      generalize l[k] = x at *
      rw [hdk] at hres
      have HR := Lib.hid hres
      have hlt2 : (k : Int) < (l.length : Int) := by omega
      have hcl : ad.block < w.heap.size := by obtain ⟨ad', hA, hb, _⟩ := (hL.out _ hbel).2 (by omega); cases hA; exact hb
      clear hres hdk hx hux
      cases b
      · simp only [Bool.toNat_false, Nat.add_zero] at hPk
        by_cases hlx : id < x
        · have ht := Lib.hid (show ins id l = (P ++ [id] ++ [x]) ++ l.drop (k + 1) by rw [HR.out]; simp [ins, hlx])
          go_wp2_with (first
            | (at_builtin; refine wp_append_int _ rfl (.tmp 24) (.tmp 26) rfl w.heap.size _ P id _ rfl (hown.alloc _) rfl (cell_new1 _ _ _) (by omega) (by simp; omega) ?_; intro v2 w2 ho2 hq2; (have hb2 : Below w.heap.size w w2 := (hbel.alloc hbs _).trans hq2); (have hcell2 : w2.cell? (ad.add k) = some (.int .i64 x) := (hq2.cell (p := ad.add k) (by rw [block_of_add]; exact hcl)).trans ((World.cell?_alloc_lt _ _ _ (by rw [block_of_add]; omega)).trans hcell)))
            | (at_builtin; refine wp_append_int _ rfl (.tmp 28) (.tmp 33) rfl w.heap.size _ (P ++ [id]) x _ rfl (ho2.alloc _) rfl (cell_new1 _ _ _) (by simp; omega) (by have := hb2.size; simp; omega) ?_; intro v3 w3 ho3 hq3; (have hb3 : Below w.heap.size w w3 := (hb2.alloc hb2.size _).trans hq3)))
          go_roundw
          case rel => exact ⟨k + 1, true, P ++ [id] ++ [x], by omega, by go_num, rfl, by simp; omega, ho3, hb3, ht.out⟩
          case measure => simp [intOf]; omega
        · have ht := Lib.hid (show ins id l = (P ++ [x]) ++ ins id (l.drop (k + 1)) by rw [HR.out]; simp [ins, hlx])
          go_wp2_with (at_builtin; refine wp_append_int _ rfl (.tmp 28) (.tmp 33) rfl w.heap.size _ P x _ rfl (hown.alloc _) rfl (cell_new1 _ _ _) (by omega) (by simp; omega) ?_; intro v3 w3 ho3 hq3; (have hb3 : Below w.heap.size w w3 := (hbel.alloc hbs _).trans hq3))
          go_roundw
          case rel => exact ⟨k + 1, false, P ++ [x], by omega, by go_num, rfl, by simp; omega, ho3, hb3, ht.out⟩
          case measure => simp [intOf]; omega
      · have ht := Lib.hid (show ins id l = (P ++ [x]) ++ l.drop (k + 1) by rw [HR.out]; simp)
        go_wp2_with (at_builtin; refine wp_append_int _ rfl (.tmp 28) (.tmp 33) rfl w.heap.size _ P x _ rfl (hown.alloc _) rfl (cell_new1 _ _ _) (by omega) (by simp; omega) ?_; intro v3 w3 ho3 hq3; (have hb3 : Below w.heap.size w w3 := (hbel.alloc hbs _).trans hq3))
        go_roundw
        case rel => exact ⟨k + 1, true, P ++ [x], by omega, by go_num, rfl, by simp; omega, ho3, hb3, ht.out⟩
        case measure => simp [intOf]; omega
    · rw [List.drop_eq_nil_of_le (by omega)] at hres
      have HR := Lib.hid hres
      have hlt2 : ¬ (k : Int) < (l.length : Int) := by omega
      clear hres
      cases b
      · have ht := Lib.hid (show ins id l = P ++ [id] by rw [HR.out]; simp [ins])
        go_wp2_with (at_builtin; refine wp_append_int _ rfl (.tmp 37) (.tmp 39) rfl w.heap.size _ P id _ rfl (hown.alloc _) rfl (cell_new1 _ _ _) (by omega) (by simp; omega) ?_; intro v3 w3 ho3 hq3; (have hb3 : Below w.heap.size w w3 := (hbel.alloc hbs _).trans hq3))
        go_ret
        exact ⟨_, rfl, by rw [ht.out]; exact ho3, hb3⟩
      · have ht := Lib.hid (show ins id l = P by rw [HR.out]; simp)
        go_wp2
        go_ret
        exact ⟨_, rfl, by rw [ht.out]; exact hown, hbel⟩
def sameW (n1 : Int) (a : List Int) (n2 : Int) (b : List Int) : Bool := n1 == n2 && decide (a = b)
end Go.Proofs.Ytmnagkjdnmnbkaa.V

/- The reference of layer 3: Diff, Next. -/
namespace Go.Proofs.Ytmnagkjdnmnbkaa.V
set_option linter.unusedVariables false
open Go.RowKit
open Go.Proofs.Ytmnagkjdnmnbkaa.W

theorem two_blk (w : World) (t : TypeId) (x y : Array Value) : Blk ((w.alloc (.cells x t)).alloc (.cells y t)) w.heap.size t x ∧ Blk ((w.alloc (.cells x t)).alloc (.cells y t)) (w.heap.size + 1) t y := by
  refine ⟨(Blk.new w t x).alloc _, ?_⟩
  have h := Blk.new (w.alloc (.cells x t)) t y
  rwa [show (w.alloc (.cells x t)).heap.size = w.heap.size + 1 by simp] at h
theorem cells22 {W : World} {g1 g2 : Nat} {t : TypeId} {a0 a1 b0 b1 : Value} (h : Blk W g1 t #[a0, a1]) (h' : Blk W g2 t #[b0, b1]) :
    W.cell? ⟨g1, 0, none⟩ = some a0 ∧ W.cell? ⟨g1, 1, none⟩ = some a1 ∧ W.cell? ⟨g2, 0, none⟩ = some b0 ∧ W.cell? ⟨g2, 1, none⟩ = some b1 ∧ W.frozen? ⟨g2, 0, none⟩ = false ∧ W.frozen? ⟨g2, 1, none⟩ = false :=
  ⟨h.cell 0, h.cell 1, h'.cell 0, h'.cell 1, h'.frozen 0, h'.frozen 1⟩
theorem insAll_snoc {l j : List Int} {k : Nat} {x : Int} (h : j[k]? = some x) : insAll l (j.take (k + 1)) = ins x (insAll l (j.take k)) := by
  unfold insAll
  rw [List.take_add_one, h, List.foldl_append]
  rfl
theorem among_in {l m : List Int} {b : Bool} (h : ∀ x ∈ l, In64 x) : ∀ x ∈ among l m b, In64 x := fun x hx => h x (List.mem_filter.1 hx).1
theorem below_setV {B : Nat} {a w : World} (h : Below B a w) {p : Addr} (hp : B ≤ p.block) (u : Value) : Below B a (w.setCell p u) := h.setCell hp u
theorem own_setV {B : Nat} {w : World} {e : TypeId} {size : Nat} {v : Value} {n : Nat} {xs : List Value} (h : w.ownsRow B e size v n xs) {p : Addr} (hp : p.block < B) (u : Value) : (w.setCell p u).ownsRow B e size v n xs :=
  ownsRow_setCell_below h hp u
/-- What Next leaves. -/
def NextPost (w : World) (r : (Int × List Int) × Nat) (e : Ending) (w' : World) : Prop :=
  ∃ A c, e = .returned (.tuple #[vwV r.1.1 A r.1.2.length c, .int .i64 r.2]) ∧ r.1.2.length ≤ c ∧ Reads w' w'.heap.size 1 A r.1.2.length (r.1.2.map intV) ∧ Below w.heap.size w w'
set_option maxRecDepth 100000 in
set_option maxHeartbeats 2000000 in
theorem refNext_any (num : Int) (l q : List Int) (A C : Option Addr) (c d B : Nat) (w : World) (h : VW w B num l A c) (h' : LS w B q C d) (hB : B ≤ w.heap.size) :
    Calls Try.prog 44 #[vwV num A l.length c, .slice C q.length d] w (NextPost w (next num l q)) := by
  have h01 : Below w.heap.size w ((w.alloc (.cells #[.int .i64 num, .slice A l.length c] 24)).alloc (.cells #[.int .i64 0, .slice none 0 0] 24)) := ((Below.refl w.heap.size w).alloc (Nat.le_refl _) _).alloc (by simp) _
  have hz := two_blk w 24 #[.int .i64 num, .slice A l.length c] #[.int .i64 0, .slice none 0 0]
  have hs0 : ((w.alloc (.cells #[.int .i64 num, .slice A l.length c] 24)).alloc (.cells #[.int .i64 0, .slice none 0 0] 24)).heap.size = w.heap.size + 2 := by simp
  have FB := Lib.hid (fun W (hW : Below ((w.alloc (.cells #[.int .i64 num, .slice A l.length c] 24)).alloc (.cells #[.int .i64 0, .slice none 0 0] 24)).heap.size ((w.alloc (.cells #[.int .i64 num, .slice A l.length c] 24)).alloc (.cells #[.int .i64 0, .slice none 0 0] 24)) W) => h01.trans (hW.mono (by rw [hs0]; omega)))
  have FV := Lib.hid (fun W (hW : Below ((w.alloc (.cells #[.int .i64 num, .slice A l.length c] 24)).alloc (.cells #[.int .i64 0, .slice none 0 0] 24)).heap.size ((w.alloc (.cells #[.int .i64 num, .slice A l.length c] 24)).alloc (.cells #[.int .i64 0, .slice none 0 0] 24)) W) => cells22 (hz.1.below hW hz.1.lt) (hz.2.below hW hz.2.lt))
  have r0 := Below.refl ((w.alloc (.cells #[.int .i64 num, .slice A l.length c] 24)).alloc (.cells #[.int .i64 0, .slice none 0 0] 24)).heap.size ((w.alloc (.cells #[.int .i64 num, .slice A l.length c] 24)).alloc (.cells #[.int .i64 0, .slice none 0 0] 24))
  have CV := Lib.hid (fun W (hW : Below ((w.alloc (.cells #[.int .i64 num, .slice A l.length c] 24)).alloc (.cells #[.int .i64 0, .slice none 0 0] 24)).heap.size ((w.alloc (.cells #[.int .i64 num, .slice A l.length c] 24)).alloc (.cells #[.int .i64 0, .slice none 0 0] 24)) W) => refValid_any num l A c w.heap.size W ((h.more hB).below (FB.out W hW)) (FB.out W hW).size)
  have CT := Lib.hid (fun W (hW : Below ((w.alloc (.cells #[.int .i64 num, .slice A l.length c] 24)).alloc (.cells #[.int .i64 0, .slice none 0 0] 24)).heap.size ((w.alloc (.cells #[.int .i64 num, .slice A l.length c] 24)).alloc (.cells #[.int .i64 0, .slice none 0 0] 24)) W) => (refValidC_any C d w.heap.size q W ((h'.rd.more hB).below (FB.out W hW)) h'.l40 h'.el).mono fun _ _ h => h.pb)
  have CS := Lib.hid (fun W (hW : Below ((w.alloc (.cells #[.int .i64 num, .slice A l.length c] 24)).alloc (.cells #[.int .i64 0, .slice none 0 0] 24)).heap.size ((w.alloc (.cells #[.int .i64 num, .slice A l.length c] 24)).alloc (.cells #[.int .i64 0, .slice none 0 0] 24)) W) => (refSurvivors_any num l q A C c d w.heap.size W ((h.more hB).below (FB.out W hW)) ((h'.more hB).below (FB.out W hW)) (FB.out W hW).size).mono fun _ _ h => h.to (svs num l q) (svs num l q).length rfl rfl)
  have CJ := Lib.hid (fun W (hW : Below ((w.alloc (.cells #[.int .i64 num, .slice A l.length c] 24)).alloc (.cells #[.int .i64 0, .slice none 0 0] 24)).heap.size ((w.alloc (.cells #[.int .i64 num, .slice A l.length c] 24)).alloc (.cells #[.int .i64 0, .slice none 0 0] 24)) W) => (refJoiners_any num l q A C c d w.heap.size W ((h.more hB).below (FB.out W hW)) ((h'.more hB).below (FB.out W hW)) (FB.out W hW).size).mono fun _ _ h => h.to (jns num l q) (jns num l q).length rfl rfl)
  obtain ⟨m1, m2⟩ := h.num64
  have hl40 := h.l40
  have hq40 := h'.l40
  dsimp only [vwV] at *
  clear h h' hz h01 hs0
  cases h1 : validV num l
  · have ht := Lib.hid (show next num l q = ((0, []), 1) by unfold next; rw [h1]; simp)
    rw [h1] at CV
    clear CT CS CJ
    go_enter Try.func44, Try.ntmps44
    go_wp2_with (go_at_call 23; (with_reducible refine (CV.out _ r0).mono ?_); rintro e w1 ⟨rfl, b1⟩; obtain ⟨q0, q1, z0, z1, f0, f1⟩ := FV.out _ b1)
    refine bodyPost_ret (v := .tuple #[vwV 0 none 0 0, .int .i64 1]) (by simp [results, Try.results44, go_sem, vwV, z0, z1]) rfl ⟨none, 0, ?_, ?_, ?_, ?_⟩
    · rw [ht.out]; rfl
    · rw [ht.out]; exact Nat.le_refl _
    · rw [ht.out]; exact Reads.none_
    · repeat (with_reducible refine below_setV ?_ (by simp) _)
      exact FB.out _ b1
  cases h2 : validC q
  · have ht := Lib.hid (show next num l q = ((0, []), 1) by unfold next; rw [h1, h2]; simp)
    rw [h1] at CV
    rw [h2] at CT
    clear CS CJ
    go_enter Try.func44, Try.ntmps44
    go_wp2_with (first | (go_at_call 23; (with_reducible refine (CV.out _ r0).mono ?_); rintro e w1 ⟨rfl, b1⟩; obtain ⟨q0, q1, z0, z1, f0, f1⟩ := FV.out _ b1) | (go_at_call 54; (with_reducible refine (CT.out _ b1).mono ?_); rintro e w2 ⟨rfl, hq2⟩; (have b2 := bstep b1 hq2); clear q0 q1 z0 z1 f0 f1; obtain ⟨q0, q1, z0, z1, f0, f1⟩ := FV.out _ b2))
    refine bodyPost_ret (v := .tuple #[vwV 0 none 0 0, .int .i64 1]) (by simp [results, Try.results44, go_sem, vwV, z0, z1]) rfl ⟨none, 0, ?_, ?_, ?_, ?_⟩
    · rw [ht.out]; rfl
    · rw [ht.out]; exact Nat.le_refl _
    · rw [ht.out]; exact Reads.none_
    · repeat (with_reducible refine below_setV ?_ (by simp) _)
      exact FB.out _ b2
  have hv : (validV num l && validC q) = true := by rw [h1, h2]; rfl
  have hpl := parts_len hv
  have hnx : next num l q = if 2 * (svs num l q).length ≤ l.length then ((0, []), 9) else if num = 1099511627776 ∨ 16 < (svs num l q).length + (jns num l q).length then ((0, []), 5) else ((num + 1, insAll (svs num l q) (jns num l q)), 0) := by
    unfold next
    rw [hv]
    simp
  obtain ⟨v1, v2, v3, v4, _⟩ := valid_parts hv
  have hSl : (svs num l q).length ≤ 16 := by omega
  have hJl : (jns num l q).length ≤ 1099511627776 := by omega
  rw [h1] at CV
  rw [h2] at CT
  generalize svs num l q = S at *
  generalize jns num l q = J at *
  have wm : IntKind.i64.wrap (2 * (S.length : Int)) = 2 * (S.length : Int) := IntWalk.i64_in _ (by omega)
  clear hv hpl h1 h2
  by_cases hm : 2 * S.length ≤ l.length
  · have ht := Lib.hid (show next num l q = ((0, []), 9) by rw [hnx, if_pos hm])
    have fm : 2 * (S.length : Int) ≤ (l.length : Int) := by omega
    clear CJ hnx hm
    go_enter Try.func44, Try.ntmps44
    go_wp2_with (first | (go_at_call 23; (with_reducible refine (CV.out _ r0).mono ?_); rintro e w1 ⟨rfl, b1⟩; obtain ⟨q0, q1, z0, z1, f0, f1⟩ := FV.out _ b1) | (go_at_call 54; (with_reducible refine (CT.out _ b1).mono ?_); rintro e w2 ⟨rfl, hq2⟩; (have b2 := bstep b1 hq2); clear q0 q1 z0 z1 f0 f1; obtain ⟨q0, q1, z0, z1, f0, f1⟩ := FV.out _ b2) | (go_at_call 55; (with_reducible refine (CS.out _ b2).mono ?_); rintro e w3 ⟨A3, c3, rfl, hc3, ho3, hr3, hq3⟩; (have b3 := bstep b2 hq3); clear q0 q1 z0 z1 f0 f1; obtain ⟨q0, q1, z0, z1, f0, f1⟩ := FV.out _ b3))
    refine bodyPost_ret (v := .tuple #[vwV 0 none 0 0, .int .i64 9]) (by simp [results, Try.results44, go_sem, vwV, z0, z1]) rfl ⟨none, 0, ?_, ?_, ?_, ?_⟩
    · rw [ht.out]; rfl
    · rw [ht.out]; exact Nat.le_refl _
    · rw [ht.out]; exact Reads.none_
    · repeat (with_reducible refine below_setV ?_ (by simp) _)
      exact FB.out _ b3
  have fm : ¬ 2 * (S.length : Int) ≤ (l.length : Int) := by omega
  rw [if_neg hm] at hnx
  by_cases hx : num = 1099511627776
  · have ht := Lib.hid (show next num l q = ((0, []), 5) by rw [hnx, if_pos (.inl hx)])
    have fx : (num == 1099511627776) = true := beqT hx
    clear hnx hm hx
    go_enter Try.func44, Try.ntmps44
    go_wp2_with (first | (go_at_call 23; (with_reducible refine (CV.out _ r0).mono ?_); rintro e w1 ⟨rfl, b1⟩; obtain ⟨q0, q1, z0, z1, f0, f1⟩ := FV.out _ b1) | (go_at_call 54; (with_reducible refine (CT.out _ b1).mono ?_); rintro e w2 ⟨rfl, hq2⟩; (have b2 := bstep b1 hq2); clear q0 q1 z0 z1 f0 f1; obtain ⟨q0, q1, z0, z1, f0, f1⟩ := FV.out _ b2) | (go_at_call 55; (with_reducible refine (CS.out _ b2).mono ?_); rintro e w3 ⟨A3, c3, rfl, hc3, ho3, hr3, hq3⟩; (have b3 := bstep b2 hq3); clear q0 q1 z0 z1 f0 f1; obtain ⟨q0, q1, z0, z1, f0, f1⟩ := FV.out _ b3) | (go_at_call 56; (with_reducible refine (CJ.out _ b3).mono ?_); rintro e w4 ⟨A4, c4, rfl, hc4, ho4, hr4, hq4⟩; (have b4 := bstep b3 hq4); clear q0 q1 z0 z1 f0 f1; obtain ⟨q0, q1, z0, z1, f0, f1⟩ := FV.out _ b4))
    refine bodyPost_ret (v := .tuple #[vwV 0 none 0 0, .int .i64 5]) (by simp [results, Try.results44, go_sem, vwV, z0, z1]) rfl ⟨none, 0, ?_, ?_, ?_, ?_⟩
    · rw [ht.out]; rfl
    · rw [ht.out]; exact Nat.le_refl _
    · rw [ht.out]; exact Reads.none_
    · repeat (with_reducible refine below_setV ?_ (by simp) _)
      exact FB.out _ b4
  have fx : (num == 1099511627776) = false := beqF hx
  have wa : IntKind.i64.wrap ((S.length : Int) + (J.length : Int)) = (S.length : Int) + (J.length : Int) := IntWalk.i64_in _ (by omega)
  by_cases hy : 16 < S.length + J.length
  · have ht := Lib.hid (show next num l q = ((0, []), 5) by rw [hnx, if_pos (.inr hy)])
    have fy : (16 : Int) < (S.length : Int) + (J.length : Int) := by omega
    clear hnx hm hx hy
    go_enter Try.func44, Try.ntmps44
    go_wp2_with (first | (go_at_call 23; (with_reducible refine (CV.out _ r0).mono ?_); rintro e w1 ⟨rfl, b1⟩; obtain ⟨q0, q1, z0, z1, f0, f1⟩ := FV.out _ b1) | (go_at_call 54; (with_reducible refine (CT.out _ b1).mono ?_); rintro e w2 ⟨rfl, hq2⟩; (have b2 := bstep b1 hq2); clear q0 q1 z0 z1 f0 f1; obtain ⟨q0, q1, z0, z1, f0, f1⟩ := FV.out _ b2) | (go_at_call 55; (with_reducible refine (CS.out _ b2).mono ?_); rintro e w3 ⟨A3, c3, rfl, hc3, ho3, hr3, hq3⟩; (have b3 := bstep b2 hq3); clear q0 q1 z0 z1 f0 f1; obtain ⟨q0, q1, z0, z1, f0, f1⟩ := FV.out _ b3) | (go_at_call 56; (with_reducible refine (CJ.out _ b3).mono ?_); rintro e w4 ⟨A4, c4, rfl, hc4, ho4, hr4, hq4⟩; (have b4 := bstep b3 hq4); clear q0 q1 z0 z1 f0 f1; obtain ⟨q0, q1, z0, z1, f0, f1⟩ := FV.out _ b4))
    refine bodyPost_ret (v := .tuple #[vwV 0 none 0 0, .int .i64 5]) (by simp [results, Try.results44, go_sem, vwV, z0, z1]) rfl ⟨none, 0, ?_, ?_, ?_, ?_⟩
    · rw [ht.out]; rfl
    · rw [ht.out]; exact Nat.le_refl _
    · rw [ht.out]; exact Reads.none_
    · repeat (with_reducible refine below_setV ?_ (by simp) _)
      exact FB.out _ b4
  have fy : ¬ (16 : Int) < (S.length : Int) + (J.length : Int) := by omega
  have ht := Lib.hid (show next num l q = ((num + 1, insAll S J), 0) by rw [hnx, if_neg (by omega)])
  have wn : IntKind.i64.wrap (num + 1) = num + 1 := IntWalk.i64_in _ (by omega)
  clear hnx hm hx
  go_enter Try.func44, Try.ntmps44
  go_wp2_with (first | (go_at_call 23; (with_reducible refine (CV.out _ r0).mono ?_); rintro e w1 ⟨rfl, b1⟩; obtain ⟨q0, q1, z0, z1, f0, f1⟩ := FV.out _ b1) | (go_at_call 54; (with_reducible refine (CT.out _ b1).mono ?_); rintro e w2 ⟨rfl, hq2⟩; (have b2 := bstep b1 hq2); clear q0 q1 z0 z1 f0 f1; obtain ⟨q0, q1, z0, z1, f0, f1⟩ := FV.out _ b2) | (go_at_call 55; (with_reducible refine (CS.out _ b2).mono ?_); rintro e w3 ⟨A3, c3, rfl, hc3, ho3, hr3, hq3⟩; (have b3 := bstep b2 hq3); clear q0 q1 z0 z1 f0 f1; obtain ⟨q0, q1, z0, z1, f0, f1⟩ := FV.out _ b3) | (go_at_call 56; (with_reducible refine (CJ.out _ b3).mono ?_); rintro e w4 ⟨A4, c4, rfl, hc4, ho4, hr4, hq4⟩; (have b4 := bstep b3 hq4); clear q0 q1 z0 z1 f0 f1; obtain ⟨q0, q1, z0, z1, f0, f1⟩ := FV.out _ b4))
  have hs2 : w.heap.size + 2 ≤ w2.heap.size := by have := b2.size; simpa using this
  have hs4 : w.heap.size + 2 ≤ w4.heap.size := by have := b4.size; simpa using this
  have ho3b := own_base (own_below ho3 hq4) hs2
  have hw4 := FB.out _ b4
  clear q0 q1 z0 z1 f0 f1
  go_loopw [6, 8] (fun out i wr => ∃ (k : Nat) (P : List Int), k ≤ J.length ∧ i = .int .i64 k ∧ P.length ≤ S.length + k ∧ P = insAll S (J.take k) ∧ wr.ownsRow (w.heap.size + 2) 3 1 out P.length (P.map intV) ∧ Below w4.heap.size w4 wr) (fun _ i _ => J.length - (intOf i).toNat)
  case atStart => exact ⟨0, S, Nat.zero_le _, rfl, Nat.le_refl _, rfl, ho3b, Below.refl _ _⟩
  case round =>
    obtain ⟨k, P, hk, rfl, hPl, hPe, hown, hbel⟩ := hrel
    have hbw := hw4.trans (hbel.mono hw4.size)
    by_cases hlt : k < J.length
    · obtain ⟨ad, u, rfl, _, hx, hcell⟩ := (hr4.below hbel).at_ hlt
      obtain ⟨x, hxk⟩ : ∃ x, J[k]? = some x := ⟨_, List.getElem?_eq_getElem hlt⟩
      have hux : u = .int .i64 x := by simp [hxk, intV] at hx; exact hx.symm
      rw [hux] at hcell
      have hsn := Lib.hid (show insAll S (J.take (k + 1)) = ins x P by rw [insAll_snoc hxk, hPe])
      obtain ⟨A5, c5, hv5, hc5, hr5⟩ := SliceOf.of_own (xs := P.map intV) (base := w.heap.size + 2) (e := 3) (by rw [List.length_map]; exact hown)
      rw [List.length_map] at hv5 hc5 hr5
      have CI := Lib.hid ((refInsert_any A5 c5 P x wr hr5 (by omega)).mono fun _ _ h => h.to (ins x P) (P.length + 1) rfl len_ins)
      have hlt2 : (k : Int) < (J.length : Int) := by omega
      clear hx hux hxk hPe
      subst hv5
      go_wp2_with (go_at_call 57; (with_reducible refine CI.out.mono ?_); rintro e w6 ⟨A6, c6, rfl, hc6, ho6, hr6, hq6⟩)
      go_roundw
      case rel => exact ⟨k + 1, ins x P, by omega, by go_num, by rw [len_ins]; omega, hsn.out.symm, by rw [len_ins]; exact own_base ho6 (Nat.le_trans hs4 hbel.size), bstep hbel hq6⟩
      case measure => simp [intOf]; omega
    · have he := Lib.hid (show next num l q = ((num + 1, P), 0) by rw [ht.out, hPe, List.take_of_length_le (by omega)])
      have hlt2 : ¬ (k : Int) < (J.length : Int) := by omega
      obtain ⟨A5, c5, hv5, hc5, hr5⟩ := SliceOf.of_own (xs := P.map intV) (base := w.heap.size + 2) (e := 3) (by rw [List.length_map]; exact hown)
      rw [List.length_map] at hv5 hc5 hr5
      have bw := bstep b4 hbel
      obtain ⟨q0, q1, z0, z1, f0, f1⟩ := FV.out _ bw
      clear hPe
      subst hv5
      go_wp2
      refine bodyPost_ret (v := .tuple #[vwV (num + 1) A5 P.length c5, .int .i64 0]) (by simp [results, Try.results44, go_sem, vwV, z0, z1]) rfl ⟨A5, c5, ?_, ?_, ?_, ?_⟩
      · rw [he.out]; rfl
      · rw [he.out]; exact hc5
      · rw [he.out]; exact Reads.of_own (base := w.heap.size + 2) (e := 3) (by ((repeat (with_reducible refine own_setV ?_ (by simp) _)); exact hown))
      · repeat (with_reducible refine below_setV ?_ (by simp) _)
        exact hbw
end Go.Proofs.Ytmnagkjdnmnbkaa.V

/- The reference of layer 3: Encode, Decode; the law's own same, ones. -/
namespace Go.Proofs.Ytmnagkjdnmnbkaa.V
set_option linter.unusedVariables false
open Go.RowKit
open Go.Proofs.Ytmnagkjdnmnbkaa.W
open Go.Lib (byteCells byteCells_length byteCells_append byteCells_snoc)

theorem step_append_bytes3 {ops : Array Oper} {o : Oper} {a : Act} {K : Act → World → Prop} {Q : Exit → Act → World → Prop} {E : Prop} (W : World) (hgd : o.guard = none) (s x : Operand)
    (ho : o.op = .call { callee := .builtin .append, args := #[s, x], argTypes := #[40, 40] }) (base : Nat) (v : Value) (l news : List UInt8) (B m c : Nat) (A : Option Addr) (hs : a.eval s = v)
    (hown : W.ownsRow base 5 1 v l.length (byteCells l)) (hx : a.eval x = .slice A m c) (hr : Reads W B 1 A m (byteCells news))
    (hl : l.length + news.length ≤ 8796093022208) (hbase : base ≤ W.heap.size)
    (h : ∀ v' w', w'.ownsRow base 5 1 v' (l ++ news).length (byteCells (l ++ news)) → Below base W w' → K (a.put o.dst v') w') :
    if Region.wanted o (yielded ops a.tmps) = true then Oper.wp Try.prog o a W K Q else E := by
  obtain ⟨i0, hi, hz0, hz1, hz2⟩ := info_parts u8Info
  have hm := hr.len
  refine step_append_any W hgd s x 40 ho base 5 i0 _ 1 1 Try.underlying40 hi hz0 hz1 hz2 rfl (by decide) v _ _ hs hown B A m c _ hx hr (byteCells_one' _) ?_ ?_ hbase ?_
  · unfold maxLen; omega
  · omega
  · intro v' w' h1 h2 _
    refine h v' w' ?_ ((Below.refl _ _).grown h2 hbase fun q hq => (hown.lt q hq).1)
    rw [byteCells_append, List.length_append, ← hm]
    exact h1
/-- The encoding of a view, and the reading of one. -/
def encV (num : Int) (l : List Int) : List UInt8 := if validV num l then enU num.toNat ++ enIs l else []
def decV (b : List UInt8) : ((Int × List Int) × Nat) × Nat :=
  if (rdU b).2.2 ≠ 0 then (((0, []), 0), (rdU b).2.2)
  else if 1099511627776 < (rdU b).1 then (((0, []), 0), 3)
  else if (rdIs (b.drop (rdU b).2.1) 16).2.2 ≠ 0 then (((0, []), 0), (rdIs (b.drop (rdU b).2.1) 16).2.2)
  else if validM (rdIs (b.drop (rdU b).2.1) 16).1 = false then (((0, []), 0), 3)
  else ((((rdU b).1, (rdIs (b.drop (rdU b).2.1) 16).1), (rdU b).2.1 + (rdIs (b.drop (rdU b).2.1) 16).2.1), 0)
end Go.Proofs.Ytmnagkjdnmnbkaa.V

/- The reference of layer 3: Decode; the law's own same and ones. -/
namespace Go.Proofs.Ytmnagkjdnmnbkaa.V
set_option linter.unusedVariables false
open Go.RowKit
open Go.Proofs.Ytmnagkjdnmnbkaa.W
open Go.Lib (byteCells byteCells_length byteCells_append byteCells_snoc)

theorem blk2f {W : World} {g : Nat} {t : TypeId} {a b : Value} (h : Blk W g t #[a, b]) : W.cell? ⟨g, 0, none⟩ = some a ∧ W.cell? ⟨g, 1, none⟩ = some b ∧ W.frozen? ⟨g, 0, none⟩ = false ∧ W.frozen? ⟨g, 1, none⟩ = false := ⟨h.cell 0, h.cell 1, h.frozen 0, h.frozen 1⟩
/-- A decoded list, written out, with its row. -/
def RowO (w : World) (l : List Int) (k n err : Nat) (en : Ending) (w' : World) : Prop :=
  ∃ A c, en = .returned (.tuple #[.slice A k c, .int .i64 n, .int .i64 err]) ∧ k ≤ c ∧ w'.ownsRow w.heap.size 3 1 (.slice A k c) k (l.map intV) ∧ Reads w' w'.heap.size 1 A k (l.map intV) ∧ Below w.heap.size w w'
theorem rowO_of {w : World} {l : List Int} {n err : Nat} {en : Ending} {w' : World} (h : ListPost w 3 (l.map intV) n err en w') : RowO w l l.length n err en w' := by
  obtain ⟨v, he, ho, hb⟩ := h
  obtain ⟨L, d, rfl, hd, hL⟩ := SliceOf.of_own ho
  rw [List.length_map] at hd hL he ho
  exact ⟨L, d, he, hd, ho, hL, hb⟩
def DecPost (w : World) (r : ((Int × List Int) × Nat) × Nat) (e : Ending) (w' : World) : Prop :=
  ∃ A c, e = .returned (.tuple #[vwV r.1.1.1 A r.1.1.2.length c, .int .i64 r.1.2, .int .i64 r.2]) ∧ r.1.1.2.length ≤ c ∧ Reads w' w'.heap.size 1 A r.1.1.2.length (r.1.1.2.map intV) ∧ Below w.heap.size w w'
theorem pop_step {k x : Nat} (h : x < 2 ^ (k + 1)) : pop (k + 1) x = x % 2 + pop k (x / 2) := rfl
theorem and_one32 {x : Nat} (hx : x < 4294967296) : bits .and .u32 (x : Int) 1 = ((x % 2 : Nat) : Int) := by
  have h := u32_and_nat x 1 hx (by decide)
  rw [Nat.and_one_is_mod] at h
  exact h
end Go.Proofs.Ytmnagkjdnmnbkaa.V

/- Package view: ascending lists, places, quorums, valid views. -/
namespace Go.Proofs.Ytmnagkjdnmnbkaa.V
set_option linter.unusedVariables false
open Go.RowKit
open Go.Proofs.Ytmnagkjdnmnbkaa.W

/-- What the program's loop over a list finds: each element greater than the one ahead, the last one no greater than 1000. -/
def upF (p : Int) : List Int → Bool
  | [] => decide (p ≤ 1000)
  | x :: t => decide (p < x) && upF x t
theorem upF_eq : ∀ {l : List Int} {p : Int}, 0 ≤ p → upF p l = (decide (p ≤ 1000) && riseF p l)
  | [], p, hp => by simp [upF, riseF]
  | x :: t, p, hp => by
    unfold upF riseF
    by_cases h : p < x
    · rw [upF_eq (l := t) (by omega)]
      by_cases h2 : x ≤ 1000
      · have h3 : p ≤ 1000 := by omega
        have h4 : 1 ≤ x := by omega
        simp [isID, h, h2, h3, h4]
      · simp [isID, h2]
    · simp [h]
theorem upF_rising (l : List Int) : upF 0 l = rising l := by rw [upF_eq (Int.le_refl _)]; rfl
/-- A number, and nothing of what was there written. -/
def PI (w : World) (n : Int) (e : Ending) (w' : World) : Prop := e = .returned (.int .i64 n) ∧ Below w.heap.size w w'
set_option maxRecDepth 100000 in
set_option maxHeartbeats 1000000 in
theorem viewAsc_any (L : Option Addr) (c B : Nat) (l : List Int) (m : Int) (w : World) (h : LS w B l L c) (hm : 0 ≤ m ∧ m ≤ 32) :
    Calls Try.prog 58 #[.slice L l.length c, .int .i64 m] w (PB w (decide (1 ≤ l.length) && decide ((l.length : Int) ≤ m) && rising l)) := by
  have hr := h.rd
  have hl40 := h.l40
  have HE := Lib.hid h.el
  clear h
  obtain ⟨hm0, hm1⟩ := hm
  by_cases h1 : l.length = 0
  · have ht := Lib.hid (show (decide (1 ≤ l.length) && decide ((l.length : Int) ≤ m) && rising l) = false by simp [h1])
    have f1 : ((l.length : Int) == 0) = true := beqT (by omega)
    clear h1
    generalize (decide (1 ≤ l.length) && decide ((l.length : Int) ≤ m) && rising l) = r at *
    go_enter Try.func58, Try.ntmps58
    go_wp2_with fail
    go_ret
    exact ⟨retB' ht.out, Below.refl _ _⟩
  have f1 : ((l.length : Int) == 0) = false := beqF (by omega)
  by_cases h2 : (l.length : Int) ≤ m
  · have ht := Lib.hid (show (decide (1 ≤ l.length) && decide ((l.length : Int) ≤ m) && rising l) = upF 0 l by
      rw [upF_rising]; simp [h2]; omega)
    have f2 : ¬ m < (l.length : Int) := by omega
    generalize (decide (1 ≤ l.length) && decide ((l.length : Int) ≤ m) && rising l) = r at *
    clear h1 h2
    go_enter Try.func58, Try.ntmps58
    go_wp2_with fail
    clear f1 f2
    go_loop [5, 19] (fun p j => ∃ (k : Nat) (q : Int), k ≤ l.length ∧ p = .int .i64 q ∧ j = .int .i64 k ∧ upF q (l.drop k) = upF 0 l) (fun _ j => l.length - (intOf j).toNat)
    case atStart => exact ⟨0, 0, Nat.zero_le _, rfl, rfl, rfl⟩
    case round =>
      obtain ⟨k, q, hk, rfl, rfl, hd⟩ := hrel
      by_cases hlt : k < l.length
      · obtain ⟨ad, u, rfl, _, hx, hcell⟩ := hr.at_ hlt
        have hux : u = .int .i64 l[k] := by simp [hlt, intV] at hx; exact hx.symm
        rw [hux] at hcell
        have hdk : l.drop k = l[k] :: l.drop (k + 1) := List.drop_eq_getElem_cons hlt
        generalize l[k] = x at *
        rw [hdk] at hd
        have HD := Lib.hid hd
        have hlt2 : (k : Int) < (l.length : Int) := by omega
        clear hd hdk hx hux
        by_cases hq : x ≤ q
        · have ht2 := Lib.hid (show r = false by rw [ht.out, ← HD.out]; simp [upF]; omega)
          go_wp2_with fail
          go_ret
          exact ⟨retB' ht2.out, Below.refl _ _⟩
        · have ht2 := Lib.hid (show upF x (l.drop (k + 1)) = upF 0 l by rw [← HD.out]; simp [upF]; omega)
          go_wp2_with fail
          go_round
          case rel => exact ⟨k + 1, x, by omega, rfl, by go_num, ht2.out⟩
          case measure => simp [intOf]; omega
      · have ht2 := Lib.hid (show r = decide (q ≤ 1000) by rw [ht.out, ← hd, List.drop_eq_nil_of_le (by omega)]; rfl)
        have hlt2 : ¬ (k : Int) < (l.length : Int) := by omega
        clear hd
        go_wp2_with fail
        go_ret
        exact ⟨retB' ht2.out, Below.refl _ _⟩
  · have ht := Lib.hid (show (decide (1 ≤ l.length) && decide ((l.length : Int) ≤ m) && rising l) = false by simp [h2])
    have f2 : m < (l.length : Int) := by omega
    clear h1 h2
    generalize (decide (1 ≤ l.length) && decide ((l.length : Int) ≤ m) && rising l) = r at *
    go_enter Try.func58, Try.ntmps58
    go_wp2_with fail
    go_ret
    exact ⟨retB' ht.out, Below.refl _ _⟩
set_option maxRecDepth 100000 in
theorem viewValidM_any (L : Option Addr) (c B : Nat) (l : List Int) (w : World) (h : LS w B l L c) (hB : B ≤ w.heap.size) : Calls Try.prog 46 #[.slice L l.length c] w (PB w (validM l)) := by
  have C := Lib.hid (viewAsc_any L c B l 16 w h (by omega))
  have ht := Lib.hid (show (decide (1 ≤ l.length) && decide ((l.length : Int) ≤ 16) && rising l) = validM l by unfold validM; congr 2; exact decide_eq_decide.2 (by omega))
  rw [ht.out] at C
  clear h
  go_enter Try.func46, Try.ntmps46
  go_wp2_with (go_at_call 58; (with_reducible refine C.out.mono ?_); rintro e w1 ⟨rfl, b1⟩)
  go_ret
  exact ⟨rfl, b1⟩
set_option maxRecDepth 100000 in
theorem viewValidC_any (L : Option Addr) (c B : Nat) (l : List Int) (w : World) (h : LS w B l L c) (hB : B ≤ w.heap.size) : Calls Try.prog 49 #[.slice L l.length c] w (PB w (validC l)) := by
  have C := Lib.hid (viewAsc_any L c B l 32 w h (by omega))
  have ht := Lib.hid (show (decide (1 ≤ l.length) && decide ((l.length : Int) ≤ 32) && rising l) = validC l by unfold validC; congr 2; exact decide_eq_decide.2 (by omega))
  rw [ht.out] at C
  clear h
  go_enter Try.func49, Try.ntmps49
  go_wp2_with (go_at_call 58; (with_reducible refine C.out.mono ?_); rintro e w1 ⟨rfl, b1⟩)
  go_ret
  exact ⟨rfl, b1⟩
set_option maxRecDepth 100000 in
set_option maxHeartbeats 400000 in
theorem indexInt_any (L : Option Addr) (c B : Nat) (l : List Int) (id : Int) (w : World) (hr : Reads w B 1 L l.length (l.map intV)) (hl : l.length ≤ 1099511627776) :
    Calls Try.prog 52 #[.slice L l.length c, .int .i64 id] w fun e w' => e = .returned (.int .i64 (place l id)) ∧ ∃ n, w' = w.drewN n := by
  go_enter Try.func52, Try.ntmps52
  go_wp2
  go_loopw [8] (fun j wr => ∃ k n : Nat, k ≤ l.length ∧ j = .int .i64 k ∧ wr = w.drewN n ∧ placeF id k (l.drop k) = place l id) (fun j _ => l.length - (intOf j).toNat)
  case atStart => exact ⟨0, 0, Nat.zero_le _, rfl, rfl, rfl⟩
  case round =>
    obtain ⟨k, n, hk, rfl, rfl, hd⟩ := hrel
    by_cases hlt : k < l.length
    · obtain ⟨ad, u, rfl, _, hx, hcell⟩ := hr.at_ hlt
      have hux : u = .int .i64 l[k] := by simp [hlt, intV] at hx; exact hx.symm
      rw [hux] at hcell
      have hdk : l.drop k = l[k] :: l.drop (k + 1) := List.drop_eq_getElem_cons hlt
      generalize l[k] = x at *
      rw [hdk] at hd
      have HD := Lib.hid hd
      have hlt2 : (k : Int) < (l.length : Int) := by omega
      clear hd hdk hx hux
      by_cases hxe : id = x
      · have fe : (id == x) = true := beqT hxe
        have ht := Lib.hid (show (k : Int) = place l id by rw [← HD.out]; simp [placeF, hxe])
        clear hxe
        go_wp2_with fail
        go_ret
        exact ⟨retI64 ht.out, _, rfl⟩
      · have fe : (id == x) = false := beqF hxe
        have ht := Lib.hid (show placeF id (k + 1) (l.drop (k + 1)) = place l id by rw [← HD.out, placeF, if_neg (Ne.symm hxe)])
        clear hxe
        go_wp2_with fail
        go_roundw
        case rel => exact ⟨k + 1, _, by omega, by go_num, rfl, ht.out⟩
        case measure => simp [intOf]; omega
    · have ht := Lib.hid (show (-1 : Int) = place l id by rw [← hd, List.drop_eq_nil_of_le (by omega)]; rfl)
      have hlt2 : ¬ (k : Int) < (l.length : Int) := by omega
      clear hd
      go_wp2
      go_ret
      exact ⟨retI64 ht.out, _, rfl⟩
set_option maxRecDepth 100000 in
theorem viewPlace_any (L : Option Addr) (c B : Nat) (l : List Int) (id : Int) (w : World) (h : LS w B l L c) (hB : B ≤ w.heap.size) : Calls Try.prog 41 #[.slice L l.length c, .int .i64 id] w (PI w (place l id)) := by
  have C := Lib.hid (indexInt_any L c B l id w h.rd h.l40)
  clear h
  go_enter Try.func41, Try.ntmps41
  go_wp2_with (go_at_call 52; (with_reducible refine C.out.mono ?_); rintro e w1 ⟨rfl, n, rfl⟩)
  go_ret
  exact ⟨rfl, below_drewN' (Below.refl _ _) n⟩
set_option maxRecDepth 100000 in
theorem viewContains_any (L : Option Addr) (c B : Nat) (l : List Int) (id : Int) (w : World) (h : LS w B l L c) (hB : B ≤ w.heap.size) : Calls Try.prog 25 #[.slice L l.length c, .int .i64 id] w (PB w (hasB l id)) := by
  have C := Lib.hid (viewPlace_any L c B l id w h hB)
  have ht := Lib.hid (show hasB l id = decide (0 ≤ place l id) from rfl)
  clear h
  generalize place l id = p at *
  go_enter Try.func25, Try.ntmps25
  go_wp2_with (go_at_call 41; (with_reducible refine C.out.mono ?_); rintro e w1 ⟨rfl, b1⟩)
  go_ret
  exact ⟨retB' ht.out, b1⟩
set_option maxRecDepth 100000 in
theorem viewPoss_any (n : Int) (w : World) (hn : In64 n) : Calls Try.prog 47 #[.int .i64 n] w fun e w' => e = .returned (.bool (decide (1 ≤ n) && decide (n ≤ 16))) ∧ w = w' := by
  obtain ⟨h1, h2⟩ := hn
  by_cases ha : 1 ≤ n
  · have ht := Lib.hid (show (decide (1 ≤ n) && decide (n ≤ 16)) = decide (n ≤ 16) by simp [ha])
    generalize (decide (1 ≤ n) && decide (n ≤ 16)) = r at *
    go_enter Try.func47, Try.ntmps47
    go_wp2
    go_ret
    exact ⟨retB' ht.out, rfl⟩
  · have ht := Lib.hid (show (decide (1 ≤ n) && decide (n ≤ 16)) = false by simp [ha])
    generalize (decide (1 ≤ n) && decide (n ≤ 16)) = r at *
    go_enter Try.func47, Try.ntmps47
    go_wp2
    go_ret
    exact ⟨retB' ht.out, rfl⟩
set_option maxRecDepth 100000 in
theorem viewFast_any (n : Int) (w : World) (hn : In64 n) : Calls Try.prog 37 #[.int .i64 n] w (PI w (fastQ n)) := by
  have CP := viewPoss_any n w hn
  obtain ⟨h1, h2⟩ := hn
  by_cases ha : n < 1 ∨ 16 < n
  · have hf : (decide (1 ≤ n) && decide (n ≤ 16)) = false := by rcases ha with ha | ha <;> simp <;> omega
    rw [hf] at CP
    have C := Lib.hid CP
    have ht := Lib.hid (show (0 : Int) = fastQ n by unfold fastQ; rw [if_pos ha])
    clear CP hf ha
    go_enter Try.func37, Try.ntmps37
    go_wp2_with (go_at_call 47; (with_reducible refine C.out.mono ?_); rintro e w1 ⟨rfl, rfl⟩)
    go_ret
    exact ⟨retI64 ht.out, Below.refl _ _⟩
  · have hf : (decide (1 ≤ n) && decide (n ≤ 16)) = true := by simp; omega
    rw [hf] at CP
    have C := Lib.hid CP
    have ht := Lib.hid (show n - (n - 1) / 4 = fastQ n by unfold fastQ; rw [if_neg ha])
    have n1 : 1 ≤ n := by omega
    have n2 : n ≤ 16 := by omega
    clear CP hf ha
    go_enter Try.func37, Try.ntmps37
    go_wp2_with (go_at_call 47; (with_reducible refine C.out.mono ?_); rintro e w1 ⟨rfl, rfl⟩)
    go_ret
    exact ⟨retI64 (by rw [← ht.out]; try omega), Below.refl _ _⟩
set_option maxRecDepth 100000 in
set_option maxHeartbeats 400000 in
theorem viewValid_any (num : Int) (l : List Int) (A : Option Addr) (c B : Nat) (w : World) (h : VW w B num l A c) (hB : B ≤ w.heap.size) :
    Calls Try.prog 34 #[vwV num A l.length c] w (PB w (validV num l)) := by
  have hb0 := (Below.refl w.heap.size w).alloc (Nat.le_refl _) (.cells #[.int .i64 num, .slice A l.length c] 24)
  have CM := Lib.hid (fun W (hW : Below w.heap.size w W) => viewValidM_any A c w.heap.size l W ((h.more hB).below hW).ls hW.size)
  have hs0 := Lib.hid (show (w.alloc (.cells #[.int .i64 num, .slice A l.length c] 24)).heap.size = w.heap.size + 1 by simp)
  obtain ⟨n1, n2⟩ := h.num64
  dsimp only [vwV]
  by_cases h1 : 0 ≤ num
  · by_cases h2 : num ≤ 1099511627776
    · have ht := Lib.hid (show validV num l = validM l by simp [validV, h1, h2])
      clear h
      go_enter Try.func34, Try.ntmps34
      go_wp2_with (go_at_call 46; (with_reducible refine (CM.out _ hb0).mono ?_); rintro e w1 ⟨rfl, b1⟩)
      go_ret
      exact ⟨retB' ht.out, hb0.trans (b1.mono (by rw [hs0.out]; omega))⟩
    · have ht := Lib.hid (show validV num l = false by simp [validV, h1, h2])
      clear h CM
      go_enter Try.func34, Try.ntmps34
      go_wp2_with fail
      go_ret
      exact ⟨retB' ht.out, hb0⟩
  · have ht := Lib.hid (show validV num l = false by simp [validV, h1])
    clear h CM
    go_enter Try.func34, Try.ntmps34
    go_wp2_with fail
    go_ret
    exact ⟨retB' ht.out, hb0⟩
end Go.Proofs.Ytmnagkjdnmnbkaa.V

/- Package view: the merging of two ascending lists as plain mathematics; rows of the call's own side by side. -/
namespace Go.Proofs.Ytmnagkjdnmnbkaa.V
set_option linter.unusedVariables false
open Go.RowKit
open Go.Proofs.Ytmnagkjdnmnbkaa.W

/-- What the labelled loop gives: only the first list has, both have, only the second one has. -/
def mrg : List Int → List Int → List Int × List Int × List Int
  | [], b => ([], [], b)
  | x :: a, [] => (x :: (mrg a []).1, (mrg a []).2.1, (mrg a []).2.2)
  | x :: a, y :: b =>
    if y < x then ((mrg (x :: a) b).1, (mrg (x :: a) b).2.1, y :: (mrg (x :: a) b).2.2)
    else if y = x then ((mrg a b).1, x :: (mrg a b).2.1, (mrg a b).2.2)
    else (x :: (mrg a (y :: b)).1, (mrg a (y :: b)).2.1, (mrg a (y :: b)).2.2)
termination_by a b => a.length + b.length
theorem among_cons (x : Int) (l m : List Int) (b : Bool) : among (x :: l) m b = if decide (x ∈ m) = b then x :: among l m b else among l m b := by
  unfold among
  rw [List.filter_cons, hasB_mem]
  cases b <;> by_cases h : x ∈ m <;> simp [h]
theorem among_congr {l m m' : List Int} {b : Bool} (h : ∀ x ∈ l, x ∈ m ↔ x ∈ m') : among l m b = among l m' b := by
  unfold among
  refine List.filter_congr fun x hx => ?_
  rw [hasB_mem, hasB_mem, decide_eq_decide.2 (h x hx)]
theorem among_nil_left (m : List Int) (b : Bool) : among [] m b = [] := rfl
theorem among_nil_right (l : List Int) : among l [] false = l ∧ among l [] true = [] := by
  unfold among
  constructor
  · rw [List.filter_eq_self]; intro x hx; rfl
  · rw [List.filter_eq_nil_iff]; intro x hx; simp [hasB, place, placeF]
theorem Asc.tail {x : Int} {t : List Int} (h : Asc (x :: t)) : Asc t ∧ ∀ y ∈ t, x < y := by
  unfold Asc at h ⊢
  rw [List.pairwise_cons] at h
  exact ⟨h.2, h.1⟩
theorem mrg_eq : ∀ {a b : List Int}, Asc a → Asc b → mrg a b = (among a b false, among a b true, among b a false)
  | [], b, _, _ => by rw [mrg, among_nil_left, among_nil_left, (among_nil_right b).1]
  | x :: a, [], ha, hb => by
    rw [mrg, mrg_eq (a := a) (b := []) ha.tail.1 hb]
    simp only [among_nil_left, (among_nil_right _).1, (among_nil_right _).2]
  | x :: a, y :: b, ha, hb => by
    rw [mrg]
    obtain ⟨ha', hxa⟩ := ha.tail
    obtain ⟨hb', hyb⟩ := hb.tail
    by_cases h1 : y < x
    · rw [if_pos h1, mrg_eq (a := x :: a) (b := b) ha hb']
      have hy : y ∉ x :: a := fun hm => by
        rcases List.mem_cons.1 hm with e | hm
        · omega
        · have := hxa y hm; omega
      have hc : ∀ c, among (x :: a) (y :: b) c = among (x :: a) b c := fun c => among_congr fun z hz => by
        rw [List.mem_cons]
        exact ⟨fun h => h.resolve_left fun e => hy (e ▸ hz), .inr⟩
      rw [hc, hc, among_cons y b]
      simp [hy]
    · rw [if_neg h1]
      by_cases h2 : y = x
      · subst h2
        rw [if_pos rfl, mrg_eq (a := a) (b := b) ha' hb']
        have e1 : ∀ c, among a (y :: b) c = among a b c := fun c => among_congr fun z hz => by
          rw [List.mem_cons]
          exact ⟨fun h => h.resolve_left fun e => by have := hxa z hz; omega, .inr⟩
        have e2 : among b (y :: a) false = among b a false := among_congr fun z hz => by
          rw [List.mem_cons]
          exact ⟨fun h => h.resolve_left fun e => by have := hyb z hz; omega, .inr⟩
        rw [among_cons, among_cons, among_cons, e1, e1, e2]
        simp
      · rw [if_neg h2, mrg_eq (a := a) (b := y :: b) ha' hb]
        have hx : x ∉ y :: b := fun hm => by
          rcases List.mem_cons.1 hm with e | hm
          · omega
          · have := hyb x hm; omega
        have hc : among (y :: b) (x :: a) false = among (y :: b) a false := among_congr fun z hz => by
          rw [List.mem_cons]
          exact ⟨fun h => h.resolve_left fun e => hx (e ▸ hz), .inr⟩
        rw [among_cons x a, among_cons x a, hc]
        simp [hx]
termination_by a b => a.length + b.length
theorem mrg_nil (b : List Int) : mrg [] b = ([], [], b) := by rw [mrg]
theorem mrg_left (x : Int) (a : List Int) : mrg (x :: a) [] = (x :: (mrg a []).1, (mrg a []).2.1, (mrg a []).2.2) := by rw [mrg]
theorem mrg_lt {x y : Int} {a b : List Int} (h : y < x) : mrg (x :: a) (y :: b) = ((mrg (x :: a) b).1, (mrg (x :: a) b).2.1, y :: (mrg (x :: a) b).2.2) := by rw [mrg, if_pos h]
theorem mrg_same {x : Int} {a b : List Int} : mrg (x :: a) (x :: b) = ((mrg a b).1, x :: (mrg a b).2.1, (mrg a b).2.2) := by rw [mrg, if_neg (by omega), if_pos rfl]
theorem mrg_gt {x y : Int} {a b : List Int} (h : x < y) : mrg (x :: a) (y :: b) = (x :: (mrg a (y :: b)).1, (mrg a (y :: b)).2.1, (mrg a (y :: b)).2.2) := by rw [mrg, if_neg (by omega), if_neg (by omega)]
/-- How far the labelled loop has come: what it holds, ahead of what is to come, is the whole. -/
def Came (a b L M R ra rb : List Int) : Prop := mrg a b = (L ++ (mrg ra rb).1, M ++ (mrg ra rb).2.1, R ++ (mrg ra rb).2.2)
theorem Came.start (a b : List Int) : Came a b [] [] [] a b := by unfold Came; simp
theorem Came.left {a b L M R : List Int} {x : Int} {ra rb : List Int} (h : Came a b L M R (x :: ra) rb) (hr : rb = [] ∨ ∃ y t, rb = y :: t ∧ x < y) : Came a b (L ++ [x]) M R ra rb := by
  unfold Came at h ⊢
  rw [h]
  rcases hr with rfl | ⟨y, t, rfl, hlt⟩
  · rw [mrg_left]; simp
  · rw [mrg_gt hlt]; simp
theorem Came.both {a b L M R : List Int} {x : Int} {ra rb : List Int} (h : Came a b L M R (x :: ra) (x :: rb)) : Came a b L (M ++ [x]) R ra rb := by
  unfold Came at h ⊢
  rw [h, mrg_same]; simp
theorem Came.right {a b L M R : List Int} {x y : Int} {ra rb : List Int} (h : Came a b L M R (x :: ra) (y :: rb)) (hlt : y < x) : Came a b L M (R ++ [y]) (x :: ra) rb := by
  unfold Came at h ⊢
  rw [h, mrg_lt hlt]; simp
theorem Came.done {a b L M R rb : List Int} (h : Came a b L M R [] rb) (ha : Asc a) (hb : Asc b) : L = among a b false ∧ M = among a b true ∧ R ++ rb = among b a false := by
  unfold Came at h
  rw [mrg_eq ha hb, mrg_nil] at h
  simp only [Prod.mk.injEq, List.append_nil] at h
  exact ⟨h.1.symm, h.2.1.symm, h.2.2.symm⟩
/-- The merging of two ascending lists. -/
def mgF : List Int → List Int → List Int
  | [], b => b
  | x :: a, [] => x :: mgF a []
  | x :: a, y :: b => if y < x then y :: mgF (x :: a) b else x :: mgF a (y :: b)
termination_by a b => a.length + b.length
theorem mgF_nil (b : List Int) : mgF [] b = b := by rw [mgF]
theorem mgF_left (x : Int) (a : List Int) : mgF (x :: a) [] = x :: mgF a [] := by rw [mgF]
theorem mgF_lt {x y : Int} {a b : List Int} (h : y < x) : mgF (x :: a) (y :: b) = y :: mgF (x :: a) b := by rw [mgF, if_pos h]
theorem mgF_ge {x y : Int} {a b : List Int} (h : ¬ y < x) : mgF (x :: a) (y :: b) = x :: mgF a (y :: b) := by rw [mgF, if_neg h]
theorem mem_mgF {z : Int} : ∀ {a b : List Int}, z ∈ mgF a b ↔ z ∈ a ∨ z ∈ b
  | [], b => by simp [mgF_nil]
  | x :: a, [] => by rw [mgF_left, List.mem_cons, mem_mgF (a := a) (b := [])]; simp
  | x :: a, y :: b => by
    by_cases h : y < x
    · rw [mgF_lt h, List.mem_cons, mem_mgF (a := x :: a) (b := b), List.mem_cons (l := b)]
      constructor
      · rintro (h | h | h)
        · exact .inr (.inl h)
        · exact .inl h
        · exact .inr (.inr h)
      · rintro (h | h | h)
        · exact .inr (.inl h)
        · exact .inl h
        · exact .inr (.inr h)
    · rw [mgF_ge h, List.mem_cons, mem_mgF (a := a) (b := y :: b), List.mem_cons (l := a), or_assoc]
termination_by a b => a.length + b.length
theorem len_mgF : ∀ {a b : List Int}, (mgF a b).length = a.length + b.length
  | [], b => by simp [mgF_nil]
  | x :: a, [] => by rw [mgF_left, List.length_cons, len_mgF (a := a) (b := [])]; simp
  | x :: a, y :: b => by
    by_cases h : y < x
    · rw [mgF_lt h, List.length_cons, len_mgF (a := x :: a) (b := b)]; simp; omega
    · rw [mgF_ge h, List.length_cons, len_mgF (a := a) (b := y :: b)]; simp; omega
termination_by a b => a.length + b.length
theorem asc_mgF : ∀ {a b : List Int}, Asc a → Asc b → (∀ x ∈ a, x ∉ b) → Asc (mgF a b)
  | [], b, _, hb, _ => by rw [mgF_nil]; exact hb
  | x :: a, [], ha, hb, hd => by
    rw [mgF_left]
    have h := asc_mgF ha.tail.1 hb fun z hz => by simp
    unfold Asc at h ⊢
    rw [List.pairwise_cons]
    exact ⟨fun z hz => (mem_mgF.1 hz).elim (ha.tail.2 z) fun h => by simp at h, h⟩
  | x :: a, y :: b, ha, hb, hd => by
    obtain ⟨ha', hxa⟩ := ha.tail
    obtain ⟨hb', hyb⟩ := hb.tail
    have hxy : x ≠ y := fun e => hd x (by simp) (by simp [e])
    by_cases h : y < x
    · rw [mgF_lt h]
      have hh := asc_mgF ha hb' fun z hz hm => hd z hz (by simp [hm])
      unfold Asc at hh ⊢
      rw [List.pairwise_cons]
      refine ⟨fun z hz => ?_, hh⟩
      rcases mem_mgF.1 hz with hz | hz
      · rcases List.mem_cons.1 hz with e | hz
        · omega
        · have := hxa z hz; omega
      · exact hyb z hz
    · rw [mgF_ge h]
      have hh := asc_mgF ha' hb fun z hz hm => hd z (by simp [hz]) hm
      unfold Asc at hh ⊢
      rw [List.pairwise_cons]
      refine ⟨fun z hz => ?_, hh⟩
      rcases mem_mgF.1 hz with hz | hz
      · exact hxa z hz
      · rcases List.mem_cons.1 hz with e | hz
        · omega
        · have := hyb z hz; omega
termination_by a b => a.length + b.length
theorem mgF_eq {a b : List Int} (ha : Asc a) (hb : Asc b) (hd : ∀ x ∈ b, x ∉ a) : mgF a b = insAll a b :=
  Asc.ext (asc_mgF ha hb fun x hx hm => hd x hm hx) (Asc.insAll ha hb hd) fun x => by rw [mem_mgF, mem_insAll]
/-! ### rows of the call's own side by side -/
def Apt (v u : Value) : Prop := v.ownBlock = none ∨ v.ownBlock ≠ u.ownBlock
theorem Apt.symm {v u : Value} (h : Apt v u) : Apt u v := by
  unfold Apt at h ⊢
  rcases h with h | h
  · cases hu : u.ownBlock with
    | none => exact .inl rfl
    | some k => exact .inr (by rw [h]; simp)
  · exact .inr fun e => h e.symm
/-- Three rows that share no block. -/
structure Row3 (w : World) (base : Nat) (v1 v2 v3 : Value) (l1 l2 l3 : List Int) : Prop where
  o1 : w.ownsRow base 3 1 v1 l1.length (l1.map intV)
  o2 : w.ownsRow base 3 1 v2 l2.length (l2.map intV)
  o3 : w.ownsRow base 3 1 v3 l3.length (l3.map intV)
  a12 : Apt v1 v2
  a13 : Apt v1 v3
  a23 : Apt v2 v3
theorem Row3.turn {w : World} {base : Nat} {v1 v2 v3 : Value} {l1 l2 l3 : List Int} (h : Row3 w base v1 v2 v3 l1 l2 l3) : Row3 w base v2 v3 v1 l2 l3 l1 := ⟨h.o2, h.o3, h.o1, h.a23, h.a12.symm, h.a13.symm⟩
theorem Row3.nil_ (w : World) (base : Nat) : Row3 w base (.slice none 0 0) (.slice none 0 0) (.slice none 0 0) [] [] [] :=
  ⟨World.ownsRow_nil _ _ _ _, World.ownsRow_nil _ _ _ _, World.ownsRow_nil _ _ _ _, .inl rfl, .inl rfl, .inl rfl⟩
theorem Row3.alloc {w : World} {base : Nat} {v1 v2 v3 : Value} {l1 l2 l3 : List Int} (h : Row3 w base v1 v2 v3 l1 l2 l3) (o : Obj) : Row3 (w.alloc o) base v1 v2 v3 l1 l2 l3 :=
  { h with o1 := h.o1.alloc o, o2 := h.o2.alloc o, o3 := h.o3.alloc o }
theorem Row3.below {w w' : World} {base : Nat} {v1 v2 v3 : Value} {l1 l2 l3 : List Int} (h : Row3 w base v1 v2 v3 l1 l2 l3) (hb : Below w.heap.size w w') : Row3 w' base v1 v2 v3 l1 l2 l3 :=
  { h with o1 := own_below h.o1 hb, o2 := own_below h.o2 hb, o3 := own_below h.o3 hb }
theorem apt_new {w : World} {base : Nat} {v v' u : Value} {l : List Int} (ho : w.ownsRow base 3 1 u l.length (l.map intV)) (ha : Apt v u) (hv : v'.ownBlock = v.ownBlock ∨ v'.ownBlock = some w.heap.size) : Apt v' u := by
  rcases hv with hv | hv
  · unfold Apt; rw [hv]; exact ha
  · refine .inr fun e => ?_
    rw [hv] at e
    have := (ho.lt _ e.symm).2
    omega
/-- Integers appended to the first of three rows. -/
theorem wp_append_tri {ops : Array Oper} {rest : List Oper} {o : Oper} {a : Act} {Q : Exit → Act → World → Prop} (W : World) (hgd : o.guard = none) (s x : Operand)
    (ho : o.op = .call { callee := .builtin .append, args := #[s, x], argTypes := #[22, 22] }) (base : Nat) (v v2 v3 : Value) (l l2 l3 news : List Int) (B m c : Nat) (A : Option Addr) (hs : a.eval s = v)
    (hown : Row3 W base v v2 v3 l l2 l3) (hx : a.eval x = .slice A m c) (hr : Reads W B 1 A m (news.map intV)) (hl : l.length + news.length ≤ 1099511627776) (hbase : base ≤ W.heap.size)
    (h : ∀ v' w', Row3 w' base v' v2 v3 (l ++ news) l2 l3 → Below base W w' → wpList Try.prog ops Q rest (a.put o.dst v') w') : wpList Try.prog ops Q (o :: rest) a W := by
  obtain ⟨i0, hi, hz0, hz1, hz2⟩ := info_parts intInfo
  have hm : m = news.length := by have := hr.1; rw [List.length_map] at this; omega
  refine wpList_append_any W hgd s x 22 ho base 3 i0 _ 1 8 Try.underlying22 hi hz0 hz1 hz2 rfl (by decide) v _ _ hs hown.o1 B A m c _ hx hr ?_ ?_ ?_ hbase ?_
  · intro u hu
    obtain ⟨z, _, rfl⟩ := List.mem_map.1 hu
    rfl
  · unfold maxLen; omega
  · omega
  · intro v' w' h1 h2 h3
    refine h v' w' ⟨?_, ?_, ?_, ?_, ?_, hown.a23⟩ ((Below.refl _ _).grown h2 hbase fun q hq => (hown.o1.lt q hq).1)
    · rw [List.map_append, List.length_append, ← hm]; exact h1
    · exact hown.o2.kept h2 hown.a12.symm
    · exact hown.o3.kept h2 hown.a13.symm
    · exact apt_new hown.o2 hown.a12 h3
    · exact apt_new hown.o3 hown.a13 h3
/-- .. one that lies in a new block. -/
theorem reads_one (w : World) (x : Int) : Reads (w.alloc (.cells #[.int .i64 x] 3)) (w.heap.size + 1) 1 (some ⟨w.heap.size, 0, none⟩) 1 (([x] : List Int).map intV) := by
  refine ⟨rfl, fun _ => ⟨_, rfl, Nat.lt_succ_self _, fun j u hu => ?_⟩⟩
  match j, hu with
  | 0, hu =>
    simp at hu; subst hu
    exact cell_new1 _ _ _
/-- What 's[k:]' gives, of a list of integers. -/
theorem slice_fromI {w : World} {B c k : Nat} {ki : Int} {A : Option Addr} {l : List Int} (h : Reads w B 1 A l.length (l.map intV)) (hn : l.length ≤ c) (hk : k ≤ l.length) (hki : ki = (k : Int)) :
    ∃ A', (∀ (W : World), (Instr.slice 22 (.slice A l.length c) (some (.int .i64 ki)) none none).run Try.prog W = .ok (.slice A' (l.length - k) (c - k)) W) ∧ Reads w B 1 A' (l.length - k) ((l.drop k).map intV) := by
  subst hki
  refine ⟨if c = k then A else A.map (·.add (k * 1)), fun W => ?_, ?_⟩
  · rw [run_slice_l W 22 A l.length c (by simp [go_sem]) .i64 k (by omega) (by omega)]
    simp [go_sem]
  · have := h.cut hk hn
    simpa using this
end Go.Proofs.Ytmnagkjdnmnbkaa.V

/- Package view: split, the labelled loop. -/
namespace Go.Proofs.Ytmnagkjdnmnbkaa.V
set_option linter.unusedVariables false
open Go.RowKit
open Go.Proofs.Ytmnagkjdnmnbkaa.W

def SplitPost (w : World) (L M R : List Int) (e : Ending) (w' : World) : Prop :=
  ∃ v1 v2 v3, e = .returned (.tuple #[v1, v2, v3]) ∧ Row3 w' w.heap.size v1 v2 v3 L M R ∧ Below w.heap.size w w'
theorem drop_at' {l : List Int} {k : Nat} {x : Int} (h : l[k]? = some x) : l.drop k = x :: l.drop (k + 1) := by
  obtain ⟨hk, rfl⟩ := List.getElem?_eq_some_iff.1 h
  exact List.drop_eq_getElem_cons hk
/-- Where the inner loop stops, its list is through or its next element is greater. -/
theorem stop_at {b : List Int} {n : Nat} {x y : Int} (h : b[n]? = some y) (hx : x < y) : b.drop n = [] ∨ ∃ z t, b.drop n = z :: t ∧ x < z := .inr ⟨y, _, drop_at' h, hx⟩
set_option maxRecDepth 1000000 in
set_option maxHeartbeats 2000000 in
theorem split_any (A C : Option Addr) (c d B : Nat) (a b : List Int) (w : World) (h : LS w B a A c) (h' : LS w B b C d) (hB : B ≤ w.heap.size) (ha : Asc a) (hb : Asc b) (hal : a.length ≤ 32) (hbl : b.length ≤ 32) :
    Calls Try.prog 50 #[.slice A a.length c, .slice C b.length d] w (SplitPost w (among a b false) (among a b true) (among b a false)) := by
  have RA := Lib.hid (fun W (hW : Below w.heap.size w W) => (h.rd.more hB).below hW)
  have RB := Lib.hid (fun W (hW : Below w.heap.size w W) => (h'.rd.more hB).below hW)
  have CB := Lib.hid h'.cap
  have HA := Lib.hid ha
  have HB := Lib.hid hb
  obtain ⟨na, hna⟩ : ∃ n, n = a.length := ⟨_, rfl⟩
  obtain ⟨nb, hnb⟩ : ∃ n, n = b.length := ⟨_, rfl⟩
  have HNA := Lib.hid hna
  have HNB := Lib.hid hnb
  rw [← hna] at hal RA ⊢
  rw [← hnb] at hbl RB CB ⊢
  clear h h' ha hb hna hnb
  go_enter Try.func50, Try.ntmps50
  go_wp2
  go_step3
  go_wp2
  go_step3
  go_wp2
  go_loopg [4, 5, 6, 7, 13] na (fun g s4 s5 s6 s7 s13 wr => ∃ (k n : Nat) (L M R : List Int), k + g = na ∧ n ≤ nb ∧ s7 = .int .i64 n ∧ s13 = .int .i64 k ∧ Hid (Came a b L M R (a.drop k) (b.drop n)) ∧ L.length ≤ k ∧ M.length ≤ k ∧ R.length ≤ n ∧ Hid (Row3 wr w.heap.size s4 s5 s6 L M R) ∧ Below w.heap.size w wr)
  case atStart => exact ⟨0, 0, [], [], [], by omega, Nat.zero_le _, rfl, rfl, Came.start a b, Nat.le_refl _, Nat.le_refl _, Nat.le_refl _, Row3.nil_ _ _, Below.refl _ _⟩
  case round =>
    obtain ⟨k, n, L, M, R, hkg, hn, rfl, rfl, HC, hL, hM, hR, HT, hbel⟩ := hrel
    obtain ⟨wo, rfl⟩ : ∃ wo : World, wo = wr := ⟨_, rfl⟩
    have hbs := hbel.size
    cases gk with
    | zero =>
      have hkz : ¬ ((k : Int) < (na : Int)) := by omega
      obtain ⟨A', hs', hrr⟩ := slice_fromI (w := wo) (B := w.heap.size) (l := b) (c := d) (A := C) (k := n) (ki := (n : Int)) (by have := RB.out wo hbel; rw [HNB.out] at this; exact this) (by have := CB.out; have := HNB.out; omega) (by have := HNB.out; omega) rfl
      rw [← HNB.out] at hs' hrr
      have HD := Lib.hid (Came.done (a := a) (b := b) (L := L) (M := M) (R := R) (rb := b.drop n) (by
        have := HC.out
        rwa [show a.drop k = [] from List.drop_eq_nil_of_le (by have := HNA.out; omega)] at this) HA.out HB.out)
      have hdl : (b.drop n).length ≤ 32 := by rw [List.length_drop]; have := HNB.out; omega
      have HRR := Lib.hid hrr
      clear hrr
      go_wp2_with (at_builtin; refine wp_append_tri _ rfl (.tmp 53) (.tmp 56) rfl w.heap.size _ _ _ R L M (b.drop n) _ _ _ _ rfl HT.out.turn.turn rfl HRR.out (by omega) hbs ?_; intro v' w' ht2 hb2)
      try rw [Exit.noGoto_ret]
      go_ret3
      obtain ⟨e1, e2, e3⟩ := HD.out
      rw [← e1, ← e2, ← e3]
      exact ⟨_, _, _, rfl, ht2.turn, hbel.trans hb2⟩
    | succ g =>
      have hkz : (k : Int) < (na : Int) := by omega
      obtain ⟨ad, u, rfl, _, hx, hcell⟩ := (RA.out wo hbel).at_ (k := k) (by omega)
      obtain ⟨x, hxk⟩ : ∃ x, a[k]? = some x := ⟨_, List.getElem?_eq_getElem (by have := HNA.out; omega)⟩
      have hux : u = .int .i64 x := by simp [hxk, intV] at hx; exact hx.symm
      rw [hux] at hcell
      have HC2 := Lib.hid (show Came a b L M R (x :: a.drop (k + 1)) (b.drop n) by rw [← drop_at' hxk]; exact HC.out)
      clear hx hux hxk
      obtain ⟨v4, rfl⟩ : ∃ v, v = u4 := ⟨_, rfl⟩
      obtain ⟨v5, rfl⟩ : ∃ v, v = u5 := ⟨_, rfl⟩
      obtain ⟨v6, rfl⟩ : ∃ v, v = u6 := ⟨_, rfl⟩
      go_wp2_with fail
      go_loopg [5, 6, 7] (nb - n) (fun g2 s5 s6 s7 wy => ∃ (m : Nat) (R2 : List Int), m + g2 = nb ∧ s7 = .int .i64 m ∧ s5 = v5 ∧ Hid (Came a b L M R2 (x :: a.drop (k + 1)) (b.drop m)) ∧ R2.length ≤ m ∧ Hid (Row3 wy w.heap.size v4 v5 s6 L M R2) ∧ Below w.heap.size w wy)
      case atStart => exact ⟨n, R, by omega, rfl, rfl, HC2, hR, HT, hbel⟩
      case round =>
        obtain ⟨m, R2, hm, rfl, rfl, HC3, hR2, HT2, hb2⟩ := hrel
        obtain ⟨wi, rfl⟩ : ∃ wi : World, wi = wr := ⟨_, rfl⟩
        clear HC2 HT HC hbel hcell hbs
        have hbs := hb2.size
        cases gk with
        | zero =>
          have hmz : ¬ ((m : Int) < (nb : Int)) := by omega
          have HF := Lib.hid (Came.left (a := a) (b := b) HC3.out (.inl (List.drop_eq_nil_of_le (by have := HNB.out; omega))))
          go_wp2_with (at_builtin; refine wp_append_tri _ rfl (.tmp 46) (.tmp 48) rfl w.heap.size _ _ _ L M R2 [x] _ _ _ _ rfl (HT2.out.alloc _) rfl (reads_one _ _) (by simp; omega) (by simp; omega) ?_; intro v' w' ht2 hb3)
          go_roundg g
          case measure => omega
          case rel => exact ⟨k + 1, m, L ++ [x], M, R2, by omega, by omega, rfl, by go_num, HF.out, by simp; omega, by omega, by omega, ht2, (hb2.alloc hbs _).trans hb3⟩
        | succ g2 =>
          have hmz : (m : Int) < (nb : Int) := by omega
          obtain ⟨bd, u', rfl, hbd, hx', hcell'⟩ := (RB.out wi hb2).at_ (k := m) (by omega)
          obtain ⟨y, hyk⟩ : ∃ y, b[m]? = some y := ⟨_, List.getElem?_eq_getElem (by have := HNB.out; omega)⟩
          have huy : u' = .int .i64 y := by simp [hyk, intV] at hx'; exact hx'.symm
          rw [huy] at hcell'
          have HY := Lib.hid hyk
          clear hx' huy hyk
          by_cases hyx : y ≤ x
          · by_cases he : y = x
            · subst he
              have HF := Lib.hid (show Came a b L (M ++ [y]) R2 (a.drop (k + 1)) (b.drop (m + 1)) by
                have := HC3.out
                rw [drop_at' HY.out] at this
                exact this.both)
              go_wp2_with (at_builtin; refine wp_append_tri _ rfl (.tmp 38) (.tmp 40) rfl w.heap.size _ _ _ M R2 L [y] _ _ _ _ rfl (HT2.out.turn.alloc _) rfl (reads_one _ _) (by simp; omega) (by simp; omega) ?_; intro v' w' ht2 hb3)
              go_roundg g
              case measure => omega
              case rel => exact ⟨k + 1, m + 1, L, M ++ [y], R2, by omega, by omega, by go_num, by go_num, HF.out, by omega, by simp; omega, by omega, ht2.turn.turn, (hb2.alloc hbs _).trans hb3⟩
            · have fe : (y == x) = false := beqF he
              have HF := Lib.hid (show Came a b L M (R2 ++ [y]) (x :: a.drop (k + 1)) (b.drop (m + 1)) by
                have := HC3.out
                rw [drop_at' HY.out] at this
                exact this.right (by omega))
              clear he
              go_wp2_with (at_builtin; refine wp_append_tri _ rfl (.tmp 42) (.tmp 44) rfl w.heap.size _ _ _ R2 L M [y] _ _ _ _ rfl (HT2.out.turn.turn.alloc _) rfl (reads_one _ _) (by simp; omega) (by simp; omega) ?_; intro v' w' ht2 hb3)
              go_roundg g2
              case measure => omega
              case rel => exact ⟨m + 1, R2 ++ [y], by omega, by go_num, rfl, HF.out, by simp; omega, ht2.turn, (hb2.alloc hbs _).trans hb3⟩
          · have HF := Lib.hid (Came.left (a := a) (b := b) HC3.out (stop_at HY.out (by omega)))
            go_wp2_with (at_builtin; refine wp_append_tri _ rfl (.tmp 46) (.tmp 48) rfl w.heap.size _ _ _ L M R2 [x] _ _ _ _ rfl (HT2.out.alloc _) rfl (reads_one _ _) (by simp; omega) (by simp; omega) ?_; intro v' w' ht2 hb3)
            go_roundg g
            case measure => omega
            case rel => exact ⟨k + 1, m, L ++ [x], M, R2, by omega, by omega, rfl, by go_num, HF.out, by simp; omega, by omega, by omega, ht2, (hb2.alloc hbs _).trans hb3⟩
/-- .. written out, the lengths under names. -/
def SplitOut (w : World) (L M R : List Int) (i j k : Nat) (e : Ending) (w' : World) : Prop :=
  ∃ A1 c1 A2 c2 A3 c3, e = .returned (.tuple #[.slice A1 i c1, .slice A2 j c2, .slice A3 k c3]) ∧ (i ≤ c1 ∧ j ≤ c2 ∧ k ≤ c3) ∧
    Hid (Row3 w' w.heap.size (.slice A1 i c1) (.slice A2 j c2) (.slice A3 k c3) L M R) ∧ (Reads w' w'.heap.size 1 A1 i (L.map intV) ∧ Reads w' w'.heap.size 1 A2 j (M.map intV) ∧ Reads w' w'.heap.size 1 A3 k (R.map intV)) ∧ Below w.heap.size w w'
theorem SplitPost.to {w w' : World} {L M R : List Int} {e : Ending} (h : SplitPost w L M R e w') : SplitOut w L M R L.length M.length R.length e w' := by
  obtain ⟨v1, v2, v3, rfl, ht, hb⟩ := h
  obtain ⟨A1, c1, h1, d1, r1⟩ := SliceOf.of_own (xs := L.map intV) (base := w.heap.size) (e := 3) (by rw [List.length_map]; exact ht.o1)
  obtain ⟨A2, c2, h2, d2, r2⟩ := SliceOf.of_own (xs := M.map intV) (base := w.heap.size) (e := 3) (by rw [List.length_map]; exact ht.o2)
  obtain ⟨A3, c3, h3, d3, r3⟩ := SliceOf.of_own (xs := R.map intV) (base := w.heap.size) (e := 3) (by rw [List.length_map]; exact ht.o3)
  rw [List.length_map] at h1 d1 r1 h2 d2 r2 h3 d3 r3
  subst h1 h2 h3
  exact ⟨A1, c1, A2, c2, A3, c3, rfl, ⟨d1, d2, d3⟩, ht, ⟨r1, r2, r3⟩, hb⟩
/-- Integers appended to a row of the call's own, wherever they lie. -/
theorem wp_append_ints {ops : Array Oper} {rest : List Oper} {o : Oper} {a : Act} {Q : Exit → Act → World → Prop} (W : World) (hgd : o.guard = none) (s x : Operand)
    (ho : o.op = .call { callee := .builtin .append, args := #[s, x], argTypes := #[22, 22] }) (base : Nat) (v : Value) (l news : List Int) (B m c : Nat) (A : Option Addr) (hs : a.eval s = v)
    (hown : W.ownsRow base 3 1 v l.length (l.map intV)) (hx : a.eval x = .slice A m c) (hr : Reads W B 1 A m (news.map intV)) (hl : l.length + news.length ≤ 1099511627776) (hbase : base ≤ W.heap.size)
    (h : ∀ v' w', w'.ownsRow base 3 1 v' (l ++ news).length ((l ++ news).map intV) → Below base W w' → wpList Try.prog ops Q rest (a.put o.dst v') w') : wpList Try.prog ops Q (o :: rest) a W := by
  refine wp_append_tri W hgd s x ho base v (.slice none 0 0) (.slice none 0 0) l [] [] news B m c A hs ⟨hown, World.ownsRow_nil _ _ _ _, World.ownsRow_nil _ _ _ _, ?_, ?_, .inl rfl⟩ hx hr hl hbase fun v' w' ht hb => h v' w' ht.o1 hb
  · exact (Apt.symm (.inl rfl))
  · exact (Apt.symm (.inl rfl))
end Go.Proofs.Ytmnagkjdnmnbkaa.V

/- Package view: merged. -/
namespace Go.Proofs.Ytmnagkjdnmnbkaa.V
set_option linter.unusedVariables false
open Go.RowKit
open Go.Proofs.Ytmnagkjdnmnbkaa.W

set_option maxRecDepth 1000000 in
set_option maxHeartbeats 2000000 in
theorem merged_any (A C : Option Addr) (c d : Nat) (a b : List Int) (w : World) (hra : Reads w w.heap.size 1 A a.length (a.map intV)) (hrb : Reads w w.heap.size 1 C b.length (b.map intV)) (hcb : b.length ≤ d) (hal : a.length ≤ 32) (hbl : b.length ≤ 32) :
    Calls Try.prog 51 #[.slice A a.length c, .slice C b.length d] w (OwnI w (mgF a b)) := by
  obtain ⟨i0, hi, hz0, hz1, hz2⟩ := info_parts intInfo
  have RA := Lib.hid (fun W (hW : Below w.heap.size w W) => hra.below hW)
  obtain ⟨na, hna⟩ : ∃ n, n = a.length := ⟨_, rfl⟩
  obtain ⟨nb, hnb⟩ : ∃ n, n = b.length := ⟨_, rfl⟩
  have HNA := Lib.hid hna
  have HNB := Lib.hid hnb
  rw [← hna] at hal RA ⊢
  rw [← hnb] at hbl hrb hcb ⊢
  have wab : IntKind.i64.wrap ((na : Int) + (nb : Int)) = (na : Int) + (nb : Int) := IntWalk.i64_in _ (by omega)
  obtain ⟨v0, w1, hmk, hown0, hb1⟩ : ∃ v0 w1, (Instr.makeSlice 22 (.int .i64 0) (.int .i64 ((na : Int) + (nb : Int)))).run Try.prog w = .ok v0 w1 ∧ w1.ownsRow w.heap.size 3 1 v0 ([] : List Int).length (([] : List Int).map intV) ∧ Below w.heap.size w w1 := by
    have h := run_make (P := Try.prog) w 22 3 i0 _ Try.underlying22 hi hz0 .i64 .i64 0 ((na : Int) + (nb : Int)) (by omega) (by omega) (by rw [hz2]; omega) (by omega)
    refine ⟨_, _, h, ?_, (Below.refl _ _).alloc (Nat.le_refl _) _⟩
    rw [show ((na : Int) + (nb : Int)).toNat = na + nb by omega]
    exact World.ownsRow_made w _ (na + nb) (Nat.le_refl _) (by unfold maxLen; omega) (by rw [size_madeCells, hz1])
  clear hra hna hnb
  go_enter Try.func51, Try.ntmps51
  go_wp2
  clear hmk
  go_loopg [1, 5, 16] na (fun g s1 s5 s16 wr => ∃ (k n e : Nat) (P q : List Int) (Q : Option Addr), k + g = na ∧ s16 = .int .i64 k ∧ s1 = .slice Q n e ∧ n ≤ e ∧ n + P.length ≤ nb + k ∧ n ≤ nb ∧ Hid (n = q.length) ∧ Hid (mgF a b = P ++ mgF (a.drop k) q) ∧ Hid (Reads wr w.heap.size 1 Q n (q.map intV)) ∧ wr.ownsRow w.heap.size 3 1 s5 P.length (P.map intV) ∧ Below w.heap.size w wr)
  case atStart => exact ⟨0, nb, d, [], b, C, by omega, rfl, rfl, hcb, by simp, Nat.le_refl _, HNB, by show _ = _; simp, hrb.below hb1, hown0, hb1⟩
  case round =>
    obtain ⟨k, n, e, P, q, Q, hkg, rfl, rfl, hne, hnP, hnn, HQ, HG, HR, hown, hbel⟩ := hrel
    obtain ⟨wo, rfl⟩ : ∃ wo : World, wo = wr := ⟨_, rfl⟩
    have hbs := hbel.size
    cases gk with
    | zero =>
      have hkz : ¬ ((k : Int) < (na : Int)) := by omega
      have ht := Lib.hid (show mgF a b = P ++ q by rw [HG.out, show a.drop k = [] from List.drop_eq_nil_of_le (by have := HNA.out; omega), mgF_nil])
      go_wp2_with (at_builtin; refine wp_append_ints _ rfl (.tmp 43) (.tmp 44) rfl w.heap.size _ P q _ _ _ _ rfl hown rfl HR.out (by have := HQ.out; omega) hbs ?_; intro v' w' ho2 hb2)
      go_ret
      exact ⟨_, rfl, by rw [ht.out]; exact ho2, hbel.trans hb2⟩
    | succ g =>
      have hkz : (k : Int) < (na : Int) := by omega
      obtain ⟨ad, u, rfl, _, hx, hcell⟩ := (RA.out wo hbel).at_ (k := k) (by omega)
      obtain ⟨x, hxk⟩ : ∃ x, a[k]? = some x := ⟨_, List.getElem?_eq_getElem (by have := HNA.out; omega)⟩
      have hux : u = .int .i64 x := by simp [hxk, intV] at hx; exact hx.symm
      rw [hux] at hcell
      have HG2 := Lib.hid (show mgF a b = P ++ mgF (x :: a.drop (k + 1)) q by rw [← drop_at' hxk]; exact HG.out)
      clear hx hux hxk
      obtain ⟨v5, rfl⟩ : ∃ v, v = u5 := ⟨_, rfl⟩
      go_wp2_with fail
      go_loopg [1, 5] n (fun g2 s1 s5 wy => ∃ (m f : Nat) (P2 q2 : List Int) (Q2 : Option Addr), m = g2 ∧ s1 = .slice Q2 m f ∧ m ≤ f ∧ m + P2.length ≤ nb + k ∧ m ≤ nb ∧ Hid (m = q2.length) ∧ Hid (mgF a b = P2 ++ mgF (x :: a.drop (k + 1)) q2) ∧ Hid (Reads wy w.heap.size 1 Q2 m (q2.map intV)) ∧ wy.ownsRow w.heap.size 3 1 s5 P2.length (P2.map intV) ∧ Below w.heap.size w wy)
      case atStart => exact ⟨n, e, P, q, Q, rfl, rfl, hne, hnP, hnn, HQ, HG2, HR, hown, hbel⟩
      case round =>
        obtain ⟨m, f, P2, q2, Q2, rfl, rfl, hmf, hmP, hmn, HQ2, HG3, HR2, hown2, hb2⟩ := hrel
        obtain ⟨wi, rfl⟩ : ∃ wi : World, wi = wr := ⟨_, rfl⟩
        clear HG HG2 HR HQ hown hbel hcell hbs
        have hbs := hb2.size
        cases q2 with
        | nil =>
          have hm0 : m = 0 := HQ2.out
          have hmz : ¬ ((0 : Int) < (m : Int)) := by omega
          have HF := Lib.hid (show mgF a b = (P2 ++ [x]) ++ mgF (a.drop (k + 1)) [] by rw [HG3.out, mgF_left]; simp)
          clear hm0
          go_wp2_with (at_builtin; refine wp_append_ints _ rfl (.tmp 38) (.tmp 40) rfl w.heap.size _ P2 [x] _ _ _ _ rfl (hown2.alloc _) rfl (reads_one _ _) (by simp; omega) (by simp; omega) ?_; intro v' w' ho3 hb3)
          go_roundg g
          case measure => omega
          case rel => exact ⟨k + 1, m, f, P2 ++ [x], [], Q2, by omega, by go_num, rfl, hmf, by simp; omega, hmn, HQ2, HF.out, HR2.out.below ((Below.refl _ _ |>.alloc hbs _).trans hb3), ho3, (hb2.alloc hbs _).trans hb3⟩
        | cons y t =>
          have hm1 : m = t.length + 1 := HQ2.out
          have hmz : (0 : Int) < (m : Int) := by omega
          have hmz' : 0 < m := by omega
          obtain ⟨bd, u', rfl, hbd, hx', hcell'⟩ := HR2.out.at_ (k := 0) (by omega)
          have huy : u' = .int .i64 y := by simp [intV] at hx'; exact hx'.symm
          rw [huy] at hcell'
          have hcell0 : wi.cell? bd = some (.int .i64 y) := by simpa [Addr.add] using hcell'
          clear hx' huy hcell' hm1
          by_cases hyx : y < x
          · have HF := Lib.hid (show mgF a b = (P2 ++ [y]) ++ mgF (x :: a.drop (k + 1)) t by rw [HG3.out, mgF_lt hyx]; simp)
            have hr2 := HR2.out
            rw [HQ2.out] at hr2
            obtain ⟨A', hs', hrr⟩ := slice_fromI (w := wi) (B := w.heap.size) (l := y :: t) (c := f) (A := some bd) (k := 1) (ki := 1) hr2 (by rw [← HQ2.out]; exact hmf) (by simp) rfl
            rw [← HQ2.out] at hs' hrr
            have HRR := Lib.hid hrr
            clear hr2 hrr
            go_wp2_with (at_builtin; refine wp_append_ints _ rfl (.tmp 30) (.tmp 34) rfl w.heap.size _ P2 [y] _ _ _ _ rfl (hown2.alloc _) rfl (reads_one _ _) (by simp; omega) (by simp; omega) ?_; intro v' w' ho3 hb3)
            go_roundg (m - 1)
            case measure => omega
            case rel => exact ⟨m - 1, f - 1, P2 ++ [y], t, A', rfl, rfl, by omega, by simp; omega, by omega, by show _ = _; have : m = (y :: t).length := HQ2.out; simp at this; omega, HF.out, HRR.out.below ((Below.refl _ _ |>.alloc hbs _).trans hb3), ho3, (hb2.alloc hbs _).trans hb3⟩
          · have HF := Lib.hid (show mgF a b = (P2 ++ [x]) ++ mgF (a.drop (k + 1)) (y :: t) by rw [HG3.out, mgF_ge hyx]; simp)
            go_wp2_with (at_builtin; refine wp_append_ints _ rfl (.tmp 38) (.tmp 40) rfl w.heap.size _ P2 [x] _ _ _ _ rfl (hown2.alloc _) rfl (reads_one _ _) (by simp; omega) (by simp; omega) ?_; intro v' w' ho3 hb3)
            go_roundg g
            case measure => omega
            case rel => exact ⟨k + 1, m, f, P2 ++ [x], y :: t, some bd, by omega, by go_num, rfl, hmf, by simp; omega, hmn, HQ2, HF.out, HR2.out.below ((Below.refl _ _ |>.alloc hbs _).trans hb3), ho3, (hb2.alloc hbs _).trans hb3⟩
end Go.Proofs.Ytmnagkjdnmnbkaa.V

/- Package view: effect, Leavers, Joiners, Survivors, Diff. -/
namespace Go.Proofs.Ytmnagkjdnmnbkaa.V
set_option linter.unusedVariables false
open Go.RowKit
open Go.Proofs.Ytmnagkjdnmnbkaa.W

theorem tri_base {w : World} {base base' : Nat} {v1 v2 v3 : Value} {l1 l2 l3 : List Int} (h : Row3 w base' v1 v2 v3 l1 l2 l3) (hb : base ≤ base') : Row3 w base v1 v2 v3 l1 l2 l3 :=
  { h with o1 := own_base h.o1 hb, o2 := own_base h.o2 hb, o3 := own_base h.o3 hb }
end Go.Proofs.Ytmnagkjdnmnbkaa.V

/- Package view: Diff, Next. -/
namespace Go.Proofs.Ytmnagkjdnmnbkaa.V
set_option linter.unusedVariables false
open Go.RowKit
open Go.Proofs.Ytmnagkjdnmnbkaa.W

set_option maxRecDepth 100000 in
set_option maxHeartbeats 2000000 in
theorem viewNext_any (num : Int) (l q : List Int) (A C : Option Addr) (c d B : Nat) (w : World) (h : VW w B num l A c) (h' : LS w B q C d) (hB : B ≤ w.heap.size) :
    Calls Try.prog 40 #[vwV num A l.length c, .slice C q.length d] w (NextPost w (next num l q)) := by
  have h01 : Below w.heap.size w ((w.alloc (.cells #[.int .i64 num, .slice A l.length c] 24)).alloc (.cells #[.int .i64 0, .slice none 0 0] 24)) := ((Below.refl w.heap.size w).alloc (Nat.le_refl _) _).alloc (by simp) _
  have hz := two_blk w 24 #[.int .i64 num, .slice A l.length c] #[.int .i64 0, .slice none 0 0]
  have hs0 : ((w.alloc (.cells #[.int .i64 num, .slice A l.length c] 24)).alloc (.cells #[.int .i64 0, .slice none 0 0] 24)).heap.size = w.heap.size + 2 := by simp
  have FB := Lib.hid (fun W (hW : Below ((w.alloc (.cells #[.int .i64 num, .slice A l.length c] 24)).alloc (.cells #[.int .i64 0, .slice none 0 0] 24)).heap.size ((w.alloc (.cells #[.int .i64 num, .slice A l.length c] 24)).alloc (.cells #[.int .i64 0, .slice none 0 0] 24)) W) => h01.trans (hW.mono (by rw [hs0]; omega)))
  have FV := Lib.hid (fun W (hW : Below ((w.alloc (.cells #[.int .i64 num, .slice A l.length c] 24)).alloc (.cells #[.int .i64 0, .slice none 0 0] 24)).heap.size ((w.alloc (.cells #[.int .i64 num, .slice A l.length c] 24)).alloc (.cells #[.int .i64 0, .slice none 0 0] 24)) W) => cells22 (hz.1.below hW hz.1.lt) (hz.2.below hW hz.2.lt))
  have r0 := Below.refl ((w.alloc (.cells #[.int .i64 num, .slice A l.length c] 24)).alloc (.cells #[.int .i64 0, .slice none 0 0] 24)).heap.size ((w.alloc (.cells #[.int .i64 num, .slice A l.length c] 24)).alloc (.cells #[.int .i64 0, .slice none 0 0] 24))
  have CV := Lib.hid (fun W (hW : Below ((w.alloc (.cells #[.int .i64 num, .slice A l.length c] 24)).alloc (.cells #[.int .i64 0, .slice none 0 0] 24)).heap.size ((w.alloc (.cells #[.int .i64 num, .slice A l.length c] 24)).alloc (.cells #[.int .i64 0, .slice none 0 0] 24)) W) => viewValid_any num l A c w.heap.size W ((h.more hB).below (FB.out W hW)) (FB.out W hW).size)
  have CT := Lib.hid (fun W (hW : Below ((w.alloc (.cells #[.int .i64 num, .slice A l.length c] 24)).alloc (.cells #[.int .i64 0, .slice none 0 0] 24)).heap.size ((w.alloc (.cells #[.int .i64 num, .slice A l.length c] 24)).alloc (.cells #[.int .i64 0, .slice none 0 0] 24)) W) => viewValidC_any C d w.heap.size q W ((h'.more hB).below (FB.out W hW)) (FB.out W hW).size)
  have CS := Lib.hid (fun W (hW : Below ((w.alloc (.cells #[.int .i64 num, .slice A l.length c] 24)).alloc (.cells #[.int .i64 0, .slice none 0 0] 24)).heap.size ((w.alloc (.cells #[.int .i64 num, .slice A l.length c] 24)).alloc (.cells #[.int .i64 0, .slice none 0 0] 24)) W) (g : (validV num l && validC q) = true) =>
    (split_any A C c d w.heap.size l q W ((h.ls.more hB).below (FB.out W hW)) ((h'.more hB).below (FB.out W hW)) (FB.out W hW).size
      (valid_parts g).2.2.2.2.1 (valid_parts g).2.2.2.2.2.2.2.2.1 (Nat.le_trans (valid_parts g).2.2.2.1 (by omega)) (valid_parts g).2.2.2.2.2.2.2.1).mono fun _ _ h => h.to)
  obtain ⟨m1, m2⟩ := h.num64
  have hl40 := h.l40
  have hq40 := h'.l40
  dsimp only [vwV] at *
  clear h h' hz h01 hs0
  cases h1 : validV num l
  · have ht := Lib.hid (show next num l q = ((0, []), 1) by unfold next; rw [h1]; simp)
    rw [h1] at CV
    clear CT CS
    go_enter Try.func40, Try.ntmps40
    go_wp2_with (go_at_call 34; (with_reducible refine (CV.out _ r0).mono ?_); rintro e w1 ⟨rfl, b1⟩; obtain ⟨q0, q1, z0, z1, f0, f1⟩ := FV.out _ b1)
    refine bodyPost_ret (v := .tuple #[vwV 0 none 0 0, .int .i64 1]) (by simp [results, Try.results40, go_sem, vwV, z0, z1]) rfl ⟨none, 0, ?_, ?_, ?_, ?_⟩
    · rw [ht.out]; rfl
    · rw [ht.out]; exact Nat.le_refl _
    · rw [ht.out]; exact Reads.none_
    · repeat (with_reducible refine below_setV ?_ (by simp) _)
      exact FB.out _ b1
  cases h2 : validC q
  · have ht := Lib.hid (show next num l q = ((0, []), 1) by unfold next; rw [h1, h2]; simp)
    rw [h1] at CV
    rw [h2] at CT
    clear CS
    go_enter Try.func40, Try.ntmps40
    go_wp2_with (first | (go_at_call 34; (with_reducible refine (CV.out _ r0).mono ?_); rintro e w1 ⟨rfl, b1⟩; obtain ⟨q0, q1, z0, z1, f0, f1⟩ := FV.out _ b1) | (go_at_call 49; (with_reducible refine (CT.out _ b1).mono ?_); rintro e w2 ⟨rfl, hq2⟩; (have b2 := bstep b1 hq2); clear q0 q1 z0 z1 f0 f1; obtain ⟨q0, q1, z0, z1, f0, f1⟩ := FV.out _ b2))
    refine bodyPost_ret (v := .tuple #[vwV 0 none 0 0, .int .i64 1]) (by simp [results, Try.results40, go_sem, vwV, z0, z1]) rfl ⟨none, 0, ?_, ?_, ?_, ?_⟩
    · rw [ht.out]; rfl
    · rw [ht.out]; exact Nat.le_refl _
    · rw [ht.out]; exact Reads.none_
    · repeat (with_reducible refine below_setV ?_ (by simp) _)
      exact FB.out _ b2
  have hv : (validV num l && validC q) = true := by rw [h1, h2]; rfl
  have hpl := parts_len hv
  have hnx : next num l q = if 2 * (svs num l q).length ≤ l.length then ((0, []), 9) else if num = 1099511627776 ∨ 16 < (svs num l q).length + (jns num l q).length then ((0, []), 5) else ((num + 1, insAll (svs num l q) (jns num l q)), 0) := by
    unfold next
    rw [hv]
    simp
  obtain ⟨v1, v2, v3, v4, _⟩ := valid_parts hv
  have hSl : (svs num l q).length ≤ 16 := by omega
  have hJl : (jns num l q).length ≤ 32 := by have := (valid_parts hv).2.2.2.2.2.2.2.1; omega
  have CS2 := Lib.hid (fun W hW => by
    have h := CS.out W hW hv
    rw [← svs_eq hv, ← jns_eq hv] at h
    exact h)
  have HM := Lib.hid (show mgF (svs num l q) (jns num l q) = insAll (svs num l q) (jns num l q) from
    mgF_eq (parts_asc hv).2.2 (parts_asc hv).2.1 fun x hx hs => ((parts_mem hv x).2.1.1 hx).2 ((parts_mem hv x).2.2.1 hs).1)
  rw [h1] at CV
  rw [h2] at CT
  clear CS
  generalize svs num l q = S at *
  generalize jns num l q = J at *
  generalize among l q true = M0 at *
  have wm : IntKind.i64.wrap (2 * (S.length : Int)) = 2 * (S.length : Int) := IntWalk.i64_in _ (by omega)
  clear hv hpl h1 h2
  by_cases hm : 2 * S.length ≤ l.length
  · have ht := Lib.hid (show next num l q = ((0, []), 9) by rw [hnx, if_pos hm])
    have fm : 2 * (S.length : Int) ≤ (l.length : Int) := by omega
    clear hnx hm
    go_enter Try.func40, Try.ntmps40
    go_wp2_with (first | (go_at_call 34; (with_reducible refine (CV.out _ r0).mono ?_); rintro e w1 ⟨rfl, b1⟩; obtain ⟨q0, q1, z0, z1, f0, f1⟩ := FV.out _ b1) | (go_at_call 49; (with_reducible refine (CT.out _ b1).mono ?_); rintro e w2 ⟨rfl, hq2⟩; (have b2 := bstep b1 hq2); clear q0 q1 z0 z1 f0 f1; obtain ⟨q0, q1, z0, z1, f0, f1⟩ := FV.out _ b2) | (go_at_call 50; (with_reducible refine (CS2.out _ b2).mono ?_); rintro e w3 ⟨A3, c3, A5, c5, A4, c4, rfl, ⟨k3, k5, k4⟩, ht3, ⟨r3, r5, r4⟩, hq3⟩; (have b3 := bstep b2 hq3); clear q0 q1 z0 z1 f0 f1; obtain ⟨q0, q1, z0, z1, f0, f1⟩ := FV.out _ b3))
    refine bodyPost_ret (v := .tuple #[vwV 0 none 0 0, .int .i64 9]) (by simp [results, Try.results40, go_sem, vwV, z0, z1]) rfl ⟨none, 0, ?_, ?_, ?_, ?_⟩
    · rw [ht.out]; rfl
    · rw [ht.out]; exact Nat.le_refl _
    · rw [ht.out]; exact Reads.none_
    · repeat (with_reducible refine below_setV ?_ (by simp) _)
      exact FB.out _ b3
  have fm : ¬ 2 * (S.length : Int) ≤ (l.length : Int) := by omega
  rw [if_neg hm] at hnx
  by_cases hx : num = 1099511627776
  · have ht := Lib.hid (show next num l q = ((0, []), 5) by rw [hnx, if_pos (.inl hx)])
    have fx : (num == 1099511627776) = true := beqT hx
    clear hnx hm hx
    go_enter Try.func40, Try.ntmps40
    go_wp2_with (first | (go_at_call 34; (with_reducible refine (CV.out _ r0).mono ?_); rintro e w1 ⟨rfl, b1⟩; obtain ⟨q0, q1, z0, z1, f0, f1⟩ := FV.out _ b1) | (go_at_call 49; (with_reducible refine (CT.out _ b1).mono ?_); rintro e w2 ⟨rfl, hq2⟩; (have b2 := bstep b1 hq2); clear q0 q1 z0 z1 f0 f1; obtain ⟨q0, q1, z0, z1, f0, f1⟩ := FV.out _ b2) | (go_at_call 50; (with_reducible refine (CS2.out _ b2).mono ?_); rintro e w3 ⟨A3, c3, A5, c5, A4, c4, rfl, ⟨k3, k5, k4⟩, ht3, ⟨r3, r5, r4⟩, hq3⟩; (have b3 := bstep b2 hq3); clear q0 q1 z0 z1 f0 f1; obtain ⟨q0, q1, z0, z1, f0, f1⟩ := FV.out _ b3))
    refine bodyPost_ret (v := .tuple #[vwV 0 none 0 0, .int .i64 5]) (by simp [results, Try.results40, go_sem, vwV, z0, z1]) rfl ⟨none, 0, ?_, ?_, ?_, ?_⟩
    · rw [ht.out]; rfl
    · rw [ht.out]; exact Nat.le_refl _
    · rw [ht.out]; exact Reads.none_
    · repeat (with_reducible refine below_setV ?_ (by simp) _)
      exact FB.out _ b3
  have fx : (num == 1099511627776) = false := beqF hx
  have wa : IntKind.i64.wrap ((S.length : Int) + (J.length : Int)) = (S.length : Int) + (J.length : Int) := IntWalk.i64_in _ (by omega)
  by_cases hy : 16 < S.length + J.length
  · have ht := Lib.hid (show next num l q = ((0, []), 5) by rw [hnx, if_pos (.inr hy)])
    have fy : (16 : Int) < (S.length : Int) + (J.length : Int) := by omega
    clear hnx hm hx hy
    go_enter Try.func40, Try.ntmps40
    go_wp2_with (first | (go_at_call 34; (with_reducible refine (CV.out _ r0).mono ?_); rintro e w1 ⟨rfl, b1⟩; obtain ⟨q0, q1, z0, z1, f0, f1⟩ := FV.out _ b1) | (go_at_call 49; (with_reducible refine (CT.out _ b1).mono ?_); rintro e w2 ⟨rfl, hq2⟩; (have b2 := bstep b1 hq2); clear q0 q1 z0 z1 f0 f1; obtain ⟨q0, q1, z0, z1, f0, f1⟩ := FV.out _ b2) | (go_at_call 50; (with_reducible refine (CS2.out _ b2).mono ?_); rintro e w3 ⟨A3, c3, A5, c5, A4, c4, rfl, ⟨k3, k5, k4⟩, ht3, ⟨r3, r5, r4⟩, hq3⟩; (have b3 := bstep b2 hq3); clear q0 q1 z0 z1 f0 f1; obtain ⟨q0, q1, z0, z1, f0, f1⟩ := FV.out _ b3))
    refine bodyPost_ret (v := .tuple #[vwV 0 none 0 0, .int .i64 5]) (by simp [results, Try.results40, go_sem, vwV, z0, z1]) rfl ⟨none, 0, ?_, ?_, ?_, ?_⟩
    · rw [ht.out]; rfl
    · rw [ht.out]; exact Nat.le_refl _
    · rw [ht.out]; exact Reads.none_
    · repeat (with_reducible refine below_setV ?_ (by simp) _)
      exact FB.out _ b3
  have fy : ¬ (16 : Int) < (S.length : Int) + (J.length : Int) := by omega
  have ht := Lib.hid (show next num l q = ((num + 1, mgF S J), 0) by rw [hnx, if_neg (by omega), HM.out])
  have wn : IntKind.i64.wrap (num + 1) = num + 1 := IntWalk.i64_in _ (by omega)
  have HL := Lib.hid (len_mgF (a := S) (b := J))
  have CM := Lib.hid (fun W A3 c3 A4 c4 (r3 : Reads W W.heap.size 1 A3 S.length (S.map intV)) (r4 : Reads W W.heap.size 1 A4 J.length (J.map intV)) (h4 : J.length ≤ c4) => (merged_any A3 A4 c3 c4 S J W r3 r4 h4 (by omega) hJl).mono fun _ _ h => h.to (mgF S J) (mgF S J).length rfl rfl)
  clear hnx hm hx
  go_enter Try.func40, Try.ntmps40
  go_wp2_with (first | (go_at_call 34; (with_reducible refine (CV.out _ r0).mono ?_); rintro e w1 ⟨rfl, b1⟩; obtain ⟨q0, q1, z0, z1, f0, f1⟩ := FV.out _ b1) | (go_at_call 49; (with_reducible refine (CT.out _ b1).mono ?_); rintro e w2 ⟨rfl, hq2⟩; (have b2 := bstep b1 hq2); clear q0 q1 z0 z1 f0 f1; obtain ⟨q0, q1, z0, z1, f0, f1⟩ := FV.out _ b2) | (go_at_call 50; (with_reducible refine (CS2.out _ b2).mono ?_); rintro e w3 ⟨A3, c3, A5, c5, A4, c4, rfl, ⟨k3, k5, k4⟩, ht3, ⟨r3, r5, r4⟩, hq3⟩; (have b3 := bstep b2 hq3); clear q0 q1 z0 z1 f0 f1; obtain ⟨q0, q1, z0, z1, f0, f1⟩ := FV.out _ b3))
  have hg3 : w.heap.size + 2 ≤ w3.heap.size := by have := b3.size; simpa using this
  have HZ3 := Lib.hid (⟨z0, z1⟩ : w3.cell? ⟨w.heap.size + 1, 0, none⟩ = _ ∧ w3.cell? ⟨w.heap.size + 1, 1, none⟩ = _)
  have CMd := Lib.hid (CM.out w3.drew A3 c3 A4 c4 (show Reads w3.drew w3.drew.heap.size 1 A3 S.length (S.map intV) from r3) (show Reads w3.drew w3.drew.heap.size 1 A4 J.length (J.map intV) from r4) k4)
  clear z0 z1
  generalize mgF S J = P at *
  go_region_held3 (fun w' => w'.cell? ⟨w.heap.size, 0, none⟩ = some (.int .i64 num))
    (first
      | exact q0
      | exact (World.cell?_setCell_other _ _ _ _ (by simp)).trans q0
      | exact (World.cell?_setCell_other _ _ _ _ (by simp)).trans ((World.cell?_setCell_other _ _ _ _ (by simp)).trans q0)
      | fail)
    (first
      | (go_at_call 51; (with_reducible refine CMd.out.mono ?_); rintro e w5 ⟨A6, c6, rfl, hc6, ho6, hr6, hq5'⟩; (have hq5 : Below w3.heap.size w3 w5 := (Below.refl _ _).drew.trans hq5'); (have b5 := bstep b3 hq5); clear q0 q1 f0 f1; obtain ⟨q0, q1, z0, z1, f0, f1⟩ := FV.out _ b5)
      | fail)
  have ho7 := own_base (base := w.heap.size + 2) ho6 hg3
  go_wp2
  refine bodyPost_ret (v := .tuple #[vwV (num + 1) A6 P.length c6, .int .i64 0]) (by simp [results, Try.results40, go_sem, vwV, z0, z1]) rfl ⟨A6, c6, ?_, ?_, ?_, ?_⟩
  · rw [ht.out]; rfl
  · rw [ht.out]; exact hc6
  · rw [ht.out]; exact Reads.of_own (base := w.heap.size + 2) (e := 3) (by ((repeat (with_reducible refine own_setV ?_ (by simp) _)); exact ho7))
  · repeat (with_reducible refine below_setV ?_ (by simp) _)
    exact FB.out _ b5
end Go.Proofs.Ytmnagkjdnmnbkaa.V
