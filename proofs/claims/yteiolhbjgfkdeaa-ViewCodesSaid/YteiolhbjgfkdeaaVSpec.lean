/- Views as data: ascending lists, the effect of a cut, differences, quorums; and the laws of layer 3 as plain mathematics. -/
namespace Go.Proofs.Yteiolhbjgfkdeaa.V
set_option linter.unusedVariables false
/-! ### ascending lists -/
def isID (x : Int) : Bool := decide (1 ≤ x) && decide (x ≤ 1000)
/-- Strictly ascending identifiers, each greater than p. -/
def riseF (p : Int) : List Int → Bool
  | [] => true
  | x :: t => isID x && decide (p < x) && riseF x t
def rising (l : List Int) : Bool := riseF 0 l
def validM (l : List Int) : Bool := decide (1 ≤ l.length) && decide (l.length ≤ 16) && rising l
def validC (c : List Int) : Bool := decide (1 ≤ c.length) && decide (c.length ≤ 32) && rising c
def validV (num : Int) (l : List Int) : Bool := decide (0 ≤ num) && decide (num ≤ 1099511627776) && validM l
def Asc (l : List Int) : Prop := l.Pairwise (· < ·)
def IDs (l : List Int) : Prop := ∀ x ∈ l, 1 ≤ x ∧ x ≤ 1000
theorem isID_iff {x : Int} : isID x = true ↔ 1 ≤ x ∧ x ≤ 1000 := by simp [isID]
theorem riseF_iff : ∀ {p : Int} {l : List Int}, riseF p l = true ↔ (∀ x ∈ l, p < x) ∧ Asc l ∧ IDs l
  | p, [] => by simp [riseF, Asc, IDs]
  | p, x :: t => by
    simp only [riseF, Bool.and_eq_true, isID_iff, decide_eq_true_eq, riseF_iff (p := x) (l := t), Asc, IDs, List.pairwise_cons, List.mem_cons, forall_eq_or_imp]
    constructor
    · rintro ⟨⟨h1, h2⟩, h3, h4, h5⟩
      exact ⟨⟨h2, fun y hy => by have := h3 y hy; omega⟩, ⟨h3, h4⟩, h1, h5⟩
    · rintro ⟨⟨h1, h2⟩, ⟨h3, h4⟩, h5, h6⟩
      exact ⟨⟨h5, h1⟩, h3, h4, h6⟩
theorem rising_iff {l : List Int} : rising l = true ↔ Asc l ∧ IDs l := by
  unfold rising
  rw [riseF_iff]
  exact ⟨fun h => h.2, fun h => ⟨fun x hx => by have := h.2 x hx; omega, h⟩⟩
theorem validM_iff {l : List Int} : validM l = true ↔ 1 ≤ l.length ∧ l.length ≤ 16 ∧ Asc l ∧ IDs l := by
  simp [validM, rising_iff, and_assoc]
theorem validC_iff {l : List Int} : validC l = true ↔ 1 ≤ l.length ∧ l.length ≤ 32 ∧ Asc l ∧ IDs l := by
  simp [validC, rising_iff, and_assoc]
theorem validV_iff {n : Int} {l : List Int} : validV n l = true ↔ 0 ≤ n ∧ n ≤ 1099511627776 ∧ validM l = true := by
  simp [validV, and_assoc]
/-- An ascending list is what its elements are. -/
theorem Asc.ext : ∀ {a b : List Int}, Asc a → Asc b → (∀ x, x ∈ a ↔ x ∈ b) → a = b
  | [], [], _, _, _ => rfl
  | [], y :: b, _, _, h => by have := (h y).2 (by simp); simp at this
  | x :: a, [], _, _, h => by have := (h x).1 (by simp); simp at this
  | x :: a, y :: b, ha, hb, h => by
    unfold Asc at ha hb
    rw [List.pairwise_cons] at ha hb
    have hxy : x = y := by
      rcases List.mem_cons.1 ((h x).1 (by simp)) with e | hx
      · exact e
      · rcases List.mem_cons.1 ((h y).2 (by simp)) with e | hy
        · exact e.symm
        · have h1 := hb.1 x hx
          have h2 := ha.1 y hy
          omega
    subst hxy
    have hab : a = b := Asc.ext ha.2 hb.2 fun z => by
      constructor
      · intro hz
        rcases List.mem_cons.1 ((h z).1 (by simp [hz])) with e | hz2
        · have := ha.1 z hz; omega
        · exact hz2
      · intro hz
        rcases List.mem_cons.1 ((h z).2 (by simp [hz])) with e | hz2
        · have := hb.1 z hz; omega
        · exact hz2
    rw [hab]
theorem Asc.filter {l : List Int} (h : Asc l) (p : Int → Bool) : Asc (l.filter p) := List.Pairwise.filter p h
theorem IDs.filter {l : List Int} (h : IDs l) (p : Int → Bool) : IDs (l.filter p) := fun x hx => h x (List.mem_filter.1 hx).1
/-! ### the words of the layer -/
def placeF (id : Int) : Nat → List Int → Int
  | _, [] => -1
  | i, x :: t => if x = id then (i : Int) else placeF id (i + 1) t
def place (l : List Int) (id : Int) : Int := placeF id 0 l
def hasB (l : List Int) (id : Int) : Bool := decide (0 ≤ place l id)
theorem placeF_iff : ∀ {id : Int} {l : List Int} {i : Nat}, 0 ≤ placeF id i l ↔ id ∈ l
  | id, [], i => by simp [placeF]
  | id, x :: t, i => by
    unfold placeF
    by_cases h : x = id
    · rw [if_pos h]
      simp [h]
    · rw [if_neg h, placeF_iff (l := t)]
      simp [Ne.symm h]
theorem hasB_iff {l : List Int} {id : Int} : hasB l id = true ↔ id ∈ l := by simp [hasB, place, placeF_iff]
theorem hasB_mem (l : List Int) (id : Int) : hasB l id = decide (id ∈ l) := by
  cases h : hasB l id
  · have : id ∉ l := fun hm => by rw [hasB_iff.2 hm] at h; cases h
    simp [this]
  · simp [hasB_iff.1 h]
def maj (n : Int) : Int := if n < 1 ∨ 16 < n then 0 else n / 2 + 1
def fastQ (n : Int) : Int := if n < 1 ∨ 16 < n then 0 else n - (n - 1) / 4
def among (l m : List Int) (b : Bool) : List Int := l.filter fun x => hasB m x == b
def lvs (num : Int) (l c : List Int) : List Int := if validV num l && validC c then among c l true else []
def jns (num : Int) (l c : List Int) : List Int := if validV num l && validC c then among c l false else []
def svs (num : Int) (l c : List Int) : List Int := if validV num l && validC c then among l c false else []
/-- The sorted union of two lists without a common element. -/
def ins (id : Int) : List Int → List Int
  | [] => [id]
  | x :: t => if id < x then id :: x :: t else x :: ins id t
def insAll (l : List Int) (j : List Int) : List Int := j.foldl (fun s x => ins x s) l
theorem mem_ins {id y : Int} : ∀ {l : List Int}, y ∈ ins id l ↔ y = id ∨ y ∈ l
  | [] => by simp [ins]
  | x :: t => by
    unfold ins
    split
    · simp
    · simp only [List.mem_cons, mem_ins (l := t)]
      constructor
      · rintro (h | h | h)
        · exact .inr (.inl h)
        · exact .inl h
        · exact .inr (.inr h)
      · rintro (h | h | h)
        · exact .inr (.inl h)
        · exact .inl h
        · exact .inr (.inr h)
theorem len_ins {id : Int} : ∀ {l : List Int}, (ins id l).length = l.length + 1
  | [] => rfl
  | x :: t => by
    unfold ins
    split
    · simp
    · simp [len_ins (l := t)]
theorem Asc.ins {id : Int} : ∀ {l : List Int}, Asc l → id ∉ l → Asc (ins id l)
  | [], _, _ => by simp [V.ins, Asc]
  | x :: t, h, hn => by
    unfold Asc at h ⊢
    unfold V.ins
    rw [List.pairwise_cons] at h
    have hne : x ≠ id := fun e => hn (by simp [e])
    split
    · rename_i hlt
      rw [List.pairwise_cons, List.pairwise_cons]
      refine ⟨fun y hy => ?_, h⟩
      rcases List.mem_cons.1 hy with e | hy
      · omega
      · have := h.1 y hy; omega
    · rename_i hlt
      rw [List.pairwise_cons]
      refine ⟨fun y hy => ?_, Asc.ins h.2 fun hm => hn (by simp [hm])⟩
      rcases mem_ins.1 hy with e | hy
      · omega
      · exact h.1 y hy
theorem mem_insAll {y : Int} : ∀ {j l : List Int}, y ∈ insAll l j ↔ y ∈ l ∨ y ∈ j
  | [], l => by simp [insAll]
  | x :: j, l => by
    have := mem_insAll (y := y) (j := j) (l := ins x l)
    unfold insAll at this ⊢
    rw [List.foldl_cons, this, mem_ins, List.mem_cons]
    constructor
    · rintro ((h | h) | h)
      · exact .inr (.inl h)
      · exact .inl h
      · exact .inr (.inr h)
    · rintro (h | h | h)
      · exact .inl (.inr h)
      · exact .inl (.inl h)
      · exact .inr h
theorem len_insAll : ∀ {j l : List Int}, (insAll l j).length = l.length + j.length
  | [], l => rfl
  | x :: j, l => by
    have := len_insAll (j := j) (l := ins x l)
    unfold insAll at this ⊢
    rw [List.foldl_cons, this, len_ins, List.length_cons]
    omega
theorem Asc.insAll : ∀ {j l : List Int}, Asc l → Asc j → (∀ x ∈ j, x ∉ l) → Asc (insAll l j)
  | [], l, h, _, _ => h
  | x :: j, l, h, hj, hd => by
    unfold Asc at hj
    rw [List.pairwise_cons] at hj
    have := Asc.insAll (j := j) (l := V.ins x l) (h.ins (hd x (by simp))) hj.2 (fun y hy hm => by
      rcases mem_ins.1 hm with e | hm
      · have := hj.1 y hy; omega
      · exact hd y (by simp [hy]) hm)
    unfold V.insAll at this ⊢
    rw [List.foldl_cons]
    exact this
/-- The view behind a cut: number, members, error. -/
def next (num : Int) (l c : List Int) : (Int × List Int) × Nat :=
  if (validV num l && validC c) = false then ((0, []), 1)
  else if 2 * (svs num l c).length ≤ l.length then ((0, []), 9)
  else if num = 1099511627776 ∨ 16 < (svs num l c).length + (jns num l c).length then ((0, []), 5)
  else ((num + 1, insAll (svs num l c) (jns num l c)), 0)
def diff (n1 : Int) (a : List Int) (n2 : Int) (b : List Int) : List Int :=
  if validV n1 a && validV n2 b then insAll (among a b false) (among b a false) else []
theorem mem_among {l m : List Int} {b : Bool} {x : Int} : x ∈ among l m b ↔ x ∈ l ∧ (decide (x ∈ m) = b) := by
  unfold among
  rw [List.mem_filter, hasB_mem]
  simp
theorem among_asc {l m : List Int} {b : Bool} (h : Asc l) : Asc (among l m b) := h.filter _
/-- Two ascending lists: what is common is the same from either side. -/
theorem among_comm {l m : List Int} (hl : Asc l) (hm : Asc m) : among l m true = among m l true :=
  Asc.ext (among_asc hl) (among_asc hm) fun x => by simp [mem_among, and_comm]
theorem filter_len (p : Int → Bool) : ∀ l : List Int, (l.filter fun x => p x == true).length + (l.filter fun x => p x == false).length = l.length
  | [] => rfl
  | x :: t => by
    have := filter_len p t
    rw [List.filter_cons, List.filter_cons]
    cases hx : p x <;> simp at this ⊢ <;> omega
theorem among_len (l m : List Int) : (among l m true).length + (among l m false).length = l.length := filter_len _ l
theorem valid_parts {num : Int} {l c : List Int} (h : (validV num l && validC c) = true) :
    0 ≤ num ∧ num ≤ 1099511627776 ∧ 1 ≤ l.length ∧ l.length ≤ 16 ∧ Asc l ∧ IDs l ∧ 1 ≤ c.length ∧ c.length ≤ 32 ∧ Asc c ∧ IDs c := by
  rw [Bool.and_eq_true, validV_iff, validM_iff, validC_iff] at h
  obtain ⟨⟨h1, h2, h3, h4, h5, h6⟩, h7, h8, h9, h10⟩ := h
  exact ⟨h1, h2, h3, h4, h5, h6, h7, h8, h9, h10⟩
theorem lvs_eq {num : Int} {l c : List Int} (h : (validV num l && validC c) = true) : lvs num l c = among c l true := by unfold lvs; rw [if_pos h]
theorem jns_eq {num : Int} {l c : List Int} (h : (validV num l && validC c) = true) : jns num l c = among c l false := by unfold jns; rw [if_pos h]
theorem svs_eq {num : Int} {l c : List Int} (h : (validV num l && validC c) = true) : svs num l c = among l c false := by unfold svs; rw [if_pos h]
/-- A cut is the leavers and the joiners, the members are the leavers and the survivors. -/
theorem parts_len {num : Int} {l c : List Int} (h : (validV num l && validC c) = true) :
    (lvs num l c).length + (jns num l c).length = c.length ∧ (lvs num l c).length + (svs num l c).length = l.length := by
  obtain ⟨_, _, _, _, hl, _, _, _, hc, _⟩ := valid_parts h
  rw [lvs_eq h, jns_eq h, svs_eq h]
  refine ⟨among_len c l, ?_⟩
  rw [among_comm hc hl]
  exact among_len l c
theorem parts_mem {num : Int} {l c : List Int} (h : (validV num l && validC c) = true) (x : Int) :
    (x ∈ lvs num l c ↔ x ∈ l ∧ x ∈ c) ∧ (x ∈ jns num l c ↔ x ∈ c ∧ x ∉ l) ∧ (x ∈ svs num l c ↔ x ∈ l ∧ x ∉ c) := by
  rw [lvs_eq h, jns_eq h, svs_eq h]
  simp [mem_among, and_comm]
theorem parts_asc {num : Int} {l c : List Int} (h : (validV num l && validC c) = true) : Asc (lvs num l c) ∧ Asc (jns num l c) ∧ Asc (svs num l c) := by
  obtain ⟨_, _, _, _, hl, _, _, _, hc, _⟩ := valid_parts h
  rw [lvs_eq h, jns_eq h, svs_eq h]
  exact ⟨among_asc hc, among_asc hc, among_asc hl⟩
/-- What a view behind an applicable cut is. -/
structure NextOk (num : Int) (l c : List Int) (num' : Int) (l' : List Int) : Prop where
  val : (validV num l && validC c) = true
  more : l.length < 2 * (svs num l c).length
  lt : num < 1099511627776
  nx : num' = num + 1
  eq : l' = insAll (svs num l c) (jns num l c)
  len : l'.length = (svs num l c).length + (jns num l c).length
  le : l'.length ≤ 16
  asc : Asc l'
  ids : IDs l'
  mem : ∀ x, x ∈ l' ↔ (x ∈ l ∧ x ∉ c) ∨ (x ∈ c ∧ x ∉ l)
  valid : validV num' l' = true
theorem next_ok {num num' : Int} {l c l' : List Int} (h : next num l c = ((num', l'), 0)) : NextOk num l c num' l' := by
  unfold next at h
  split at h
  · simp at h
  · rename_i hv
    split at h
    · simp at h
    · rename_i hm
      split at h
      · simp at h
      · rename_i hlim
        simp only [Prod.mk.injEq, and_true] at h
        obtain ⟨h1, h2⟩ := h
        have hv' : (validV num l && validC c) = true := by cases hb : (validV num l && validC c) <;> simp_all
        obtain ⟨a1, a2, a3, a4, hl, il, a5, a6, hc, ic⟩ := valid_parts hv'
        obtain ⟨_, pj, ps⟩ := parts_asc hv'
        have hmem : ∀ x, x ∈ l' ↔ (x ∈ l ∧ x ∉ c) ∨ (x ∈ c ∧ x ∉ l) := fun x => by
          rw [← h2, mem_insAll, (parts_mem hv' x).2.1, (parts_mem hv' x).2.2]
        have hasc : Asc l' := by
          rw [← h2]
          exact Asc.insAll ps pj fun x hx hs => ((parts_mem hv' x).2.1.1 hx).2 ((parts_mem hv' x).2.2.1 hs).1
        have hlen : l'.length = (svs num l c).length + (jns num l c).length := by rw [← h2, len_insAll]
        have hids : IDs l' := fun x hx => by
          rcases (hmem x).1 hx with hx | hx
          · exact il x hx.1
          · exact ic x hx.1
        have h3 : ¬ num = 1099511627776 := fun e => hlim (.inl e)
        have h4 : ¬ 16 < (svs num l c).length + (jns num l c).length := fun e => hlim (.inr e)
        refine ⟨hv', by omega, by omega, h1.symm, h2.symm, hlen, by omega, hasc, hids, hmem, ?_⟩
        rw [validV_iff, validM_iff]
        exact ⟨by omega, by omega, by omega, by omega, hasc, hids⟩
theorem mem_diff {n1 n2 : Int} {a b : List Int} (h : (validV n1 a && validV n2 b) = true) (x : Int) : x ∈ diff n1 a n2 b ↔ (x ∈ a ∧ x ∉ b) ∨ (x ∈ b ∧ x ∉ a) := by
  unfold diff
  rw [if_pos h, mem_insAll, mem_among, mem_among]
  simp
theorem diff_asc {n1 n2 : Int} {a b : List Int} (h : (validV n1 a && validV n2 b) = true) : Asc (diff n1 a n2 b) := by
  have h' := h
  rw [Bool.and_eq_true, validV_iff, validV_iff, validM_iff, validM_iff] at h'
  obtain ⟨⟨_, _, _, _, ha, _⟩, _, _, _, _, hb, _⟩ := h'
  unfold diff
  rw [if_pos h]
  refine Asc.insAll (among_asc ha) (among_asc hb) fun x hx hx2 => ?_
  rw [mem_among] at hx hx2
  have := hx2.2
  simp at this hx
  exact this hx.1
theorem diff_comm {n1 n2 : Int} {a b : List Int} : diff n1 a n2 b = diff n2 b n1 a := by
  by_cases h : (validV n1 a && validV n2 b) = true
  · have h2 : (validV n2 b && validV n1 a) = true := by rw [Bool.and_comm]; exact h
    refine Asc.ext (diff_asc h) (diff_asc h2) fun x => ?_
    rw [mem_diff h, mem_diff h2, or_comm]
  · have h2 : ¬ (validV n2 b && validV n1 a) = true := by rw [Bool.and_comm]; exact h
    unfold diff
    rw [if_neg h, if_neg h2]
theorem diff_self {n1 n2 : Int} {a : List Int} : diff n1 a n2 a = [] := by
  by_cases h : (validV n1 a && validV n2 a) = true
  · refine List.eq_nil_iff_forall_not_mem.2 fun x hx => ?_
    rcases (mem_diff h x).1 hx with hx | hx <;> exact hx.2 hx.1
  · unfold diff; rw [if_neg h]
/-- The difference of a view and the next one is the cut. -/
theorem diff_next {num num' : Int} {l c l' : List Int} (h : next num l c = ((num', l'), 0)) : diff num l num' l' = c ∧ diff num' l' num l = c := by
  have H := next_ok h
  obtain ⟨a1, a2, a3, a4, hl, il, a5, a6, hc, ic⟩ := valid_parts H.val
  have hv : validV num l = true := by have := H.val; rw [Bool.and_eq_true] at this; exact this.1
  have hd : (validV num l && validV num' l') = true := by rw [hv, H.valid]; rfl
  have h1 : diff num l num' l' = c := Asc.ext (diff_asc hd) hc fun x => by
    rw [mem_diff hd, H.mem]
    by_cases hx : x ∈ l <;> by_cases hy : x ∈ c <;> simp [hx, hy]
  exact ⟨h1, by rw [diff_comm]; exact h1⟩
/-- A cut applied twice leads back. -/
theorem next_back {num num' num2 : Int} {l c l' l2 : List Int} (h : next num l c = ((num', l'), 0)) (h2 : next num' l' c = ((num2, l2), 0)) : num2 = num + 2 ∧ l2 = l := by
  have H := next_ok h
  have H2 := next_ok h2
  obtain ⟨_, _, _, _, hl, _⟩ := valid_parts H.val
  refine ⟨by rw [H2.nx, H.nx]; omega, Asc.ext H2.asc hl fun x => ?_⟩
  rw [H2.mem, H.mem]
  by_cases hx : x ∈ l <;> by_cases hy : x ∈ c <;> simp [hx, hy]
theorem next_err {num num' : Int} {l c l' : List Int} {e : Nat} (h : next num l c = ((num', l'), e)) (he : e ≠ 0) : num' = 0 ∧ l' = [] := by
  unfold next at h
  split at h
  · simp at h; exact ⟨h.1.1.symm, h.1.2⟩
  · split at h
    · simp at h; exact ⟨h.1.1.symm, h.1.2⟩
    · split at h
      · simp at h; exact ⟨h.1.1.symm, h.1.2⟩
      · simp at h; omega
/-! ### quorums: how many bits are 1 -/
def pop : Nat → Nat → Nat
  | 0, _ => 0
  | k + 1, x => x % 2 + pop k (x / 2)
theorem pop_le : ∀ (k x : Nat), pop k x ≤ k
  | 0, _ => Nat.le_refl _
  | k + 1, x => by
    have := pop_le k (x / 2)
    show x % 2 + pop k (x / 2) ≤ _
    omega
theorem and_half (x y : Nat) : (x &&& y) / 2 = (x / 2) &&& (y / 2) := by
  rw [← Nat.shiftRight_eq_div_pow _ 1, ← Nat.shiftRight_eq_div_pow _ 1, ← Nat.shiftRight_eq_div_pow _ 1, Nat.shiftRight_and_distrib]
theorem and_odd (x y : Nat) : (x &&& y) % 2 = (x % 2) * (y % 2) := by
  have h := Nat.testBit_and x y 0
  rw [Nat.testBit_zero, Nat.testBit_zero, Nat.testBit_zero] at h
  have hx : x % 2 = 0 ∨ x % 2 = 1 := by omega
  have hy : y % 2 = 0 ∨ y % 2 = 1 := by omega
  have hz : (x &&& y) % 2 = 0 ∨ (x &&& y) % 2 = 1 := by omega
  rcases hx with hx | hx <;> rcases hy with hy | hy <;> rcases hz with hz | hz <;> simp_all
theorem pop_two : ∀ (k x y : Nat), x &&& y = 0 → pop k x + pop k y ≤ k
  | 0, _, _, _ => Nat.le_refl _
  | k + 1, x, y, h => by
    have h1 := and_half x y
    have h2 := and_odd x y
    rw [h] at h1 h2
    have ih := pop_two k (x / 2) (y / 2) h1.symm
    show x % 2 + pop k (x / 2) + (y % 2 + pop k (y / 2)) ≤ _
    have hx : x % 2 = 0 ∨ x % 2 = 1 := by omega
    have hy : y % 2 = 0 ∨ y % 2 = 1 := by omega
    rcases hx with hx | hx <;> rcases hy with hy | hy <;> rw [hx, hy] at h2 <;> omega
theorem pop_three : ∀ (k x y z : Nat), x &&& y &&& z = 0 → pop k x + pop k y + pop k z ≤ 2 * k
  | 0, _, _, _, _ => Nat.le_refl _
  | k + 1, x, y, z, h => by
    have h1 := and_half (x &&& y) z
    rw [and_half x y] at h1
    have h2 := and_odd (x &&& y) z
    rw [and_odd x y] at h2
    rw [h] at h1 h2
    have ih := pop_three k (x / 2) (y / 2) (z / 2) h1.symm
    show x % 2 + pop k (x / 2) + (y % 2 + pop k (y / 2)) + (z % 2 + pop k (z / 2)) ≤ _
    have hx : x % 2 = 0 ∨ x % 2 = 1 := by omega
    have hy : y % 2 = 0 ∨ y % 2 = 1 := by omega
    have hz : z % 2 = 0 ∨ z % 2 = 1 := by omega
    rcases hx with hx | hx <;> rcases hy with hy | hy <;> rcases hz with hz | hz <;> rw [hx, hy, hz] at h2 <;> omega
/-- Two majorities have a member in common. -/
theorem maj_two {k x y : Nat} (h1 : 1 ≤ k) (h2 : k ≤ 16) (hx : maj k ≤ (pop k x : Int)) (hy : maj k ≤ (pop k y : Int)) : x &&& y ≠ 0 := by
  intro h
  have := pop_two k x y h
  have e : maj k = (k : Int) / 2 + 1 := by unfold maj; rw [if_neg (by omega)]
  omega
/-- Two fast quorums and a majority, too. -/
theorem fast_three {k x y z : Nat} (h1 : 1 ≤ k) (h2 : k ≤ 16) (hx : fastQ k ≤ (pop k x : Int)) (hy : fastQ k ≤ (pop k y : Int)) (hz : maj k ≤ (pop k z : Int)) : x &&& y &&& z ≠ 0 := by
  intro h
  have := pop_three k x y z h
  have e : maj k = (k : Int) / 2 + 1 := by unfold maj; rw [if_neg (by omega)]
  have e2 : fastQ k = (k : Int) - ((k : Int) - 1) / 4 := by unfold fastQ; rw [if_neg (by omega)]
  omega
theorem quorum_order {k : Nat} (h1 : 1 ≤ k) (h2 : k ≤ 16) : 1 ≤ maj k ∧ maj k ≤ fastQ k ∧ fastQ k ≤ k := by
  have e : maj k = (k : Int) / 2 + 1 := by unfold maj; rw [if_neg (by omega)]
  have e2 : fastQ k = (k : Int) - ((k : Int) - 1) / 4 := by unfold fastQ; rw [if_neg (by omega)]
  omega
/-- The loop of 'ones': what is left to count, and how wide it is. -/
theorem pop_zero : ∀ k, pop k 0 = 0
  | 0 => rfl
  | k + 1 => by show 0 % 2 + pop k (0 / 2) = 0; simp [pop_zero k]
end Go.Proofs.Yteiolhbjgfkdeaa.V
