import Derived.Test.YtihgbadglaogdaaDoorOB
/- The failure detector of layer 5, in mathematics. -/
namespace Go.Proofs.YtihgbadglaogdaaDoor.Pb
set_option linter.unusedVariables false
open Go.Proofs.YtihgbadglaogdaaDoor.V
open Go.Proofs.YtihgbadglaogdaaDoor.O

/-- A window is valid. -/
def okWin (b : Nat) (c : Int) : Bool := decide (0 ≤ c) && (decide (c ≤ 10) && decide (b < 2 ^ c.toNat))
/-- The bits behind one more outcome. -/
def recB (b : Nat) (ok : Bool) : Nat := b * 2 % 1024 + (if ok then 0 else 1)
def recW (b : Nat) (c : Int) (ok : Bool) : Nat × Int := if okWin b c then (recB b ok, min (c + 1) 10) else (0, 0)
/-- The ones among the first k bits. -/
def ones (b : Nat) : Nat → Nat
  | 0 => 0
  | k + 1 => ones b k + b / 2 ^ k % 2
def failW (b : Nat) (c : Int) : Bool := okWin b c && (decide (c = 10) && decide (4 ≤ ones b 10))
theorem okWin_iff {b : Nat} {c : Int} : okWin b c = true ↔ 0 ≤ c ∧ c ≤ 10 ∧ b < 2 ^ c.toNat := by unfold okWin; simp
theorem okWin_lt {b : Nat} {c : Int} (h : okWin b c = true) : b < 1024 := by
  obtain ⟨h0, h1, h2⟩ := okWin_iff.1 h
  exact Nat.lt_of_lt_of_le h2 (Nat.le_trans (Nat.pow_le_pow_right (by decide) (show c.toNat ≤ 10 by omega)) (by decide))
theorem recB_lt {b : Nat} {ok : Bool} : recB b ok < 1024 := by unfold recB; cases ok <;> simp <;> omega
theorem recW_ok (b : Nat) (c : Int) (ok : Bool) : okWin (recW b c ok).1 (recW b c ok).2 = true := by
  unfold recW
  split
  · rename_i h
    obtain ⟨h0, h1, h2⟩ := okWin_iff.1 h
    rw [okWin_iff]
    refine ⟨by simp; omega, by simp; omega, ?_⟩
    by_cases hc : c = 10
    · subst hc
      have e : (min ((10 : Int) + 1) 10).toNat = 10 := by decide
      simp only [e]
      exact recB_lt
    · have e : (min (c + 1) 10).toNat = c.toNat + 1 := by omega
      simp only [e]
      have := Nat.mod_le (b * 2) 1024
      unfold recB
      rw [Nat.pow_succ]
      split <;> omega
  · decide
theorem bit_recB {b i : Nat} {ok : Bool} (h : i < 9) : recB b ok / 2 ^ (i + 1) % 2 = b / 2 ^ i % 2 := by
  have e1 : recB b ok / 2 = b % 512 := by unfold recB; cases ok <;> simp <;> omega
  rw [Nat.pow_succ', ← Nat.div_div_eq_div_mul, e1]
  have h1 := Nat.testBit_mod_two_pow b 9 i
  simp only [show (2 : Nat) ^ 9 = 512 from rfl, h, decide_true, Bool.true_and] at h1
  have h2 : ∀ n : Nat, Nat.testBit n i = decide (n / 2 ^ i % 2 = 1) := fun n => by rw [Nat.testBit_eq_decide_div_mod_eq]
  rw [h2, h2, decide_eq_decide] at h1
  omega
theorem ones_recB {b : Nat} {ok : Bool} : ∀ {k : Nat}, k < 10 → ones (recB b ok) (k + 1) = (if ok then 0 else 1) + ones b k
  | 0, _ => by unfold ones ones; unfold recB; cases ok <;> simp <;> omega
  | k + 1, h => by
    rw [show ones (recB b ok) (k + 1 + 1) = ones (recB b ok) (k + 1) + recB b ok / 2 ^ (k + 1) % 2 from rfl, ones_recB (k := k) (by omega), bit_recB (by omega)]
    rw [show ones b (k + 1) = ones b k + b / 2 ^ k % 2 from rfl]
    omega
/-- The failures in a list of outcomes. -/
def bad (l : List Bool) : Nat := l.countP (· == false)
def runW (l : List Bool) : Nat × Int := l.foldl (fun w ok => recW w.1 w.2 ok) (0, 0)
theorem runW_snoc (l : List Bool) (x : Bool) : runW (l ++ [x]) = recW (runW l).1 (runW l).2 x := by unfold runW; rw [List.foldl_append]; rfl
theorem runW_ok (l : List Bool) : okWin (runW l).1 (runW l).2 = true := by
  rcases List.eq_nil_or_concat l with rfl | ⟨t, x, rfl⟩
  · decide
  · rw [List.concat_eq_append, runW_snoc]; exact recW_ok _ _ _
theorem runW_at : ∀ (n : Nat) (l : List Bool), l.length = n → (runW l).2 = min (l.length : Int) 10 ∧ ∀ k, k ≤ 10 → ones (runW l).1 k = bad (l.drop (l.length - k))
  | 0, l, h => by
    rw [List.length_eq_zero_iff] at h
    subst h
    refine ⟨by decide, fun k hk => ?_⟩
    have : ∀ k, ones 0 k = 0 := fun k => by induction k with
      | zero => rfl
      | succ k ih => unfold ones; rw [ih]; simp
    show ones 0 k = _
    rw [this]; simp [bad]
  | n + 1, l, h => by
    rcases List.eq_nil_or_concat l with rfl | ⟨t, x, rfl⟩
    · cases h
    rw [List.concat_eq_append] at *
    have ht : t.length = n := by simpa using h
    obtain ⟨h1, h2⟩ := runW_at n t ht
    have hok := runW_ok t
    rw [runW_snoc]
    unfold recW
    rw [if_pos hok]
    refine ⟨by simp only [h1, List.length_append, List.length_cons, List.length_nil]; omega, fun k hk => ?_⟩
    cases k with
    | zero =>
      rw [List.drop_eq_nil_of_le (by omega)]; rfl
    | succ k =>
      simp only
      rw [ones_recB (by omega), h2 k (by omega)]
      rw [show (t ++ [x]).length - (k + 1) = t.length - k by simp, List.drop_append_of_le_length (by omega)]
      unfold bad
      rw [List.countP_append]
      cases x <;> simp [Nat.add_comm]
/-- What ProbeCounts says of the mathematics. -/
theorem runW_fails (l : List Bool) : failW (runW l).1 (runW l).2 = (decide (10 ≤ l.length) && decide (4 ≤ bad (l.drop (l.length - 10)))) := by
  obtain ⟨h1, h2⟩ := runW_at _ l rfl
  unfold failW
  rw [runW_ok, h2 10 (by omega), h1]
  by_cases h : 10 ≤ l.length
  · have : min (l.length : Int) 10 = 10 := by omega
    simp [h, this]
  · have : ¬ min (l.length : Int) 10 = 10 := by omega
    simp [h, this]
/-- An edge. -/
structure Edge where
  ring : Int
  subj : Int
  heard : Bool
  rep : Bool
  bits : Nat
  cnt : Int
deriving DecidableEq
/-- The edges of a new detector. -/
def mkE : Int → List Int → List Edge
  | _, [] => []
  | r, s :: t => ⟨r, s, false, false, 0, 0⟩ :: mkE (r + 1) t
def newE (K : Int → Int → Nat) (l : List Int) (self : Int) : List Edge := mkE 0 (subL K l self)
/-- The edges have these rings and subjects, and valid windows. -/
def fitE : List Edge → List Edge → Bool
  | [], [] => true
  | n :: ns, x :: xs => (decide (x.ring = n.ring) && (decide (x.subj = n.subj) && okWin x.bits x.cnt)) && fitE ns xs
  | _, _ => false
def okN (num : Int) (l : List Int) (self : Int) : Bool := validV num l && hasB l self
def okD (K : Int → Int → Nat) (num : Int) (l : List Int) (self : Int) (es : List Edge) : Bool := okN num l self && fitE (newE K l self) es
def hearE (x : Int) (e : Edge) : Edge := { e with heard := e.heard || decide (e.subj = x) }
def hear (x : Int) (es : List Edge) : List Edge := es.map (hearE x)
/-- An edge at a tick, and whether it is reported now. -/
def firesE (e : Edge) : Bool := failW (recW e.bits e.cnt e.heard).1 (recW e.bits e.cnt e.heard).2 && !e.rep
def tickE (e : Edge) : Edge := { e with heard := false, rep := e.rep || firesE e, bits := (recW e.bits e.cnt e.heard).1, cnt := (recW e.bits e.cnt e.heard).2 }
def tick (es : List Edge) : List Edge := es.map tickE
/-- An alert: the view's number, the ring, the observer, the subject. -/
structure Alr where
  view : Int
  ring : Int
  obs : Int
  subj : Int
deriving DecidableEq
def alertsOf (num self : Int) (es : List Edge) : List Alr := (es.filter firesE).map fun e => ⟨num, e.ring, self, e.subj⟩
theorem fitE_len : ∀ {n x : List Edge}, fitE n x = true → x.length = n.length
  | [], [], _ => rfl
  | n :: ns, x :: xs, h => by
    unfold fitE at h
    simp only [Bool.and_eq_true] at h
    simp [fitE_len h.2]
  | [], _ :: _, h => by cases h
  | _ :: _, [], h => by cases h
theorem fitE_map {f : Edge → Edge} (hr : ∀ e, (f e).ring = e.ring) (hs : ∀ e, (f e).subj = e.subj) (hw : ∀ e, okWin e.bits e.cnt = true → okWin (f e).bits (f e).cnt = true) :
    ∀ {n x : List Edge}, fitE n x = true → fitE n (x.map f) = true
  | [], [], _ => rfl
  | n :: ns, x :: xs, h => by
    unfold fitE at h
    simp only [Bool.and_eq_true, decide_eq_true_eq] at h
    show ((decide ((f x).ring = n.ring) && (decide ((f x).subj = n.subj) && okWin (f x).bits (f x).cnt)) && fitE ns (xs.map f)) = true
    rw [hr, hs, hw x h.1.2.2, fitE_map hr hs hw h.2]
    simp [h.1.1, h.1.2.1]
  | [], _ :: _, h => by cases h
  | _ :: _, [], h => by cases h
theorem fitE_hear {n x : List Edge} {s : Int} (h : fitE n x = true) : fitE n (hear s x) = true := fitE_map (f := hearE s) (fun _ => rfl) (fun _ => rfl) (fun _ h => h) h
theorem fitE_tick {n x : List Edge} (h : fitE n x = true) : fitE n (tick x) = true := fitE_map (f := tickE) (fun _ => rfl) (fun _ => rfl) (fun e _ => recW_ok _ _ _) h
theorem fitE_self : ∀ {r : Int} {l : List Int}, fitE (mkE r l) (mkE r l) = true
  | _, [] => rfl
  | r, s :: t => by
    show ((decide (r = r) && (decide (s = s) && okWin 0 0)) && fitE (mkE (r + 1) t) (mkE (r + 1) t)) = true
    rw [fitE_self]
    simp; decide
theorem okD_new {K : Int → Int → Nat} {num self : Int} {l : List Int} (h : okN num l self = true) : okD K num l self (newE K l self) = true := by unfold okD newE; rw [h, fitE_self]; rfl
theorem okD_hear {K : Int → Int → Nat} {num self : Int} {l : List Int} {es : List Edge} {s : Int} (h : okD K num l self es = true) : okD K num l self (hear s es) = true := by
  unfold okD at *
  simp only [Bool.and_eq_true] at *
  exact ⟨h.1, fitE_hear h.2⟩
theorem okD_tick {K : Int → Int → Nat} {num self : Int} {l : List Int} {es : List Edge} (h : okD K num l self es = true) : okD K num l self (tick es) = true := by
  unfold okD at *
  simp only [Bool.and_eq_true] at *
  exact ⟨h.1, fitE_tick h.2⟩
end Go.Proofs.YtihgbadglaogdaaDoor.Pb

/- The failure detector of layer 5: what is reported, and how often. -/
namespace Go.Proofs.YtihgbadglaogdaaDoor.Pb
set_option linter.unusedVariables false
open Go.Proofs.YtihgbadglaogdaaDoor.V
open Go.Proofs.YtihgbadglaogdaaDoor.O

/-- The members but one, heard one behind the other. -/
def hearAll (ms : List Int) (gone : Int) (es : List Edge) : List Edge := ms.foldl (fun es m => if m = gone then es else hear m es) es
theorem hearAll_snoc {ms : List Int} {gone : Int} {es : List Edge} {i : Nat} {x : Int} (h : ms[i]? = some x) : hearAll (ms.take (i + 1)) gone es = if x = gone then hearAll (ms.take i) gone es else hear x (hearAll (ms.take i) gone es) := by
  unfold hearAll
  rw [List.take_add_one, h]
  simp [List.foldl_append]
theorem hearAll_eq : ∀ (ms : List Int) (gone : Int) (es : List Edge), hearAll ms gone es = es.map fun e => { e with heard := e.heard || (decide (e.subj ∈ ms) && decide (e.subj ≠ gone)) }
  | [], gone, es => by
    show es = _
    rw [List.map_congr_left (g := id)]
    · simp
    · intro e _; simp
  | m :: ms, gone, es => by
    show hearAll ms gone (if m = gone then es else hear m es) = _
    rw [hearAll_eq ms gone]
    by_cases h : m = gone
    · rw [if_pos h]
      refine List.map_congr_left fun e _ => ?_
      by_cases he : e.subj = m
      · simp [he, h]
      · simp [he]
    · rw [if_neg h]
      unfold hear
      rw [List.map_map]
      refine List.map_congr_left fun e _ => ?_
      by_cases he : e.subj = m
      · simp [hearE, he, h]
      · simp [hearE, he]
theorem bad_rep (n : Nat) (ok : Bool) : bad ((List.replicate n ok).drop (n - 10)) = if ok then 0 else min n 10 := by
  rw [List.drop_replicate]
  unfold bad
  cases ok
  · simp [List.countP_replicate]; omega
  · simp [List.countP_replicate]
theorem fail_rep (n : Nat) (ok : Bool) : failW (runW (List.replicate n ok)).1 (runW (List.replicate n ok)).2 = (decide (10 ≤ n) && !ok) := by
  rw [runW_fails, List.length_replicate, bad_rep]
  cases ok
  · by_cases h : 10 ≤ n
    · simp [h]
    · simp [h]
  · simp
/-- The detector behind t rounds in which all but one were heard; what it has reported. -/
def stS (gone : Int) (t : Nat) (es : List Edge) : List Edge := es.map fun e => ⟨e.ring, e.subj, false, decide (e.subj = gone) && decide (10 ≤ t), (runW (List.replicate t (decide (e.subj ≠ gone)))).1, (runW (List.replicate t (decide (e.subj ≠ gone)))).2⟩
def gotS (num self gone : Int) (t : Nat) (es : List Edge) : List Alr := if 10 ≤ t then (es.filter fun e => decide (e.subj = gone)).map fun e => ⟨num, e.ring, self, e.subj⟩ else []
def heardS (ms : List Int) (gone : Int) (t : Nat) (es : List Edge) : List Edge := es.map fun e => ⟨e.ring, e.subj, decide (e.subj ≠ gone), decide (e.subj = gone) && decide (10 ≤ t), (runW (List.replicate t (decide (e.subj ≠ gone)))).1, (runW (List.replicate t (decide (e.subj ≠ gone)))).2⟩
theorem heard_eq {ms : List Int} {gone : Int} {t : Nat} {es : List Edge} (h : ∀ e ∈ es, e.subj ∈ ms) : hearAll ms gone (stS gone t es) = heardS ms gone t es := by
  rw [hearAll_eq]
  unfold stS heardS
  rw [List.map_map]
  refine List.map_congr_left fun e he => ?_
  simp [h e he]
theorem fires_S {ring subj gone : Int} {t : Nat} : firesE ⟨ring, subj, decide (subj ≠ gone), decide (subj = gone) && decide (10 ≤ t), (runW (List.replicate t (decide (subj ≠ gone)))).1, (runW (List.replicate t (decide (subj ≠ gone)))).2⟩ = (decide (subj = gone) && decide (t + 1 = 10)) := by
  unfold firesE
  rw [← runW_snoc, ← List.replicate_succ', fail_rep]
  by_cases h : subj = gone
  · by_cases h1 : 10 ≤ t
    · have h2 : 10 ≤ t + 1 := by omega
      have h3 : ¬ t + 1 = 10 := by omega
      simp [h, h1, h3]
    · by_cases h3 : t + 1 = 10
      · have : t = 9 := by omega
        subst this
        simp [h]
      · have h2 : ¬ 10 ≤ t + 1 := by omega
        have h4 : ¬ 9 ≤ t := by omega
        have h5 : ¬ t = 9 := by omega
        simp [h, h1, h4, h5]
  · simp [h]
theorem tick_S {ms : List Int} {gone : Int} {t : Nat} {es : List Edge} : tick (heardS ms gone t es) = stS gone (t + 1) es := by
  unfold tick heardS stS
  rw [List.map_map]
  refine List.map_congr_left fun e he => ?_
  show tickE _ = _
  unfold tickE
  rw [fires_S]
  simp only [← runW_snoc, ← List.replicate_succ']
  congr 1
  by_cases h : e.subj = gone
  · by_cases h1 : 10 ≤ t
    · have h2 : 9 ≤ t := by omega
      simp [h, h1, h2]
    · by_cases h3 : t = 9
      · simp [h, h3]
      · have h4 : ¬ 9 ≤ t := by omega
        simp [h, h1, h3, h4]
  · simp [h]
theorem got_S {ms : List Int} {num self gone : Int} {t : Nat} {es : List Edge} : gotS num self gone t es ++ alertsOf num self (heardS ms gone t es) = gotS num self gone (t + 1) es := by
  have e : alertsOf num self (heardS ms gone t es) = if t + 1 = 10 then (es.filter fun e => decide (e.subj = gone)).map fun e => (⟨num, e.ring, self, e.subj⟩ : Alr) else [] := by
    unfold alertsOf heardS
    rw [List.filter_map, List.map_map]
    have : (firesE ∘ fun e : Edge => (⟨e.ring, e.subj, decide (e.subj ≠ gone), decide (e.subj = gone) && decide (10 ≤ t), (runW (List.replicate t (decide (e.subj ≠ gone)))).1, (runW (List.replicate t (decide (e.subj ≠ gone)))).2⟩ : Edge)) = fun e => decide (e.subj = gone) && decide (t + 1 = 10) := by
      funext e
      exact fires_S
    rw [this]
    by_cases h : t + 1 = 10
    · simp only [h, decide_true, Bool.and_true, if_true]; rfl
    · simp [h]
  rw [e]
  unfold gotS
  by_cases h1 : 10 ≤ t
  · have h2 : 10 ≤ t + 1 := by omega
    have h3 : ¬ t + 1 = 10 := by omega
    rw [if_pos h1, if_pos h2, if_neg h3, List.append_nil]
  · by_cases h3 : t + 1 = 10
    · rw [if_neg h1, if_pos h3, if_pos (by omega)]; rfl
    · rw [if_neg h1, if_neg h3, if_neg (by omega)]; rfl
theorem st_zero {gone : Int} {r : Int} {l : List Int} : stS gone 0 (mkE r l) = mkE r l := by
  induction l generalizing r with
  | nil => rfl
  | cons s t ih =>
    show _ :: stS gone 0 (mkE (r + 1) t) = _
    rw [ih]
    simp [mkE]
    decide
theorem got_zero {num self gone : Int} {es : List Edge} : gotS num self gone 0 es = [] := rfl
theorem mkE_rings {gone me : Int} {f g : Int → Int} : ∀ {rs : List Int} {i : Nat}, (∀ r ∈ rs, f r = gone ↔ g r = me) → ((mkE i (rs.map f)).filter fun e => decide (e.subj = gone)).map (fun e => e.ring) = idxF me i (rs.map g)
  | [], _, _ => rfl
  | r :: rs, i, h => by
    have ih := mkE_rings (rs := rs) (i := i + 1) (gone := gone) (me := me) (f := f) (g := g) (fun r hr => h r (by simp [hr]))
    have h0 := h r (by simp)
    show (((⟨(i : Int), f r, false, false, 0, 0⟩ : Edge) :: mkE ((i : Int) + 1) (rs.map f)).filter fun e => decide (e.subj = gone)).map (fun e => e.ring) = (if g r = me then (i : Int) :: idxF me (i + 1) (rs.map g) else idxF me (i + 1) (rs.map g))
    have e : ((i : Int) + 1) = ((i + 1 : Nat) : Int) := by omega
    rw [e]
    by_cases hg : g r = me
    · rw [if_pos hg, List.filter_cons_of_pos (by simpa using h0.2 hg), List.map_cons, ih]
    · rw [if_neg hg, List.filter_cons_of_neg (by simpa using fun h => hg (h0.1 h)), ih]
section
variable {K : Int → Int → Nat} {l : List Int}
theorem subj_mem (h : Inj K) (hv : validM l = true) {me : Int} {e : Edge} (he : e ∈ newE K l me) : e.subj ∈ l ∧ e.subj ≠ me := by
  have aux : ∀ {r : Int} {t : List Int}, e ∈ mkE r t → e.subj ∈ t := by
    intro r t
    induction t generalizing r with
    | nil => intro h; cases h
    | cons s t ih =>
      intro h
      rcases List.mem_cons.1 h with rfl | h
      · simp
      · exact List.mem_cons_of_mem _ (ih h)
  have hs := aux he
  unfold subL at hs
  split at hs
  · rename_i hc
    simp only [Bool.and_eq_true, decide_eq_true_eq] at hc
    obtain ⟨r, _, hr⟩ := List.mem_map.1 hs
    have := next_facts h hv hc.1.2 r (hasB_iff.1 hc.2)
    rw [hr] at this
    exact ⟨this.1, this.2.1⟩
  · cases hs
/-- What ProbeSilent says of the mathematics. -/
theorem got_rings (h : Inj K) (hv : validM l = true) {num me gone : Int} {t : Nat} (hm : me ∈ l) (hg : gone ∈ l) (hne : me ≠ gone) (ht : 10 ≤ t) :
    gotS num me gone t (newE K l me) = (shL K l me gone).map fun r => ⟨num, r, me, gone⟩ := by
  have h2 : 2 ≤ l.length := by
    match l, hm, hg with
    | [], hm, _ => cases hm
    | [x], hm, hg => simp at hm hg; exact absurd (hm.trans hg.symm) hne
    | _ :: _ :: _, _, _ => simp
  have hr := mkE_rings (gone := gone) (me := me) (f := fun r => nextK (ordK (K r) l) me) (g := fun r => aheadK (K r) (ordK (K r) l) gone) (rs := rings) (i := 0) (fun r _ => by
    have n := next_facts h hv h2 r hm
    have a := ahead_facts h hv h2 r hg
    constructor
    · intro e; rw [← e]; exact n.2.2
    · intro e; rw [← e]; exact a.2.2)
  unfold gotS shL newE
  rw [if_pos ht, subL_eq hv h2 hm, obsL_mem hv h2 hg, ← hr, List.map_map]
  refine List.map_congr_left fun e he => ?_
  have := (List.mem_filter.1 he).2
  simp only [decide_eq_true_eq] at this
  simp [this]
theorem got_none (h : Inj K) (hv : validM l = true) {num me gone : Int} {t : Nat} (hc : t < 10 ∨ me = gone) : gotS num me gone t (newE K l me) = [] := by
  unfold gotS
  split
  · rcases hc with hc | rfl
    · omega
    · rw [List.filter_eq_nil_iff.2]
      · rfl
      · intro e he
        have := (subj_mem h hv he).2
        simpa using this
  · rfl
end

/-- What has been reported, ring by ring. -/
def mark (R : List Bool) (a : List Alr) : List Bool := a.foldl (fun R x => R.set x.ring.toNat true) R
theorem mark_len {R : List Bool} {a : List Alr} : (mark R a).length = R.length := by
  unfold mark
  induction a generalizing R with
  | nil => rfl
  | cons x t ih => rw [List.foldl_cons, ih, List.length_set]
theorem mark_snoc {R : List Bool} {a : List Alr} {i : Nat} {x : Alr} (h : a[i]? = some x) : mark R (a.take (i + 1)) = (mark R (a.take i)).set x.ring.toNat true := by
  unfold mark
  rw [List.take_add_one, h]
  simp [List.foldl_append]
theorem mark_get {R : List Bool} {a : List Alr} {k : Nat} (hk : k < R.length) : (mark R a)[k]? = some (R.getD k false || a.any fun x => decide (x.ring.toNat = k)) := by
  unfold mark
  induction a generalizing R with
  | nil => simp [List.getD, hk]
  | cons x t ih =>
    rw [List.foldl_cons, ih (by rw [List.length_set]; exact hk)]
    by_cases h : x.ring.toNat = k
    · subst h
      simp [List.getD, hk]
    · simp [List.getD, h]
/-- The edges' rings are 0 to 4, each once, and R holds what has been reported. -/
structure RG (R : List Bool) (es : List Edge) : Prop where
  len : R.length = 5
  ring : ∀ e ∈ es, 0 ≤ e.ring ∧ e.ring < 5
  nd : (es.map fun e => e.ring).Nodup
  at_ : ∀ e ∈ es, R[e.ring.toNat]? = some e.rep
theorem RG.hear {R : List Bool} {es : List Edge} (h : RG R es) (x : Int) : RG R (Pb.hear x es) where
  len := h.len
  ring := by
    intro e he
    obtain ⟨e', he', rfl⟩ := List.mem_map.1 he
    exact h.ring e' he'
  nd := by
    have : ((Pb.hear x es).map fun e => e.ring) = es.map fun e => e.ring := by unfold Pb.hear; rw [List.map_map]; rfl
    rw [this]; exact h.nd
  at_ := by
    intro e he
    obtain ⟨e', he', rfl⟩ := List.mem_map.1 he
    exact h.at_ e' he'
theorem inj_of_nodup {es : List Edge} (h : (es.map fun e => e.ring).Nodup) {a b : Edge} (ha : a ∈ es) (hb : b ∈ es) (he : a.ring = b.ring) : a = b := by
  induction es with
  | nil => cases ha
  | cons x t ih =>
    rw [List.map_cons, List.nodup_cons] at h
    rcases List.mem_cons.1 ha with rfl | ha' <;> rcases List.mem_cons.1 hb with rfl | hb'
    · rfl
    · exact absurd (he ▸ List.mem_map.2 ⟨b, hb', rfl⟩) h.1
    · exact absurd (he ▸ List.mem_map.2 ⟨a, ha', rfl⟩) h.1
    · exact ih h.2 ha' hb'
/-- The alert at a place: its ring, not marked by those before it. -/
theorem RG.alert {R : List Bool} {es : List Edge} (h : RG R es) {num self : Int} {i : Nat} {x : Alr} (hx : (alertsOf num self es)[i]? = some x) :
    0 ≤ x.ring ∧ x.ring < 5 ∧ x.view = num ∧ x.obs = self ∧ (mark R ((alertsOf num self es).take i))[x.ring.toNat]? = some false := by
  obtain ⟨hi, hxi⟩ := List.getElem?_eq_some_iff.1 hx
  have hm : x ∈ alertsOf num self es := by rw [← hxi]; exact List.getElem_mem hi
  unfold alertsOf at hm
  obtain ⟨e, he, rfl⟩ := List.mem_map.1 hm
  obtain ⟨he1, he2⟩ := List.mem_filter.1 he
  have hr := h.ring e he1
  have hrep : e.rep = false := by unfold firesE at he2; simp at he2; exact he2.2
  refine ⟨hr.1, hr.2, rfl, rfl, ?_⟩
  show (mark R ((alertsOf num self es).take i))[e.ring.toNat]? = some false
  rw [mark_get (by rw [h.len]; omega)]
  have h0 := h.at_ e he1
  rw [hrep] at h0
  have h1 : R.getD e.ring.toNat false = false := by simp [List.getD, h0]
  rw [h1, Bool.false_or, Option.some_inj, List.any_eq_false]
  intro y hy
  simp only [decide_eq_true_eq]
  intro hyr
  -- two alerts of one ring
  have hnd : ((alertsOf num self es).map fun a => a.ring).Nodup := by
    unfold alertsOf
    rw [List.map_map]
    exact h.nd.sublist (List.Sublist.map _ List.filter_sublist)
  obtain ⟨j, hj, hyj⟩ := List.mem_iff_getElem.1 hy
  rw [List.length_take] at hj
  rw [List.getElem_take] at hyj
  have hym : y ∈ alertsOf num self es := by rw [← hyj]; exact List.getElem_mem _
  have hyring : y.ring = e.ring := by
    unfold alertsOf at hym
    obtain ⟨e', he', rfl⟩ := List.mem_map.1 hym
    have := h.ring e' (List.mem_filter.1 he').1
    simp only at hyr ⊢
    omega
  have := (List.pairwise_iff_getElem.1 hnd) j i (by rw [List.length_map]; omega) (by rw [List.length_map]; exact hi) (by omega)
  simp only [List.getElem_map] at this
  rw [hyj, hxi] at this
  exact this hyring
theorem RG.tick {R : List Bool} {es : List Edge} (h : RG R es) (num self : Int) : RG (mark R (alertsOf num self es)) (Pb.tick es) where
  len := by rw [mark_len]; exact h.len
  ring := by
    intro e he
    obtain ⟨e', he', rfl⟩ := List.mem_map.1 he
    exact h.ring e' he'
  nd := by
    have : ((Pb.tick es).map fun e => e.ring) = es.map fun e => e.ring := by unfold Pb.tick; rw [List.map_map]; rfl
    rw [this]; exact h.nd
  at_ := by
    intro e he
    obtain ⟨e', he', rfl⟩ := List.mem_map.1 he
    show (mark R (alertsOf num self es))[e'.ring.toNat]? = some (e'.rep || firesE e')
    have hr := h.ring e' he'
    rw [mark_get (by rw [h.len]; omega)]
    have h0 := h.at_ e' he'
    have h1 : R.getD e'.ring.toNat false = e'.rep := by simp [List.getD, h0]
    rw [h1]
    congr 2
    rw [Bool.eq_iff_iff, List.any_eq_true]
    constructor
    · rintro ⟨y, hy, hyr⟩
      simp only [decide_eq_true_eq] at hyr
      unfold alertsOf at hy
      obtain ⟨e2, he2, rfl⟩ := List.mem_map.1 hy
      obtain ⟨h2, h3⟩ := List.mem_filter.1 he2
      have hr2 := h.ring e2 h2
      have : e2 = e' := inj_of_nodup h.nd h2 he' (by simp only at hyr; omega)
      rw [← this]; exact h3
    · intro hf
      exact ⟨⟨num, e'.ring, self, e'.subj⟩, List.mem_map.2 ⟨e', List.mem_filter.2 ⟨he', hf⟩, rfl⟩, by simp⟩
theorem RG.new {K : Int → Int → Nat} {l : List Int} {me : Int} : RG [false, false, false, false, false] (newE K l me) := by
  have hnil : RG [false, false, false, false, false] [] := ⟨rfl, (fun _ h => by cases h), List.nodup_nil, (fun _ h => by cases h)⟩
  unfold newE subL
  split
  · refine ⟨rfl, ?_, ?_, ?_⟩
    · intro e he
      simp [rings, mkE] at he
      rcases he with rfl | rfl | rfl | rfl | rfl <;> simp
    · simp [rings, mkE]
    · intro e he
      simp [rings, mkE] at he
      rcases he with rfl | rfl | rfl | rfl | rfl <;> rfl
  · exact hnil
end Go.Proofs.YtihgbadglaogdaaDoor.Pb
