import Derived.Test.YtipipjbpjpdcbaaDoorOB
import Derived.Test.YtipipjbpjpdcbaaDoorWB
import Derived.BigQuiet
import Derived.Deep.RegionHeld3
/- The failure detector of layer 5, in mathematics. -/
namespace Go.Proofs.YtipipjbpjpdcbaaDoor.Pb
set_option linter.unusedVariables false
open Go.Proofs.YtipipjbpjpdcbaaDoor.V
open Go.Proofs.YtipipjbpjpdcbaaDoor.O

/-- A window is valid. -/
def okWin (b : Nat) (c : Int) : Bool := decide (0 ≤ c) && (decide (c ≤ 10) && decide (b < 2 ^ c.toNat))
/-- The bits behind one more outcome. -/
def recB (b : Nat) (ok : Bool) : Nat := b * 2 % 1024 + (if ok then 0 else 1)
def recW (b : Nat) (c : Int) (ok : Bool) : Nat × Int := if okWin b c then (recB b ok, min (c + 1) 10) else (0, 0)
/-- The ones among the first k bits. -/
def ones (b : Nat) : Nat → Nat
  | 0 => 0
  | k + 1 => ones b k + b / 2 ^ k % 2
def failW (b : Nat) (c : Int) : Bool := okWin b c && (decide (c = 10) && decide (4 ≤ ones b 10))
theorem okWin_iff {b : Nat} {c : Int} : okWin b c = true ↔ 0 ≤ c ∧ c ≤ 10 ∧ b < 2 ^ c.toNat := by unfold okWin; simp
theorem okWin_lt {b : Nat} {c : Int} (h : okWin b c = true) : b < 1024 := by
  obtain ⟨h0, h1, h2⟩ := okWin_iff.1 h
  exact Nat.lt_of_lt_of_le h2 (Nat.le_trans (Nat.pow_le_pow_right (by decide) (show c.toNat ≤ 10 by omega)) (by decide))
theorem recB_lt {b : Nat} {ok : Bool} : recB b ok < 1024 := by unfold recB; cases ok <;> simp <;> omega
theorem recW_ok (b : Nat) (c : Int) (ok : Bool) : okWin (recW b c ok).1 (recW b c ok).2 = true := by
  unfold recW
  split
  · rename_i h
    obtain ⟨h0, h1, h2⟩ := okWin_iff.1 h
    rw [okWin_iff]
    refine ⟨by simp; omega, by simp; omega, ?_⟩
    by_cases hc : c = 10
    · subst hc
      have e : (min ((10 : Int) + 1) 10).toNat = 10 := by decide
      simp only [e]
      exact recB_lt
    · have e : (min (c + 1) 10).toNat = c.toNat + 1 := by omega
      simp only [e]
      have := Nat.mod_le (b * 2) 1024
      unfold recB
      rw [Nat.pow_succ]
      split <;> omega
  · decide
theorem bit_recB {b i : Nat} {ok : Bool} (h : i < 9) : recB b ok / 2 ^ (i + 1) % 2 = b / 2 ^ i % 2 := by
  have e1 : recB b ok / 2 = b % 512 := by unfold recB; cases ok <;> simp <;> omega
  rw [Nat.pow_succ', ← Nat.div_div_eq_div_mul, e1]
  have h1 := Nat.testBit_mod_two_pow b 9 i
  simp only [show (2 : Nat) ^ 9 = 512 from rfl, h, decide_true, Bool.true_and] at h1
  have h2 : ∀ n : Nat, Nat.testBit n i = decide (n / 2 ^ i % 2 = 1) := fun n => by rw [Nat.testBit_eq_decide_div_mod_eq]
  rw [h2, h2, decide_eq_decide] at h1
  omega
theorem ones_recB {b : Nat} {ok : Bool} : ∀ {k : Nat}, k < 10 → ones (recB b ok) (k + 1) = (if ok then 0 else 1) + ones b k
  | 0, _ => by unfold ones ones; unfold recB; cases ok <;> simp <;> omega
  | k + 1, h => by
    rw [show ones (recB b ok) (k + 1 + 1) = ones (recB b ok) (k + 1) + recB b ok / 2 ^ (k + 1) % 2 from rfl, ones_recB (k := k) (by omega), bit_recB (by omega)]
    rw [show ones b (k + 1) = ones b k + b / 2 ^ k % 2 from rfl]
    omega
/-- The failures in a list of outcomes. -/
def bad (l : List Bool) : Nat := l.countP (· == false)
def runW (l : List Bool) : Nat × Int := l.foldl (fun w ok => recW w.1 w.2 ok) (0, 0)
theorem runW_snoc (l : List Bool) (x : Bool) : runW (l ++ [x]) = recW (runW l).1 (runW l).2 x := by unfold runW; rw [List.foldl_append]; rfl
theorem runW_ok (l : List Bool) : okWin (runW l).1 (runW l).2 = true := by
  rcases List.eq_nil_or_concat l with rfl | ⟨t, x, rfl⟩
  · decide
  · rw [List.concat_eq_append, runW_snoc]; exact recW_ok _ _ _
theorem runW_at : ∀ (n : Nat) (l : List Bool), l.length = n → (runW l).2 = min (l.length : Int) 10 ∧ ∀ k, k ≤ 10 → ones (runW l).1 k = bad (l.drop (l.length - k))
  | 0, l, h => by
    rw [List.length_eq_zero_iff] at h
    subst h
    refine ⟨by decide, fun k hk => ?_⟩
    have : ∀ k, ones 0 k = 0 := fun k => by induction k with
      | zero => rfl
      | succ k ih => unfold ones; rw [ih]; simp
    show ones 0 k = _
    rw [this]; simp [bad]
  | n + 1, l, h => by
    rcases List.eq_nil_or_concat l with rfl | ⟨t, x, rfl⟩
    · cases h
    rw [List.concat_eq_append] at *
    have ht : t.length = n := by simpa using h
    obtain ⟨h1, h2⟩ := runW_at n t ht
    have hok := runW_ok t
    rw [runW_snoc]
    unfold recW
    rw [if_pos hok]
    refine ⟨by simp only [h1, List.length_append, List.length_cons, List.length_nil]; omega, fun k hk => ?_⟩
    cases k with
    | zero =>
      rw [List.drop_eq_nil_of_le (by omega)]; rfl
    | succ k =>
      simp only
      rw [ones_recB (by omega), h2 k (by omega)]
      rw [show (t ++ [x]).length - (k + 1) = t.length - k by simp, List.drop_append_of_le_length (by omega)]
      unfold bad
      rw [List.countP_append]
      cases x <;> simp [Nat.add_comm]
/-- What ProbeCounts says of the mathematics. -/
theorem runW_fails (l : List Bool) : failW (runW l).1 (runW l).2 = (decide (10 ≤ l.length) && decide (4 ≤ bad (l.drop (l.length - 10)))) := by
  obtain ⟨h1, h2⟩ := runW_at _ l rfl
  unfold failW
  rw [runW_ok, h2 10 (by omega), h1]
  by_cases h : 10 ≤ l.length
  · have : min (l.length : Int) 10 = 10 := by omega
    simp [h, this]
  · have : ¬ min (l.length : Int) 10 = 10 := by omega
    simp [h, this]
/-- An edge. -/
structure Edge where
  ring : Int
  subj : Int
  heard : Bool
  rep : Bool
  bits : Nat
  cnt : Int
deriving DecidableEq
/-- The edges of a new detector. -/
def mkE : Int → List Int → List Edge
  | _, [] => []
  | r, s :: t => ⟨r, s, false, false, 0, 0⟩ :: mkE (r + 1) t
def newE (K : Int → Int → Nat) (l : List Int) (self : Int) : List Edge := mkE 0 (subL K l self)
/-- The edges have these rings and subjects, and valid windows. -/
def fitE : List Edge → List Edge → Bool
  | [], [] => true
  | n :: ns, x :: xs => (decide (x.ring = n.ring) && (decide (x.subj = n.subj) && okWin x.bits x.cnt)) && fitE ns xs
  | _, _ => false
def okN (num : Int) (l : List Int) (self : Int) : Bool := validV num l && hasB l self
def okD (K : Int → Int → Nat) (num : Int) (l : List Int) (self : Int) (es : List Edge) : Bool := okN num l self && fitE (newE K l self) es
def hearE (x : Int) (e : Edge) : Edge := { e with heard := e.heard || decide (e.subj = x) }
def hear (x : Int) (es : List Edge) : List Edge := es.map (hearE x)
/-- An edge at a tick, and whether it is reported now. -/
def firesE (e : Edge) : Bool := failW (recW e.bits e.cnt e.heard).1 (recW e.bits e.cnt e.heard).2 && !e.rep
def tickE (e : Edge) : Edge := { e with heard := false, rep := e.rep || firesE e, bits := (recW e.bits e.cnt e.heard).1, cnt := (recW e.bits e.cnt e.heard).2 }
def tick (es : List Edge) : List Edge := es.map tickE
/-- An alert: the view's number, the ring, the observer, the subject. -/
structure Alr where
  view : Int
  ring : Int
  obs : Int
  subj : Int
deriving DecidableEq
def alertsOf (num self : Int) (es : List Edge) : List Alr := (es.filter firesE).map fun e => ⟨num, e.ring, self, e.subj⟩
theorem fitE_len : ∀ {n x : List Edge}, fitE n x = true → x.length = n.length
  | [], [], _ => rfl
  | n :: ns, x :: xs, h => by
    unfold fitE at h
    simp only [Bool.and_eq_true] at h
    simp [fitE_len h.2]
  | [], _ :: _, h => by cases h
  | _ :: _, [], h => by cases h
theorem fitE_map {f : Edge → Edge} (hr : ∀ e, (f e).ring = e.ring) (hs : ∀ e, (f e).subj = e.subj) (hw : ∀ e, okWin e.bits e.cnt = true → okWin (f e).bits (f e).cnt = true) :
    ∀ {n x : List Edge}, fitE n x = true → fitE n (x.map f) = true
  | [], [], _ => rfl
  | n :: ns, x :: xs, h => by
    unfold fitE at h
    simp only [Bool.and_eq_true, decide_eq_true_eq] at h
    show ((decide ((f x).ring = n.ring) && (decide ((f x).subj = n.subj) && okWin (f x).bits (f x).cnt)) && fitE ns (xs.map f)) = true
    rw [hr, hs, hw x h.1.2.2, fitE_map hr hs hw h.2]
    simp [h.1.1, h.1.2.1]
  | [], _ :: _, h => by cases h
  | _ :: _, [], h => by cases h
theorem fitE_hear {n x : List Edge} {s : Int} (h : fitE n x = true) : fitE n (hear s x) = true := fitE_map (f := hearE s) (fun _ => rfl) (fun _ => rfl) (fun _ h => h) h
theorem fitE_tick {n x : List Edge} (h : fitE n x = true) : fitE n (tick x) = true := fitE_map (f := tickE) (fun _ => rfl) (fun _ => rfl) (fun e _ => recW_ok _ _ _) h
theorem fitE_self : ∀ {r : Int} {l : List Int}, fitE (mkE r l) (mkE r l) = true
  | _, [] => rfl
  | r, s :: t => by
    show ((decide (r = r) && (decide (s = s) && okWin 0 0)) && fitE (mkE (r + 1) t) (mkE (r + 1) t)) = true
    rw [fitE_self]
    simp; decide
theorem okD_new {K : Int → Int → Nat} {num self : Int} {l : List Int} (h : okN num l self = true) : okD K num l self (newE K l self) = true := by unfold okD newE; rw [h, fitE_self]; rfl
theorem okD_hear {K : Int → Int → Nat} {num self : Int} {l : List Int} {es : List Edge} {s : Int} (h : okD K num l self es = true) : okD K num l self (hear s es) = true := by
  unfold okD at *
  simp only [Bool.and_eq_true] at *
  exact ⟨h.1, fitE_hear h.2⟩
theorem okD_tick {K : Int → Int → Nat} {num self : Int} {l : List Int} {es : List Edge} (h : okD K num l self es = true) : okD K num l self (tick es) = true := by
  unfold okD at *
  simp only [Bool.and_eq_true] at *
  exact ⟨h.1, fitE_tick h.2⟩
end Go.Proofs.YtipipjbpjpdcbaaDoor.Pb

/- Two blocks at a function's door. -/
namespace Go.Proofs.YtipipjbpjpdcbaaDoor.Pb
set_option linter.unusedVariables false
open Go.RowKit
open Go.Proofs.YtipipjbpjpdcbaaDoor.W
open Go.Proofs.YtipipjbpjpdcbaaDoor.V
open Go.Proofs.YtipipjbpjpdcbaaDoor.O

theorem two_blk (w : World) (t t' : TypeId) (x y : Array Value) : Blk ((w.alloc (.cells x t)).alloc (.cells y t')) w.heap.size t x ∧ Blk ((w.alloc (.cells x t)).alloc (.cells y t')) (w.heap.size + 1) t' y := by
  refine ⟨(Blk.new w t x).alloc _, ?_⟩
  have h := Blk.new (w.alloc (.cells x t)) t' y
  rwa [show (w.alloc (.cells x t)).heap.size = w.heap.size + 1 by simp] at h
theorem cells22 {W : World} {g1 g2 : Nat} {t t' : TypeId} {a0 a1 b0 b1 : Value} (h : Blk W g1 t #[a0, a1]) (h' : Blk W g2 t' #[b0, b1]) :
    W.cell? ⟨g1, 0, none⟩ = some a0 ∧ W.cell? ⟨g1, 1, none⟩ = some a1 ∧ W.cell? ⟨g2, 0, none⟩ = some b0 ∧ W.cell? ⟨g2, 1, none⟩ = some b1 ∧ W.frozen? ⟨g2, 0, none⟩ = false ∧ W.frozen? ⟨g2, 1, none⟩ = false :=
  ⟨h.cell 0, h.cell 1, h'.cell 0, h'.cell 1, h'.frozen 0, h'.frozen 1⟩
theorem cells24 {W : World} {g1 g2 : Nat} {t t' : TypeId} {a0 a1 b0 b1 b2 b3 : Value} (h : Blk W g1 t #[a0, a1]) (h' : Blk W g2 t' #[b0, b1, b2, b3]) :
    W.cell? ⟨g1, 0, none⟩ = some a0 ∧ W.cell? ⟨g1, 1, none⟩ = some a1 ∧ W.cell? ⟨g2, 0, none⟩ = some b0 ∧ W.cell? ⟨g2, 1, none⟩ = some b1 ∧ W.cell? ⟨g2, 2, none⟩ = some b2 ∧ W.cell? ⟨g2, 3, none⟩ = some b3 ∧
      W.frozen? ⟨g2, 0, none⟩ = false ∧ W.frozen? ⟨g2, 1, none⟩ = false ∧ W.frozen? ⟨g2, 2, none⟩ = false ∧ W.frozen? ⟨g2, 3, none⟩ = false :=
  ⟨h.cell 0, h.cell 1, h'.cell 0, h'.cell 1, h'.cell 2, h'.cell 3, h'.frozen 0, h'.frozen 1, h'.frozen 2, h'.frozen 3⟩
theorem below_setV {B : Nat} {a w : World} (h : Below B a w) {p : Addr} (hp : B ≤ p.block) (u : Value) : Below B a (w.setCell p u) := h.setCell hp u
theorem own_setV {B : Nat} {w : World} {e : TypeId} {size : Nat} {v : Value} {n : Nat} {xs : List Value} (h : w.ownsRow B e size v n xs) {p : Addr} (hp : p.block < B) (u : Value) : (w.setCell p u).ownsRow B e size v n xs :=
  ownsRow_setCell_below h hp u
/-- A window as the program holds it. -/
def winV (b : Nat) (c : Int) : Value := .agg #[.int .u32 (b : Int), .int .i64 c]
/-- A window comes back. -/
def OutW (w : World) (x : Nat × Int) (e : Ending) (w' : World) : Prop := e = .returned (winV x.1 x.2) ∧ Below w.heap.size w w'
theorem OutW.to {w : World} {x : Nat × Int} {e : Ending} {w' : World} (h : OutW w x e w') (b : Nat) (c : Int) (hx : x = (b, c)) : e = .returned (winV b c) ∧ Below w.heap.size w w' := by subst hx; exact h
theorem pow_in {k : Nat} (h : k ≤ 10) : (2 : Int) ^ k % 4294967296 = ((2 ^ k : Nat) : Int) :=
  (by decide : ∀ k : Fin 11, (2 : Int) ^ k.val % 4294967296 = ((2 ^ k.val : Nat) : Int)) ⟨k, by omega⟩
end Go.Proofs.YtipipjbpjpdcbaaDoor.Pb

/- Rows of edges and of alerts. -/
namespace Go.Proofs.YtipipjbpjpdcbaaDoor.Pb
set_option linter.unusedVariables false
open Go.RowKit
open Go.Proofs.YtipipjbpjpdcbaaDoor.W
open Go.Proofs.YtipipjbpjpdcbaaDoor.V
open Go.Proofs.YtipipjbpjpdcbaaDoor.O

/-- An edge, cell by cell. -/
def edgeC (e : Edge) : List Value := [.int .i64 e.ring, .int .i64 e.subj, .bool e.heard, .bool e.rep, .int .u32 (e.bits : Int), .int .i64 e.cnt]
def edgesC (es : List Edge) : List Value := es.flatMap edgeC
def alrC (a : Alr) : List Value := [.int .i64 a.view, .int .i64 a.ring, .int .i64 a.obs, .int .i64 a.subj]
def alrsC (as_ : List Alr) : List Value := as_.flatMap alrC
theorem len_edgesC (es : List Edge) : (edgesC es).length = es.length * 6 := by
  induction es with
  | nil => rfl
  | cons e t ih => show (edgeC e ++ edgesC t).length = _; rw [List.length_append, ih]; simp [edgeC]; omega
theorem len_alrsC (es : List Alr) : (alrsC es).length = es.length * 4 := by
  induction es with
  | nil => rfl
  | cons e t ih => show (alrC e ++ alrsC t).length = _; rw [List.length_append, ih]; simp [alrC]; omega
theorem edgesC_app (a b : List Edge) : edgesC (a ++ b) = edgesC a ++ edgesC b := by unfold edgesC; rw [List.flatMap_append]
theorem alrsC_app (a b : List Alr) : alrsC (a ++ b) = alrsC a ++ alrsC b := by unfold alrsC; rw [List.flatMap_append]
theorem edgesC_one (e : Edge) : edgesC [e] = edgeC e := by unfold edgesC; simp
theorem alrsC_one (e : Alr) : alrsC [e] = alrC e := by unfold alrsC; simp
theorem edgesC_get {es : List Edge} {k j : Nat} {e : Edge} (h : es[k]? = some e) (hj : j < 6) : (edgesC es)[k * 6 + j]? = (edgeC e)[j]? := by
  induction es generalizing k with
  | nil => cases h
  | cons x t ih =>
    show (edgeC x ++ edgesC t)[k * 6 + j]? = _
    cases k with
    | zero =>
      simp at h
      subst h
      rw [List.getElem?_append_left (by simp [edgeC]; omega)]
      simp
    | succ k =>
      rw [List.getElem?_append_right (by simp [edgeC]; omega)]
      rw [show (k + 1) * 6 + j - (edgeC x).length = k * 6 + j by simp [edgeC]; omega]
      exact ih (by simpa using h)
theorem alrsC_get {es : List Alr} {k j : Nat} {e : Alr} (h : es[k]? = some e) (hj : j < 4) : (alrsC es)[k * 4 + j]? = (alrC e)[j]? := by
  induction es generalizing k with
  | nil => cases h
  | cons x t ih =>
    show (alrC x ++ alrsC t)[k * 4 + j]? = _
    cases k with
    | zero =>
      simp at h
      subst h
      rw [List.getElem?_append_left (by simp [alrC]; omega)]
      simp
    | succ k =>
      rw [List.getElem?_append_right (by simp [alrC]; omega)]
      rw [show (k + 1) * 4 + j - (alrC x).length = k * 4 + j by simp [alrC]; omega]
      exact ih (by simpa using h)
theorem edgesC_cell (es : List Edge) : ∀ u ∈ edgesC es, u.oneCell' = true := by
  intro u hu
  obtain ⟨e, _, he⟩ := List.mem_flatMap.1 hu
  unfold edgeC at he
  simp at he
  rcases he with rfl | rfl | rfl | rfl | rfl | rfl <;> rfl
theorem alrsC_cell (es : List Alr) : ∀ u ∈ alrsC es, u.oneCell' = true := by
  intro u hu
  obtain ⟨e, _, he⟩ := List.mem_flatMap.1 hu
  unfold alrC at he
  simp at he
  rcases he with rfl | rfl | rfl | rfl <;> rfl
theorem alrInfo : (Tryd.prog.info? 48).map (fun i => (i.zero, i.size, i.bytes)) = some (some (.agg #[.int .i64 0, .int .i64 0, .int .i64 0, .int .i64 0]), 4, 32) := by kernel_rfl
theorem step_append_alr {ops : Array Oper} {o : Oper} {a : Act} {K : Act → World → Prop} {Q : Exit → Act → World → Prop} {E : Prop} (W : World) (hgd : o.guard = none) (s x : Operand)
    (ho : o.op = .call { callee := .builtin .append, args := #[s, x], argTypes := #[25, 25] }) (base : Nat) (v : Value) (es : List Alr) (e : Alr) (B c : Nat) (A : Option Addr) (hs : a.eval s = v)
    (hown : W.ownsRow base 48 4 v es.length (alrsC es)) (hx : a.eval x = .slice A 1 c) (hr : Reads W B 4 A 1 (alrC e))
    (hl : es.length ≤ 1099511627776) (hbase : base ≤ W.heap.size)
    (h : ∀ v' w', w'.ownsRow base 48 4 v' (es ++ [e]).length (alrsC (es ++ [e])) → Below base W w' → K (a.put o.dst v') w') :
    if Region.wanted o (yielded ops a.tmps) = true then Oper.wp Tryd.prog o a W K Q else E := by
  obtain ⟨i0, hi, hz0, hz1, hz2⟩ := info_parts alrInfo
  refine step_append_any W hgd s x 25 ho base 48 i0 _ 4 32 Tryd.underlying25 hi hz0 hz1 hz2 rfl (by decide) v _ _ hs hown B A 1 c _ hx hr (by rw [← alrsC_one]; exact alrsC_cell _) ?_ ?_ hbase ?_
  · unfold maxLen; omega
  · omega
  · intro v' w' h1 h2 _
    refine h v' w' ?_ ((Below.refl _ _).grown h2 hbase fun q hq => (hown.lt q hq).1)
    rw [alrsC_app, alrsC_one, List.length_append]
    exact h1
/-- A block read as a row of one element. -/
theorem reads_blk (w : World) (cs : Array Value) (t : TypeId) : Reads (w.alloc (.cells cs t)) (w.heap.size + 1) cs.size (some ⟨w.heap.size, 0, none⟩) 1 cs.toList := by
  refine ⟨by simp, fun _ => ⟨_, rfl, Nat.lt_succ_self _, fun j u hu => ?_⟩⟩
  have hb := (Blk.new w t cs).cell j
  have hadd : (⟨w.heap.size, 0, none⟩ : Addr).add j = ⟨w.heap.size, j, none⟩ := by unfold Addr.add; split <;> simp_all
  rw [hadd, hb, ← hu]
  simp
end Go.Proofs.YtipipjbpjpdcbaaDoor.Pb

/- Sets of alerts of layer 6, in mathematics. -/
namespace Go.Proofs.YtipipjbpjpdcbaaDoor.Al
set_option linter.unusedVariables false
open Go.Proofs.YtipipjbpjpdcbaaDoor.V
open Go.Proofs.YtipipjbpjpdcbaaDoor.O
open Go.Proofs.YtipipjbpjpdcbaaDoor.Pb (Alr)

/-- The view is valid, and the alert's observer observes its subject on its ring. -/
def okA (K : Int → Int → Nat) (num : Int) (l : List Int) (a : Alr) : Bool :=
  validV num l && (decide (a.view = num) && (decide (0 ≤ a.ring) && (decide (a.ring < 5) && decide ((obsL K l a.subj)[a.ring.toNat]? = some a.obs))))
def lessA (a b : Alr) : Bool := decide (a.subj < b.subj) || (decide (a.subj = b.subj) && decide (a.ring < b.ring))
def riseA : List Alr → Bool
  | a :: b :: t => lessA a b && riseA (b :: t)
  | _ => true
def okS (K : Int → Int → Nat) (num : Int) (l : List Int) (s : List Alr) : Bool := validV num l && (s.all (okA K num l) && riseA s)
def hasA (s : List Alr) (subj ring : Int) : Bool := s.any fun x => decide (x.subj = subj) && decide (x.ring = ring)
def putF (a : Alr) : List Alr → List Alr
  | [] => [a]
  | x :: t => if lessA a x then a :: x :: t else x :: putF a t
def putA (s : List Alr) (a : Alr) : List Alr := if hasA s a.subj a.ring then s else putF a s
def inA (a : Alr) : Bool := decide (0 ≤ a.ring) && (decide (a.ring < 5) && (isID a.obs && isID a.subj))
/-- The number of the error that Add gives, 0 for none. -/
def addE (K : Int → Int → Nat) (num : Int) (l : List Int) (s : List Alr) (a : Alr) : Nat :=
  if !(okS K num l s && inA a) then 1 else if a.view ≠ num then 8 else if !(okA K num l a) then 6 else 0
def mergeA (a b : List Alr) : List Alr := b.foldl putA a
def cntA (s : List Alr) (subj : Int) : Nat := s.countP fun x => decide (x.subj = subj)
def subStep (out : List Int) (x : Alr) : List Int := if hasB out x.subj then out else ins x.subj out
def subsA (s : List Alr) : List Int := s.foldl subStep []
theorem lessA_iff {a b : Alr} : lessA a b = true ↔ a.subj < b.subj ∨ (a.subj = b.subj ∧ a.ring < b.ring) := by unfold lessA; simp
theorem lessA_trans {a b c : Alr} (h1 : lessA a b = true) (h2 : lessA b c = true) : lessA a c = true := by rw [lessA_iff] at *; omega
theorem lessA_irr {a : Alr} : lessA a a = false := by rw [← Bool.not_eq_true, lessA_iff]; omega
theorem lessA_asym {a b : Alr} (h : lessA a b = true) : lessA b a = false := by rw [← Bool.not_eq_true]; rw [lessA_iff] at *; omega
theorem lessA_total {a b : Alr} (h1 : lessA a b = false) (h2 : lessA b a = false) : a.subj = b.subj ∧ a.ring = b.ring := by
  rw [← Bool.not_eq_true, lessA_iff] at h1 h2; omega
/-- Strictly ascending by subject and ring. -/
def AscA (s : List Alr) : Prop := s.Pairwise fun a b => lessA a b = true
theorem riseA_iff : ∀ {s : List Alr}, riseA s = true ↔ AscA s
  | [] => by simp [riseA, AscA]
  | [a] => by simp [riseA, AscA]
  | a :: b :: t => by
    have ih := riseA_iff (s := b :: t)
    unfold AscA at *
    rw [show riseA (a :: b :: t) = (lessA a b && riseA (b :: t)) from rfl, Bool.and_eq_true, ih]
    constructor
    · rintro ⟨h1, h2⟩
      refine List.pairwise_cons.2 ⟨fun x hx => ?_, h2⟩
      rcases List.mem_cons.1 hx with rfl | hx
      · exact h1
      · exact lessA_trans h1 ((List.pairwise_cons.1 h2).1 x hx)
    · intro h
      obtain ⟨h1, h2⟩ := List.pairwise_cons.1 h
      exact ⟨h1 b (by simp), h2⟩
theorem okA_iff {K : Int → Int → Nat} {num : Int} {l : List Int} {a : Alr} : okA K num l a = true ↔ validV num l = true ∧ a.view = num ∧ 0 ≤ a.ring ∧ a.ring < 5 ∧ (obsL K l a.subj)[a.ring.toNat]? = some a.obs := by unfold okA; simp
theorem okS_iff {K : Int → Int → Nat} {num : Int} {l : List Int} {s : List Alr} : okS K num l s = true ↔ validV num l = true ∧ (∀ a ∈ s, okA K num l a = true) ∧ AscA s := by unfold okS; simp [riseA_iff]
theorem okA_ext {K : Int → Int → Nat} {num : Int} {l : List Int} {a b : Alr} (ha : okA K num l a = true) (hb : okA K num l b = true) (hs : a.subj = b.subj) (hr : a.ring = b.ring) : a = b := by
  obtain ⟨_, h1, _, _, h2⟩ := okA_iff.1 ha
  obtain ⟨_, g1, _, _, g2⟩ := okA_iff.1 hb
  rw [hs, hr, g2] at h2
  obtain ⟨av, ar, ao, as'⟩ := a
  obtain ⟨bv, br, bo, bs'⟩ := b
  simp at *
  exact ⟨by omega, hr, by omega, hs⟩
theorem AscA.ext : ∀ {a b : List Alr}, AscA a → AscA b → (∀ x, x ∈ a ↔ x ∈ b) → a = b
  | [], [], _, _, _ => rfl
  | [], y :: b, _, _, h => by have := (h y).2 (by simp); simp at this
  | x :: a, [], _, _, h => by have := (h x).1 (by simp); simp at this
  | x :: a, y :: b, ha, hb, h => by
    unfold AscA at ha hb
    rw [List.pairwise_cons] at ha hb
    have hxy : x = y := by
      rcases List.mem_cons.1 ((h x).1 (by simp)) with e | hx
      · exact e
      · rcases List.mem_cons.1 ((h y).2 (by simp)) with e | hy
        · exact e.symm
        · have h1 := hb.1 x hx
          have h2 := ha.1 y hy
          rw [lessA_asym h1] at h2; cases h2
    subst hxy
    have hab : a = b := AscA.ext ha.2 hb.2 fun z => by
      constructor
      · intro hz
        rcases List.mem_cons.1 ((h z).1 (by simp [hz])) with e | hz2
        · subst e; have := ha.1 z hz; rw [lessA_irr] at this; cases this
        · exact hz2
      · intro hz
        rcases List.mem_cons.1 ((h z).2 (by simp [hz])) with e | hz2
        · subst e; have := hb.1 z hz; rw [lessA_irr] at this; cases this
        · exact hz2
    rw [hab]
theorem mem_putF {a x : Alr} : ∀ {s : List Alr}, x ∈ putF a s ↔ x = a ∨ x ∈ s
  | [] => by simp [putF]
  | y :: t => by
    unfold putF
    split
    · rw [List.mem_cons]
    · rw [List.mem_cons, mem_putF (s := t), List.mem_cons]
      constructor
      · rintro (h | h | h)
        · exact .inr (.inl h)
        · exact .inl h
        · exact .inr (.inr h)
      · rintro (h | h | h)
        · exact .inr (.inl h)
        · exact .inl h
        · exact .inr (.inr h)
theorem len_putF {a : Alr} : ∀ {s : List Alr}, (putF a s).length = s.length + 1
  | [] => rfl
  | y :: t => by
    unfold putF
    split
    · rfl
    · rw [List.length_cons, len_putF (s := t), List.length_cons]
theorem AscA.putF {a : Alr} : ∀ {s : List Alr}, AscA s → (∀ x ∈ s, ¬ (x.subj = a.subj ∧ x.ring = a.ring)) → AscA (Al.putF a s)
  | [], _, _ => by unfold Al.putF AscA; simp
  | y :: t, h, hn => by
    unfold AscA at h ⊢
    rw [List.pairwise_cons] at h
    unfold Al.putF
    cases hl : lessA a y
    · simp only [Bool.false_eq_true, if_false]
      rw [List.pairwise_cons]
      have hya : lessA y a = true := by
        cases hy : lessA y a
        · have := lessA_total hl hy
          exact absurd ⟨this.1.symm, this.2.symm⟩ (hn y (by simp))
        · rfl
      refine ⟨fun z hz => ?_, AscA.putF h.2 fun x hx => hn x (by simp [hx])⟩
      rcases mem_putF.1 hz with rfl | hz
      · exact hya
      · exact h.1 z hz
    · simp only [if_true]
      rw [List.pairwise_cons, List.pairwise_cons]
      refine ⟨fun z hz => ?_, h⟩
      rcases List.mem_cons.1 hz with rfl | hz
      · exact hl
      · exact lessA_trans hl (h.1 z hz)
theorem hasA_iff {s : List Alr} {subj ring : Int} : hasA s subj ring = true ↔ ∃ x ∈ s, x.subj = subj ∧ x.ring = ring := by unfold hasA; simp
theorem putA_len {s : List Alr} {a : Alr} : s.length ≤ (putA s a).length ∧ (putA s a).length ≤ s.length + 1 := by
  unfold putA
  split
  · omega
  · rw [len_putF]; omega
section
variable {K : Int → Int → Nat} {num : Int} {l : List Int}
theorem okS_nil (hv : validV num l = true) : okS K num l [] = true := okS_iff.2 ⟨hv, fun a h => (by cases h), by unfold AscA; simp⟩
theorem okS_put {s : List Alr} {a : Alr} (hs : okS K num l s = true) (ha : okA K num l a = true) : okS K num l (putA s a) = true ∧ ∀ x, x ∈ putA s a ↔ x ∈ s ∨ x = a := by
  obtain ⟨hv, h1, h2⟩ := okS_iff.1 hs
  unfold putA
  cases hh : hasA s a.subj a.ring
  · simp only [Bool.false_eq_true, if_false]
    have hn : ∀ x ∈ s, ¬ (x.subj = a.subj ∧ x.ring = a.ring) := fun x hx e => by
      have := hasA_iff.2 ⟨x, hx, e⟩
      rw [hh] at this; cases this
    refine ⟨okS_iff.2 ⟨hv, fun x hx => ?_, h2.putF hn⟩, fun x => by rw [mem_putF, or_comm]⟩
    rcases mem_putF.1 hx with rfl | hx
    · exact ha
    · exact h1 x hx
  · simp only [if_true]
    refine ⟨hs, fun x => ⟨.inl, ?_⟩⟩
    rintro (h | rfl)
    · exact h
    · obtain ⟨y, hy, e1, e2⟩ := hasA_iff.1 hh
      rw [← okA_ext (h1 y hy) ha e1 e2]; exact hy
theorem okS_merge : ∀ {b a : List Alr}, okS K num l a = true → (∀ x ∈ b, okA K num l x = true) → okS K num l (mergeA a b) = true ∧ ∀ x, x ∈ mergeA a b ↔ x ∈ a ∨ x ∈ b
  | [], a, ha, _ => ⟨ha, fun x => by simp [mergeA]⟩
  | y :: t, a, ha, hb => by
    obtain ⟨h1, h2⟩ := okS_put ha (hb y (by simp))
    obtain ⟨h3, h4⟩ := okS_merge (b := t) h1 fun x hx => hb x (by simp [hx])
    refine ⟨h3, fun x => ?_⟩
    show x ∈ mergeA (putA a y) t ↔ _
    rw [h4, h2, List.mem_cons, or_assoc]
theorem merge_len : ∀ {b a : List Alr}, a.length ≤ (mergeA a b).length ∧ (mergeA a b).length ≤ a.length + b.length
  | [], a => by simp [mergeA]
  | y :: t, a => by
    have h1 := merge_len (b := t) (a := putA a y)
    have h2 := putA_len (s := a) (a := y)
    show a.length ≤ (mergeA (putA a y) t).length ∧ (mergeA (putA a y) t).length ≤ _
    simp only [List.length_cons]
    omega
theorem okS_ext {a b : List Alr} (ha : okS K num l a = true) (hb : okS K num l b = true) (h : ∀ x, x ∈ a ↔ x ∈ b) : a = b := (okS_iff.1 ha).2.2.ext (okS_iff.1 hb).2.2 h
/-- What AlertsUnion says of the mathematics. -/
theorem merge_comm {a b : List Alr} (ha : okS K num l a = true) (hb : okS K num l b = true) : mergeA a b = mergeA b a := by
  have h1 := okS_merge ha (okS_iff.1 hb).2.1
  have h2 := okS_merge hb (okS_iff.1 ha).2.1
  exact okS_ext h1.1 h2.1 fun x => by rw [h1.2, h2.2, or_comm]
theorem merge_assoc {a b c : List Alr} (ha : okS K num l a = true) (hb : okS K num l b = true) (hc : okS K num l c = true) : mergeA (mergeA a b) c = mergeA a (mergeA b c) := by
  have h1 := okS_merge ha (okS_iff.1 hb).2.1
  have h2 := okS_merge hb (okS_iff.1 hc).2.1
  have h3 := okS_merge h1.1 (okS_iff.1 hc).2.1
  have h4 := okS_merge ha (okS_iff.1 h2.1).2.1
  exact okS_ext h3.1 h4.1 fun x => by rw [h3.2, h1.2, h4.2, h2.2, or_assoc]
theorem merge_idem {a : List Alr} (ha : okS K num l a = true) : mergeA a a = a := by
  have h1 := okS_merge ha (okS_iff.1 ha).2.1
  exact okS_ext h1.1 ha fun x => by rw [h1.2, or_self]
/-- What AlertsOrder says: what is gathered depends on the members alone. -/
theorem gather_eq {p q : List Alr} (hv : validV num l = true) (hp : ∀ x ∈ p, okA K num l x = true) (h : ∀ x, x ∈ p ↔ x ∈ q) : mergeA [] p = mergeA [] q := by
  have h1 := okS_merge (okS_nil hv) hp
  have h2 := okS_merge (okS_nil (K := K) hv) (b := q) fun x hx => hp x ((h x).2 hx)
  exact okS_ext h1.1 h2.1 fun x => by rw [h1.2, h2.2, h]
/-- A valid alert lies in the ranges. -/
theorem okA_in {a : Alr} (ha : okA K num l a = true) (hi : Inj K) : inA a = true := by
  obtain ⟨hv, _, h1, h2, h3⟩ := okA_iff.1 ha
  have hvm := (validV_iff.1 hv).2.2
  have hob : obsL K l a.subj ≠ [] := fun e => by rw [e] at h3; simp at h3
  have hs : isID a.subj = true := by
    unfold obsL at hob
    split at hob
    · rename_i hc
      simp only [Bool.and_eq_true] at hc
      exact hc.1.2
    · exact absurd rfl hob
  have hm : a.obs ∈ obsL K l a.subj := List.mem_of_getElem? h3
  have ho : a.obs ∈ l := by
    unfold obsL at hm
    split at hm
    · obtain ⟨r, _, e⟩ := List.mem_map.1 hm
      rw [← e]; exact ahead_mem hi hvm r _
    · cases hm
  unfold inA
  rw [decide_eq_true h1, decide_eq_true h2, hs, isID_mem hvm ho]; rfl
theorem addE_ok {s : List Alr} {a : Alr} (hs : okS K num l s = true) (ha : okA K num l a = true) (hi : Inj K) : addE K num l s a = 0 := by
  unfold addE
  rw [hs, okA_in ha hi, ha]
  simp [(okA_iff.1 ha).2.1]
end

/-! ### counts and subjects -/
theorem subs_facts : ∀ {s : List Alr} {out : List Int}, Asc out → Asc (s.foldl subStep out) ∧ ∀ x, x ∈ s.foldl subStep out ↔ x ∈ out ∨ ∃ a ∈ s, a.subj = x
  | [], out, h => ⟨h, fun x => by simp⟩
  | y :: t, out, h => by
    have hst : Asc (subStep out y) ∧ ∀ x, x ∈ subStep out y ↔ x ∈ out ∨ y.subj = x := by
      unfold subStep
      by_cases h2 : y.subj ∈ out
      · rw [hasB_iff.2 h2]
        simp only [if_true]
        refine ⟨h, fun x => ⟨.inl, ?_⟩⟩
        rintro (h | rfl)
        · exact h
        · exact h2
      · have e2 : hasB out y.subj = false := by rw [hasB_mem]; simpa using h2
        rw [e2]
        simp only [Bool.false_eq_true, if_false]
        refine ⟨h.ins h2, fun x => ?_⟩
        rw [mem_ins, or_comm]
        constructor
        · rintro (h | h)
          · exact .inl h
          · exact .inr h.symm
        · rintro (h | h)
          · exact .inl h
          · exact .inr h.symm
    have ih := subs_facts (s := t) hst.1
    refine ⟨ih.1, fun x => ?_⟩
    rw [List.foldl_cons, ih.2, hst.2, or_assoc]
    constructor
    · rintro (h | h | ⟨a, ha, e⟩)
      · exact .inl h
      · exact .inr ⟨y, by simp, h⟩
      · exact .inr ⟨a, by simp [ha], e⟩
    · rintro (h | ⟨a, ha, e⟩)
      · exact .inl h
      · rcases List.mem_cons.1 ha with rfl | ha
        · exact .inr (.inl e)
        · exact .inr (.inr ⟨a, ha, e⟩)
theorem asc_subsA (s : List Alr) : Asc (subsA s) := (subs_facts (by unfold Asc; simp)).1
theorem mem_subsA {s : List Alr} {x : Int} : x ∈ subsA s ↔ ∃ a ∈ s, a.subj = x := by unfold subsA; rw [(subs_facts (by unfold Asc; simp)).2]; simp
theorem sum_cnt : ∀ {s : List Alr} {xs : List Int}, xs.Nodup → (∀ a ∈ s, a.subj ∈ xs) → (xs.map (cntA s)).sum = s.length
  | [], xs, _, _ => by
    have : ∀ ys : List Int, (ys.map (cntA [])).sum = 0 := fun ys => by
      induction ys with
      | nil => rfl
      | cons y ys ih => rw [List.map_cons, List.sum_cons, ih]; rfl
    exact this xs
  | a :: t, xs, hn, h => by
    have ih := sum_cnt (s := t) hn fun b hb => h b (by simp [hb])
    have e : xs.map (cntA (a :: t)) = xs.map fun x => ind (a.subj = x) + cntA t x := List.map_congr_left fun x _ => by
      unfold cntA ind
      rw [List.countP_cons]
      by_cases hx : a.subj = x <;> simp [hx, Nat.add_comm]
    have hsum : ∀ ys : List Int, (ys.map fun x => ind (a.subj = x) + cntA t x).sum = (ys.map fun x => ind (a.subj = x)).sum + (ys.map (cntA t)).sum := fun ys => by
      induction ys with
      | nil => rfl
      | cons y ys ih => simp only [List.map_cons, List.sum_cons, ih]; omega
    rw [e, hsum, ih, sum_one (p := fun x => a.subj = x) hn (h a (by simp)) rfl fun y _ e => e.symm, List.length_cons]
    omega
theorem cnt_pos {s : List Alr} {x : Int} (h : x ∈ subsA s) : 1 ≤ cntA s x := by
  obtain ⟨a, ha, e⟩ := mem_subsA.1 h
  exact List.countP_pos_iff.2 ⟨a, ha, by simpa using e⟩
theorem cnt_le {K : Int → Int → Nat} {num : Int} {l : List Int} {s : List Alr} (hs : okS K num l s = true) (x : Int) : cntA s x ≤ 5 := by
  obtain ⟨_, h1, h2⟩ := okS_iff.1 hs
  unfold cntA
  rw [List.countP_eq_length_filter]
  have hp : ((s.filter fun y => decide (y.subj = x)).map fun y => y.ring).Nodup := by
    unfold AscA at h2
    have h3 := h2.filter (fun y => decide (y.subj = x))
    rw [List.nodup_iff_pairwise_ne, List.pairwise_map]
    refine List.Pairwise.imp_of_mem ?_ h3
    intro a b ha hb hl e
    have ea := (List.mem_filter.1 ha).2
    have eb := (List.mem_filter.1 hb).2
    simp at ea eb
    rw [lessA_iff] at hl
    omega
  have := sub_len (b := rings) hp fun r hr => by
    obtain ⟨a, ha, rfl⟩ := List.mem_map.1 hr
    have := okA_iff.1 (h1 a (List.mem_filter.1 ha).1)
    rw [mem_rings]; omega
  rw [List.length_map] at this
  simpa [rings] using this
/-- What AlertsCount says of the mathematics. -/
theorem count_sum {s : List Alr} : ((subsA s).map (cntA s)).sum = s.length := sum_cnt (Asc.nodup (asc_subsA s)) fun a ha => mem_subsA.2 ⟨a, ha, rfl⟩
end Go.Proofs.YtipipjbpjpdcbaaDoor.Al

/- The encoding of sets of alerts, in mathematics. -/
namespace Go.Proofs.YtipipjbpjpdcbaaDoor.Al
set_option linter.unusedVariables false
open Go.Proofs.YtipipjbpjpdcbaaDoor.W
open Go.Proofs.YtipipjbpjpdcbaaDoor.V
open Go.Proofs.YtipipjbpjpdcbaaDoor.O
open Go.Proofs.YtipipjbpjpdcbaaDoor.Pb (Alr)

def enA (a : Alr) : List UInt8 := enU a.subj.toNat ++ enU a.ring.toNat
def enSet (s : List Alr) : List UInt8 := enU s.length ++ s.flatMap enA
/-- What is decoded of k alerts, behind those that are there. -/
def rdItems (K : Int → Int → Nat) (num : Int) (l : List Int) : Nat → List Alr → Nat → List UInt8 → List Alr × Nat × Nat
  | 0, out, at_, _ => (out, at_, 0)
  | k + 1, out, at_, r =>
    if (rdU r).2.2 ≠ 0 then ([], 0, (rdU r).2.2)
    else if (rdU (r.drop (rdU r).2.1)).2.2 ≠ 0 then ([], 0, (rdU (r.drop (rdU r).2.1)).2.2)
    else if 1000 < (rdU r).1 ∨ 5 ≤ (rdU (r.drop (rdU r).2.1)).1 then ([], 0, 3)
    else match (obsL K l ((rdU r).1 : Int))[(rdU (r.drop (rdU r).2.1)).1]? with
      | none => ([], 0, 3)
      | some o =>
        if (match out.getLast? with | none => false | some p => !(lessA p ⟨num, ((rdU (r.drop (rdU r).2.1)).1 : Int), o, ((rdU r).1 : Int)⟩)) then ([], 0, 3)
        else rdItems K num l k (out ++ [⟨num, ((rdU (r.drop (rdU r).2.1)).1 : Int), o, ((rdU r).1 : Int)⟩]) (at_ + (rdU r).2.1 + (rdU (r.drop (rdU r).2.1)).2.1) ((r.drop (rdU r).2.1).drop (rdU (r.drop (rdU r).2.1)).2.1)
def rdSet (K : Int → Int → Nat) (num : Int) (l : List Int) (b : List UInt8) : List Alr × Nat × Nat :=
  if !(validV num l) then ([], 0, 1)
  else if (rdU b).2.2 ≠ 0 then ([], 0, (rdU b).2.2)
  else if 5000 < (rdU b).1 then ([], 0, 5)
  else rdItems K num l (rdU b).1 [] (rdU b).2.1 (b.drop (rdU b).2.1)
section
variable {K : Int → Int → Nat} {num : Int} {l : List Int}
theorem okA_small {a : Alr} (ha : okA K num l a = true) (hi : Inj K) : 1 ≤ a.subj ∧ a.subj ≤ 1000 ∧ 0 ≤ a.ring ∧ a.ring < 5 := by
  have := okA_in ha hi
  unfold inA at this
  simp only [Bool.and_eq_true, decide_eq_true_eq] at this
  have := isID_iff.1 this.2.2.2
  obtain ⟨_, _, h1, h2, _⟩ := okA_iff.1 ha
  omega
/-- One alert's bytes ahead of others. -/
theorem rdItems_step {a : Alr} {k at_ : Nat} {out : List Alr} {r : List UInt8} (ha : okA K num l a = true) (hi : Inj K) (hl : ∀ p, out.getLast? = some p → lessA p a = true) :
    rdItems K num l (k + 1) out at_ (enA a ++ r) = rdItems K num l k (out ++ [a]) (at_ + (enA a).length) r := by
  obtain ⟨s1, s2, r1, r2⟩ := okA_small ha hi
  obtain ⟨_, hv, _, _, ho⟩ := okA_iff.1 ha
  have e1 : rdU (enA a ++ r) = (a.subj.toNat, (enU a.subj.toNat).length, 0) := by unfold enA; rw [List.append_assoc]; exact rdU_back (by omega) _
  have d1 : (enA a ++ r).drop (enU a.subj.toNat).length = enU a.ring.toNat ++ r := by unfold enA; rw [List.append_assoc, List.drop_left]
  have e2 : rdU (enU a.ring.toNat ++ r) = (a.ring.toNat, (enU a.ring.toNat).length, 0) := rdU_back (by omega) _
  have d2 : (enU a.ring.toNat ++ r).drop (enU a.ring.toNat).length = r := List.drop_left
  have hs : ((a.subj.toNat : Nat) : Int) = a.subj := by omega
  have hr : ((a.ring.toNat : Nat) : Int) = a.ring := by omega
  have ha' : (⟨num, a.ring, a.obs, a.subj⟩ : Alr) = a := by rw [← hv]
  conv => lhs; unfold rdItems
  simp only [e1, d1, e2, d2, hs, hr, ho, ha']
  rw [if_neg (by simp), if_neg (by simp), if_neg (by omega)]
  have hlast : (match out.getLast? with | none => false | some p => !(lessA p a)) = false := by
    cases h : out.getLast? with
    | none => rfl
    | some p => simp [hl p h]
  rw [hlast]
  simp only [Bool.false_eq_true, if_false]
  rw [show at_ + (enU a.subj.toNat).length + (enU a.ring.toNat).length = at_ + (enA a).length by unfold enA; rw [List.length_append]; omega]
theorem asc_last {out : List Alr} {a : Alr} {t : List Alr} (h : AscA (out ++ a :: t)) : ∀ p, out.getLast? = some p → lessA p a = true := fun p hp => by
  unfold AscA at h
  rw [List.pairwise_append] at h
  exact h.2.2 p (List.mem_of_getLast? hp) a (by simp)
theorem rdItems_back (hi : Inj K) : ∀ {s out : List Alr} {at_ : Nat} {r : List UInt8}, (∀ a ∈ s, okA K num l a = true) → AscA (out ++ s) →
    rdItems K num l s.length out at_ (s.flatMap enA ++ r) = (out ++ s, at_ + (s.flatMap enA).length, 0)
  | [], out, at_, r, _, _ => by simp [rdItems]
  | a :: t, out, at_, r, ha, hasc => by
    rw [List.flatMap_cons, List.append_assoc, List.length_cons, rdItems_step (ha a (by simp)) hi (asc_last hasc),
      rdItems_back hi (s := t) (fun b hb => ha b (by simp [hb])) (by simpa using hasc)]
    simp [Nat.add_assoc]
/-- A set's bytes, cut: truncated. -/
theorem rdItems_cut (hi : Inj K) : ∀ {s out : List Alr} {at_ k : Nat}, (∀ a ∈ s, okA K num l a = true) → AscA (out ++ s) → k < (s.flatMap enA).length →
    rdItems K num l s.length out at_ ((s.flatMap enA).take k) = ([], 0, 2)
  | [], out, at_, k, _, _, hk => by simp at hk
  | a :: t, out, at_, k, ha, hasc, hk => by
    obtain ⟨s1, s2, r1, r2⟩ := okA_small (ha a (by simp)) hi
    rw [List.flatMap_cons] at hk ⊢
    by_cases hk1 : (enA a).length ≤ k
    · rw [List.take_append, List.take_of_length_le hk1, List.length_cons, rdItems_step (ha a (by simp)) hi (asc_last hasc)]
      exact rdItems_cut hi (s := t) (fun b hb => ha b (by simp [hb])) (by simpa using hasc) (by rw [List.length_append] at hk; omega)
    · rw [List.take_append_of_le_length (by omega), List.length_cons]
      by_cases hk2 : k < (enU a.subj.toNat).length
      · have e : (enA a).take k = (enU a.subj.toNat).take k := by unfold enA; rw [List.take_append_of_le_length (by omega)]
        unfold rdItems
        simp only [e, rdU_cut (v := a.subj.toNat) (by omega) hk2]
        rfl
      · have hlen : (enA a).length = (enU a.subj.toNat).length + (enU a.ring.toNat).length := by unfold enA; rw [List.length_append]
        have e : (enA a).take k = enU a.subj.toNat ++ (enU a.ring.toNat).take (k - (enU a.subj.toNat).length) := by
          unfold enA
          rw [List.take_append, List.take_of_length_le (by omega)]
        unfold rdItems
        simp only [e, rdU_back (v := a.subj.toNat) (by omega), List.drop_left, rdU_cut (v := a.ring.toNat) (k := k - (enU a.subj.toNat).length) (by omega) (by omega)]
        rfl
theorem okS_len {s : List Alr} (hs : okS K num l s = true) (hi : Inj K) : s.length ≤ 5000 := by
  obtain ⟨hv, h1, h2⟩ := okS_iff.1 hs
  have hn : (s.map fun a => a.subj * 5 + a.ring).Nodup := by
    unfold AscA at h2
    rw [List.nodup_iff_pairwise_ne, List.pairwise_map]
    refine List.Pairwise.imp_of_mem ?_ h2
    intro a b ha hb hl e
    have e1 := okA_small (h1 a ha) hi
    have e2 := okA_small (h1 b hb) hi
    rw [lessA_iff] at hl
    omega
  have := sub_len (b := (List.range 5000).map fun (i : Nat) => (i : Int) + 5) hn fun x hx => by
    obtain ⟨a, ha, rfl⟩ := List.mem_map.1 hx
    have e1 := okA_small (h1 a ha) hi
    exact List.mem_map.2 ⟨(a.subj * 5 + a.ring - 5).toNat, List.mem_range.2 (by omega), by omega⟩
  rw [List.length_map, List.length_map, List.length_range] at this
  exact this
/-- What AlertsBack says of the mathematics. -/
theorem rdSet_back (hi : Inj K) {s : List Alr} (hs : okS K num l s = true) (r : List UInt8) : rdSet K num l (enSet s ++ r) = (s, (enSet s).length, 0) := by
  obtain ⟨hv, h1, h2⟩ := okS_iff.1 hs
  have hl := okS_len hs hi
  have e1 : rdU (enSet s ++ r) = (s.length, (enU s.length).length, 0) := by unfold enSet; rw [List.append_assoc]; exact rdU_back (by omega) _
  have d1 : (enSet s ++ r).drop (enU s.length).length = s.flatMap enA ++ r := by unfold enSet; rw [List.append_assoc, List.drop_left]
  unfold rdSet
  simp only [e1, d1, hv]
  rw [if_neg (by simp), if_neg (by simp), if_neg (by omega), rdItems_back hi h1 (by simpa using h2)]
  unfold enSet
  simp
theorem rdSet_cut (hi : Inj K) {s : List Alr} (hs : okS K num l s = true) {k : Nat} (hk : k < (enSet s).length) : rdSet K num l ((enSet s).take k) = ([], 0, 2) := by
  obtain ⟨hv, h1, h2⟩ := okS_iff.1 hs
  have hl := okS_len hs hi
  unfold rdSet
  rw [hv]
  by_cases hk2 : k < (enU s.length).length
  · have e : (enSet s).take k = (enU s.length).take k := by unfold enSet; rw [List.take_append_of_le_length (by omega)]
    simp only [e, rdU_cut (v := s.length) (by omega) hk2]
    rfl
  · have hlen : (enSet s).length = (enU s.length).length + (s.flatMap enA).length := by unfold enSet; rw [List.length_append]
    have e : (enSet s).take k = enU s.length ++ (s.flatMap enA).take (k - (enU s.length).length) := by
      unfold enSet
      rw [List.take_append, List.take_of_length_le (by omega)]
    simp only [e, rdU_back (v := s.length) (by omega), List.drop_left]
    rw [if_neg (by simp), if_neg (by simp), if_neg (by omega)]
    exact rdItems_cut hi h1 (by simpa using h2) (by omega)
end
end Go.Proofs.YtipipjbpjpdcbaaDoor.Al

/- Rows of alerts. -/
namespace Go.Proofs.YtipipjbpjpdcbaaDoor.Al
set_option linter.unusedVariables false
open Go.RowKit
open Go.Proofs.YtipipjbpjpdcbaaDoor.W
open Go.Proofs.YtipipjbpjpdcbaaDoor.V
open Go.Proofs.YtipipjbpjpdcbaaDoor.O
open Go.Proofs.YtipipjbpjpdcbaaDoor.Pb (Alr alrC alrsC len_alrsC alrsC_app alrsC_one alrsC_get alrsC_cell alrInfo step_append_alr reads_blk)

theorem add_pos {a : Addr} {j : Nat} (h : 0 < j) : a.add j = ⟨a.block, a.off + j, none⟩ := by unfold Addr.add; rw [if_neg (by omega)]
/-- The cells of an element of a row of alerts. -/
theorem alr_at {w : World} {B n : Nat} {A : Option Addr} {es : List Alr} {k : Nat} {x : Alr} (h : Reads w B 4 A n (alrsC es)) (hx : es[k]? = some x) :
    ∃ ad, A = some ad ∧ ad.block < B ∧ (ad.add (k * 4)).block = ad.block ∧ w.cell? (ad.add (k * 4)) = some (.int .i64 x.view) ∧ w.cell? ⟨(ad.add (k * 4)).block, (ad.add (k * 4)).off + 1, none⟩ = some (.int .i64 x.ring) ∧
      w.cell? ⟨(ad.add (k * 4)).block, (ad.add (k * 4)).off + 2, none⟩ = some (.int .i64 x.obs) ∧ w.cell? ⟨(ad.add (k * 4)).block, (ad.add (k * 4)).off + 3, none⟩ = some (.int .i64 x.subj) := by
  have hl := h.1
  rw [len_alrsC] at hl
  have hk := (List.getElem?_eq_some_iff.1 hx).1
  obtain ⟨ad, hA, hb, hc⟩ := h.2 (by omega)
  have hj : ∀ j, 0 < j → j < 4 → w.cell? ⟨(ad.add (k * 4)).block, (ad.add (k * 4)).off + j, none⟩ = (alrC x)[j]? := fun j h0 h4 => by
    rw [← add_pos h0, add_of_add]
    have h1 := alrsC_get (j := j) hx h4
    cases hu : (alrsC es)[k * 4 + j]? with
    | none =>
      exfalso
      rw [List.getElem?_eq_none_iff, len_alrsC] at hu
      omega
    | some u => rw [hc _ _ hu, ← h1, hu]
  exact ⟨ad, hA, hb, block_of_add _ _, hc _ _ (alrsC_get (j := 0) hx (by omega)), hj 1 (by omega) (by omega), hj 2 (by omega) (by omega), hj 3 (by omega) (by omega)⟩
/-- An alert as the program holds it. -/
@[reducible] def alrV (a : Alr) : Value := .agg #[.int .i64 a.view, .int .i64 a.ring, .int .i64 a.obs, .int .i64 a.subj]
@[reducible] def alrB (a : Alr) : Array Value := #[.int .i64 a.view, .int .i64 a.ring, .int .i64 a.obs, .int .i64 a.subj]
def El (a : Alr) : Prop := In64 a.view ∧ In64 a.ring ∧ In64 a.obs ∧ In64 a.subj
/-- A list of alerts that came in. -/
structure AS (w : World) (B : Nat) (s : List Alr) (A : Option Addr) (c : Nat) : Prop where
  rd : Reads w B 4 A s.length (alrsC s)
  l40 : s.length ≤ 1099511627776
  el : ∀ x ∈ s, El x
  cap : s.length ≤ c
theorem AS.below {w W : World} {B : Nat} {s : List Alr} {A : Option Addr} {c : Nat} (h : AS w B s A c) (hb : Below B w W) : AS W B s A c := { h with rd := h.rd.below hb }
theorem AS.more {w : World} {B B' : Nat} {s : List Alr} {A : Option Addr} {c : Nat} (h : AS w B s A c) (hb : B ≤ B') : AS w B' s A c := { h with rd := h.rd.more hb }
/-- A row of alerts of the call's own. -/
def OwnS (w : World) (s : List Alr) (e : Ending) (w' : World) : Prop := ∃ v, e = .returned v ∧ w'.ownsRow w.heap.size 48 4 v s.length (alrsC s) ∧ Below w.heap.size w w'
theorem own_openS {W : World} {B : Nat} {v : Value} {s : List Alr} (h : W.ownsRow B 48 4 v s.length (alrsC s)) : ∃ A c, v = .slice A s.length c ∧ s.length ≤ c ∧ Reads W W.heap.size 4 A s.length (alrsC s) := by
  rcases h.2 with ⟨rfl, h0⟩ | ⟨g, cap, cur, rfl, _, _, h1, _⟩
  · have : s = [] := List.eq_nil_of_length_eq_zero h0
    subst this
    exact ⟨none, 0, rfl, Nat.le_refl _, Reads.none_⟩
  · exact ⟨_, cap, rfl, h1, Reads.of_own h⟩
theorem blk4 {W : World} {g : Nat} {t : TypeId} {a b c d : Value} (h : Blk W g t #[a, b, c, d]) : W.cell? ⟨g, 0, none⟩ = some a ∧ W.cell? ⟨g, 1, none⟩ = some b ∧ W.cell? ⟨g, 2, none⟩ = some c ∧ W.cell? ⟨g, 3, none⟩ = some d :=
  ⟨h.cell 0, h.cell 1, h.cell 2, h.cell 3⟩
/-- A row of alerts appended to one of the call's own. -/
theorem wp_append_alrs {ops : Array Oper} {rest : List Oper} {o : Oper} {a : Act} {Q : Exit → Act → World → Prop} (W : World) (hgd : o.guard = none) (s x : Operand)
    (ho : o.op = .call { callee := .builtin .append, args := #[s, x], argTypes := #[25, 25] }) (base : Nat) (v : Value) (es news : List Alr) (B m c : Nat) (A : Option Addr) (hs : a.eval s = v)
    (hown : W.ownsRow base 48 4 v es.length (alrsC es)) (hx : a.eval x = .slice A m c) (hr : Reads W B 4 A m (alrsC news)) (hm : news.length = m)
    (hl : es.length + m ≤ 1099511627776) (hbase : base ≤ W.heap.size)
    (h : ∀ v' w', w'.ownsRow base 48 4 v' (es ++ news).length (alrsC (es ++ news)) → Below base W w' → W.grownBy w' v.ownBlock → wpList Tryd.prog ops Q rest (a.put o.dst v') w') : wpList Tryd.prog ops Q (o :: rest) a W := by
  subst hm
  obtain ⟨i0, hi, hz0, hz1, hz2⟩ := info_parts alrInfo
  refine wpList_append_any W hgd s x 25 ho base 48 i0 _ 4 32 Tryd.underlying25 hi hz0 hz1 hz2 rfl (by decide) v _ _ hs hown B A news.length c _ hx hr (alrsC_cell _) ?_ ?_ hbase ?_
  · unfold maxLen; omega
  · omega
  · intro v' w' h1 h2 _
    have h3 : w'.ownsRow base 48 4 v' (es ++ news).length (alrsC (es ++ news)) := by
      rw [alrsC_app, List.length_append]
      exact h1
    exact h v' w' h3 ((Below.refl _ _).grown h2 hbase fun q hq => (hown.lt q hq).1) h2
theorem boxes2 (w : World) (x y : Array Value) (t t' : TypeId) : Below w.heap.size w ((w.alloc (.cells x t)).alloc (.cells y t')) := ((Below.refl w.heap.size w).alloc (Nat.le_refl _) _).alloc (by simp) _
set_option maxRecDepth 100000 in
set_option maxHeartbeats 1000000 in
theorem refLess_any (a b : Alr) (w : World) : Calls Tryd.prog 44 #[alrV a, alrV b] w (PB w (lessA a b)) := by
  obtain ⟨av, ar, ao, as'⟩ := a
  obtain ⟨bv, br, bo, bs'⟩ := b
  dsimp only [alrV]
  have HB := Lib.hid (boxes2 w #[.int .i64 av, .int .i64 ar, .int .i64 ao, .int .i64 as'] #[.int .i64 bv, .int .i64 br, .int .i64 bo, .int .i64 bs'] 48 48)
  have ht := Lib.hid (show lessA ⟨av, ar, ao, as'⟩ ⟨bv, br, bo, bs'⟩ = (decide (as' < bs') || (decide (as' = bs') && decide (ar < br))) from rfl)
  generalize lessA ⟨av, ar, ao, as'⟩ ⟨bv, br, bo, bs'⟩ = t at *
  rcases Int.lt_trichotomy as' bs' with h | h | h
  · have hf := Lib.hid (show t = true by rw [ht.out, decide_eq_true h]; rfl)
    clear ht
    go_enter Tryd.func44, Tryd.ntmps44
    go_wp2_with fail
    go_ret
    exact ⟨by rw [hf.out]; rfl, HB.out⟩
  · have h1 : ¬ as' < bs' := by omega
    have h2 : (as' == bs') = true := beqT h
    by_cases h3 : ar < br
    · have hf := Lib.hid (show t = true by rw [ht.out, decide_eq_true h, decide_eq_true h3]; simp)
      clear ht h
      go_enter Tryd.func44, Tryd.ntmps44
      go_wp2_with fail
      go_ret
      exact ⟨by rw [hf.out]; rfl, HB.out⟩
    · have hf := Lib.hid (show t = false by rw [ht.out, decide_eq_false h1, decide_eq_false h3]; simp)
      clear ht h
      go_enter Tryd.func44, Tryd.ntmps44
      go_wp2_with fail
      go_ret
      exact ⟨by rw [hf.out]; rfl, HB.out⟩
  · have h1 : ¬ as' < bs' := by omega
    have h2 : (as' == bs') = false := beqF (by omega)
    have hf := Lib.hid (show t = false by rw [ht.out, decide_eq_false h1, decide_eq_false (show ¬ as' = bs' by omega)]; simp)
    clear ht h
    go_enter Tryd.func44, Tryd.ntmps44
    go_wp2_with fail
    go_ret
    exact ⟨by rw [hf.out]; rfl, HB.out⟩
/-- How the loop of Has and of Count goes on. -/
theorem hasA_drop {s : List Alr} {k : Nat} {x : Alr} {subj ring : Int} (h : s[k]? = some x) : hasA (s.drop k) subj ring = (decide (x.subj = subj) && decide (x.ring = ring) || hasA (s.drop (k + 1)) subj ring) := by
  rw [List.drop_eq_getElem_cons (List.getElem?_eq_some_iff.1 h).1, (List.getElem?_eq_some_iff.1 h).2]; rfl
theorem cntA_take {s : List Alr} {k : Nat} {x : Alr} {subj : Int} (h : s[k]? = some x) : cntA (s.take (k + 1)) subj = cntA (s.take k) subj + if x.subj = subj then 1 else 0 := by
  unfold cntA
  rw [List.take_add_one, h, List.countP_append]
  by_cases hx : x.subj = subj <;> simp [hx]
set_option maxRecDepth 100000 in
set_option maxHeartbeats 2000000 in
theorem refHas_any (A : Option Addr) (c B : Nat) (s : List Alr) (subj ring : Int) (w : World) (h : AS w B s A c) :
    Calls Tryd.prog 35 #[.slice A s.length c, .int .i64 subj, .int .i64 ring] w fun e w' => e = .returned (.bool (hasA s subj ring)) ∧ w = w' := by
  have HR := Lib.hid h.rd
  have hl40 := h.l40
  obtain ⟨n, hn⟩ : ∃ n, n = s.length := ⟨_, rfl⟩
  have HN := Lib.hid hn
  rw [← hn] at HR hl40 ⊢
  clear h hn
  have HT := Lib.hid (show ∃ t, t = hasA s subj ring from ⟨_, rfl⟩)
  obtain ⟨t, ht⟩ := HT.out
  have HTT := Lib.hid ht
  rw [← ht]
  clear ht HT
  go_enter Tryd.func35, Tryd.ntmps35
  go_wp2_with fail
  go_loopg [7] n (fun gk s7 wr => ∃ k : Nat, k + gk = n ∧ s7 = .int .i64 k ∧ wr = w ∧ Hid (hasA (s.drop k) subj ring = t))
  case atStart => exact ⟨0, by omega, rfl, rfl, HTT.out.symm⟩
  case round =>
    obtain ⟨k, hkg, rfl, rfl, HD⟩ := hrel
    cases gk with
    | zero =>
      have hkz : ¬ ((k : Int) < (n : Int)) := by omega
      have hf := Lib.hid (show t = false by rw [← HD.out, List.drop_eq_nil_of_le (by have := HN.out; omega)]; rfl)
      go_wp2_with fail
      go_ret
      exact ⟨by rw [hf.out]; rfl, rfl⟩
    | succ gk =>
      have hkz : (k : Int) < (n : Int) := by omega
      obtain ⟨x, hx⟩ : ∃ x, s[k]? = some x := ⟨_, List.getElem?_eq_getElem (by have := HN.out; omega)⟩
      obtain ⟨ad, rfl, -, -, y0, y1, y2, y3⟩ := alr_at HR.out hx
      have HDX := Lib.hid (hasA_drop (subj := subj) (ring := ring) hx)
      clear hx
      by_cases h1 : x.subj = subj
      · have f1 : (x.subj == subj) = true := beqT h1
        by_cases h2 : x.ring = ring
        · have f2 : (x.ring == ring) = true := beqT h2
          have hf := Lib.hid (show t = true by rw [← HD.out, HDX.out, decide_eq_true h1, decide_eq_true h2]; rfl)
          clear h1 h2
          go_wp2_with fail
          go_ret
          exact ⟨by rw [hf.out]; rfl, rfl⟩
        · have f2 : (x.ring == ring) = false := beqF h2
          have hf := Lib.hid (show hasA (s.drop (k + 1)) subj ring = t by rw [← HD.out, HDX.out, decide_eq_false h2]; simp)
          clear h1 h2
          go_wp2_with fail
          go_roundg gk
          case measure => omega
          case rel => exact ⟨k + 1, by omega, by go_num, rfl, hf.out⟩
      · have f1 : (x.subj == subj) = false := beqF h1
        have hf := Lib.hid (show hasA (s.drop (k + 1)) subj ring = t by rw [← HD.out, HDX.out, decide_eq_false h1]; simp)
        clear h1
        go_wp2_with fail
        go_roundg gk
        case measure => omega
        case rel => exact ⟨k + 1, by omega, by go_num, rfl, hf.out⟩
set_option maxRecDepth 100000 in
set_option maxHeartbeats 2000000 in
theorem refCount_any (A : Option Addr) (c B : Nat) (s : List Alr) (subj : Int) (w : World) (h : AS w B s A c) :
    Calls Tryd.prog 26 #[.slice A s.length c, .int .i64 subj] w fun e w' => e = .returned (.int .i64 (cntA s subj : Int)) ∧ w = w' := by
  have HR := Lib.hid h.rd
  have hl40 := h.l40
  obtain ⟨n, hn⟩ : ∃ n, n = s.length := ⟨_, rfl⟩
  have HN := Lib.hid hn
  rw [← hn] at HR hl40 ⊢
  clear h hn
  have HT := Lib.hid (show ∃ t, t = cntA s subj from ⟨_, rfl⟩)
  obtain ⟨t, ht⟩ := HT.out
  have HTT := Lib.hid ht
  rw [← ht]
  clear ht HT
  go_enter Tryd.func26, Tryd.ntmps26
  go_wp2_with fail
  go_loopg [5, 6] n (fun gk s3 s4 wr => ∃ k m : Nat, k + gk = n ∧ s4 = .int .i64 k ∧ s3 = .int .i64 m ∧ m ≤ k ∧ wr = w ∧ Hid (m = cntA (s.take k) subj))
  case atStart => exact ⟨0, 0, by omega, rfl, rfl, by omega, rfl, rfl⟩
  case round =>
    obtain ⟨k, m, hkg, rfl, rfl, hmk, rfl, HM⟩ := hrel
    cases gk with
    | zero =>
      have hkz : ¬ ((k : Int) < (n : Int)) := by omega
      have hf := Lib.hid (show t = m by rw [HM.out, List.take_of_length_le (by have := HN.out; omega)]; exact HTT.out)
      go_wp2_with fail
      go_ret
      exact ⟨by rw [hf.out]; rfl, rfl⟩
    | succ gk =>
      have hkz : (k : Int) < (n : Int) := by omega
      obtain ⟨x, hx⟩ : ∃ x, s[k]? = some x := ⟨_, List.getElem?_eq_getElem (by have := HN.out; omega)⟩
      obtain ⟨ad, rfl, -, -, y0, y1, y2, y3⟩ := alr_at HR.out hx
      have HDX := Lib.hid (cntA_take (subj := subj) hx)
      clear hx
      by_cases h1 : x.subj = subj
      · have f1 : (x.subj == subj) = true := beqT h1
        have hf := Lib.hid (show m + 1 = cntA (s.take (k + 1)) subj by rw [HDX.out, if_pos h1, HM.out])
        clear h1
        go_wp2_with fail
        go_roundg gk
        case measure => omega
        case rel => exact ⟨k + 1, m + 1, by omega, by go_num, by go_num, by omega, rfl, hf.out⟩
      · have f1 : (x.subj == subj) = false := beqF h1
        have hf := Lib.hid (show m = cntA (s.take (k + 1)) subj by rw [HDX.out, if_neg h1, HM.out]; rfl)
        clear h1
        go_wp2_with fail
        go_roundg gk
        case measure => omega
        case rel => exact ⟨k + 1, m, by omega, by go_num, rfl, by omega, rfl, hf.out⟩
end Go.Proofs.YtipipjbpjpdcbaaDoor.Al

/- The reference of layer 6: ValidAlert, Valid. -/
namespace Go.Proofs.YtipipjbpjpdcbaaDoor.Al
set_option linter.unusedVariables false
open Go.RowKit
open Go.Proofs.YtipipjbpjpdcbaaDoor.W
open Go.Proofs.YtipipjbpjpdcbaaDoor.V
open Go.Proofs.YtipipjbpjpdcbaaDoor.O
open Go.Proofs.YtipipjbpjpdcbaaDoor.Pb (Alr alrC alrsC len_alrsC alrsC_app alrsC_one alrsC_get alrsC_cell alrInfo step_append_alr reads_blk two_blk)

theorem obs_cases (l : List Int) (x : Int) : obsL K l x = [] ∨ (obsL K l x).length = 5 := by
  unfold obsL
  split
  · right; rfl
  · left; rfl
set_option maxRecDepth 1000000 in
set_option maxHeartbeats 4000000 in
theorem refValidAlert_any (num : Int) (l : List Int) (A : Option Addr) (c B : Nat) (a : Alr) (w : World) (h : VW w B num l A c) (hB : B ≤ w.heap.size) (ha : El a) :
    Calls Tryd.prog 51 #[.agg #[.int .i64 num, .slice A l.length c], alrV a] w (PB w (okA K num l a)) := by
  obtain ⟨av, ar, ao, as'⟩ := a
  obtain ⟨v64, r64, o64, s64⟩ := ha
  dsimp only at v64 r64 o64 s64
  dsimp only [alrV]
  have hb0 := boxes2 w #[.int .i64 num, .slice A l.length c] #[.int .i64 av, .int .i64 ar, .int .i64 ao, .int .i64 as'] 24 48
  have hz := two_blk w 24 48 #[.int .i64 num, .slice A l.length c] #[.int .i64 av, .int .i64 ar, .int .i64 ao, .int .i64 as']
  have KV := Lib.hid (fun W (hW : Below w.heap.size w W) => refValid_any num l A c w.heap.size W ((h.more hB).below hW) hW.size)
  have KO := Lib.hid (fun W (hW : Below w.heap.size w W) => (refObservers_any as' A c w.heap.size l W ⟨((h.more hB).below hW).rd, h.l40, h.el, h.cap⟩ hW.size s64).mono fun _ _ h => h.to (obsL K l as') (obsL K l as').length rfl rfl)
  have HT := Lib.hid (show okA K num l ⟨av, ar, ao, as'⟩ = (validV num l && (decide (av = num) && (decide (0 ≤ ar) && (decide (ar < 5) && decide ((obsL K l as')[ar.toNat]? = some ao))))) from rfl)
  obtain ⟨t, ht⟩ : ∃ t, t = okA K num l ⟨av, ar, ao, as'⟩ := ⟨_, rfl⟩
  rw [← ht] at HT ⊢
  clear ht h
  obtain ⟨n, hn⟩ : ∃ n, n = l.length := ⟨_, rfl⟩
  dsimp only [vwV] at KV
  rw [← hn] at hb0 hz KV KO ⊢
  clear hn
  have HC := Lib.hid (obs_cases l as')
  generalize obsL K l as' = o at *
  obtain ⟨no, hno⟩ : ∃ n, n = o.length := ⟨_, rfl⟩
  have HNO := Lib.hid hno
  rw [← hno] at KO
  clear hno
  go_enter Tryd.func51, Tryd.ntmps51
  go_upto_region 1 with fail
  generalize hw0 : (w.alloc (.cells #[.int .i64 num, .slice A n c] 24)).alloc (.cells #[.int .i64 av, .int .i64 ar, .int .i64 ao, .int .i64 as'] 48) = w0 at *
  clear hw0
  have B0 := Lib.hid hb0
  have Z1 := Lib.hid hz.1
  have Z2 := Lib.hid hz.2
  have p0 := blk2 hz.1
  have KV0 := Lib.hid (KV.out w0 hb0)
  clear hb0 hz KV
  have FB := Lib.hid (fun W (hW : Below w0.heap.size w0 W) => And.intro (blk2 (Z1.out.below hW Z1.out.lt)) (blk4 (Z2.out.below hW Z2.out.lt)))
  cases hv : validV num l
  · rw [hv] at KV0
    have hf := Lib.hid (show t = false by rw [HT.out, hv]; rfl)
    go_wp2_with (go_at_call 19; (with_reducible refine KV0.out.mono ?_); rintro e w1 ⟨rfl, b1⟩)
    go_ret
    exact ⟨by rw [hf.out]; rfl, B0.out.trans (b1.mono B0.out.size)⟩
  rw [hv] at KV0 HT
  by_cases h1 : av = num
  case neg =>
    have f1 : (av != num) = true := bneT h1
    have hf := Lib.hid (show t = false by rw [HT.out, decide_eq_false h1]; simp)
    go_wp2_with (go_at_call 19; (with_reducible refine KV0.out.mono ?_); rintro e w1 ⟨rfl, b1⟩; (have p1 := FB.out _ b1))
    go_ret
    exact ⟨by rw [hf.out]; rfl, B0.out.trans (b1.mono B0.out.size)⟩
  have f1 : (av != num) = false := bneF h1
  by_cases h2 : 0 ≤ ar
  case neg =>
    have f2 : ar < 0 := by omega
    have hf := Lib.hid (show t = false by rw [HT.out, decide_eq_false h2]; simp)
    clear h1
    go_wp2_with (go_at_call 19; (with_reducible refine KV0.out.mono ?_); rintro e w1 ⟨rfl, b1⟩; (have p1 := FB.out _ b1))
    go_ret
    exact ⟨by rw [hf.out]; rfl, B0.out.trans (b1.mono B0.out.size)⟩
  have f2 : ¬ ar < 0 := by omega
  by_cases h3 : ar < 5
  case neg =>
    have f3 : 5 ≤ ar := by omega
    have hf := Lib.hid (show t = false by rw [HT.out, decide_eq_false h3]; simp)
    clear h1
    go_wp2_with (go_at_call 19; (with_reducible refine KV0.out.mono ?_); rintro e w1 ⟨rfl, b1⟩; (have p1 := FB.out _ b1))
    go_ret
    exact ⟨by rw [hf.out]; rfl, B0.out.trans (b1.mono B0.out.size)⟩
  have f3 : ¬ 5 ≤ ar := by omega
  have HT2 := Lib.hid (show t = decide (o[ar.toNat]? = some ao) by rw [HT.out, decide_eq_true h1, decide_eq_true h2, decide_eq_true h3]; simp)
  clear HT h1
  obtain ⟨r, rfl⟩ : ∃ r : Nat, ar = (r : Int) := ⟨ar.toNat, by omega⟩
  rw [show ((r : Int)).toNat = r by simp] at HT2
  go_upto_region 4 with (first
    | (go_at_call 19; (with_reducible refine KV0.out.mono ?_); rintro e w1 ⟨rfl, b1⟩; (have p1 := FB.out _ b1))
    | (go_at_call 22; (with_reducible refine (KO.out _ (B0.out.trans (b1.mono B0.out.size))).mono ?_); rintro e w2 ⟨A2, c2, rfl, hc2, ho2, hr2, q2⟩))
  have b2 := W.bstep b1 q2
  have p2 := FB.out _ b2
  have HBB := Lib.hid (B0.out.trans (b2.mono B0.out.size))
  rcases HC.out with he | he
  · have hno0 : no = 0 := by rw [HNO.out, he]; rfl
    have hf := Lib.hid (show t = false by rw [HT2.out, he]; simp)
    subst hno0
    have f4 : ¬ (r : Int) < 0 := by omega
    clear p1 ho2 hr2 he
    go_quiet (fail)
    go_wp2_with fail
    go_ret
    exact ⟨by rw [hf.out]; rfl, below_drewN' HBB.out _⟩
  · have hno5 : no = 5 := by rw [HNO.out, he]
    have hr5 : r < no := by omega
    obtain ⟨ad, u, rfl, _, hx, hcell⟩ := hr2.at_ (k := r) hr5
    obtain ⟨y, hy⟩ : ∃ y, o[r]? = some y := ⟨_, List.getElem?_eq_getElem (by omega)⟩
    have hux : u = .int .i64 y := by simp [hy, intV] at hx; exact hx.symm
    rw [hux] at hcell
    have HT3 := Lib.hid (show t = decide (y = ao) by rw [HT2.out, hy]; simp)
    subst hno5
    have f4 : (r : Int) < 5 := by omega
    clear p1 ho2 hr2 he hx hux hy
    by_cases hyo : y = ao
    · have f5 : (y == ao) = true := beqT hyo
      have hf := Lib.hid (show t = true by rw [HT3.out, decide_eq_true hyo])
      clear hyo
      go_quiet (fail)
      go_wp2_with fail
      go_ret
      exact ⟨by rw [hf.out]; rfl, below_drewN' HBB.out _⟩
    · have f5 : (y == ao) = false := beqF hyo
      have hf := Lib.hid (show t = false by rw [HT3.out, decide_eq_false hyo])
      clear hyo
      go_quiet (fail)
      go_wp2_with fail
      go_ret
      exact ⟨by rw [hf.out]; rfl, below_drewN' HBB.out _⟩
end Go.Proofs.YtipipjbpjpdcbaaDoor.Al

/- The reference of layer 6: Valid, Same, Put. -/
namespace Go.Proofs.YtipipjbpjpdcbaaDoor.Al
set_option linter.unusedVariables false
set_option linter.unusedSimpArgs false
open Go.RowKit
open Go.Proofs.YtipipjbpjpdcbaaDoor.W
open Go.Proofs.YtipipjbpjpdcbaaDoor.V
open Go.Proofs.YtipipjbpjpdcbaaDoor.O
open Go.Proofs.YtipipjbpjpdcbaaDoor.Pb (Alr alrC alrsC len_alrsC alrsC_app alrsC_one alrsC_get alrsC_cell alrInfo step_append_alr reads_blk two_blk)

theorem riseA_of : ∀ {s : List Alr}, (∀ i p x, s[i]? = some p → s[i + 1]? = some x → lessA p x = true) → riseA s = true
  | [], _ => rfl
  | [a], _ => rfl
  | a :: b :: t, h => by
    show (lessA a b && riseA (b :: t)) = true
    rw [h 0 a b rfl rfl, riseA_of (s := b :: t) fun i p x h1 h2 => h (i + 1) p x (by simpa using h1) (by simpa using h2)]; rfl
/-- What the loop of Valid has seen. -/
def Seen (num : Int) (l : List Int) (s : List Alr) (k : Nat) : Prop := ∀ i x, i < k → s[i]? = some x → okA K num l x = true ∧ ∀ p, 0 < i → s[i - 1]? = some p → lessA p x = true
theorem Seen.next {num : Int} {l : List Int} {s : List Alr} {k : Nat} {x : Alr} (h : Seen num l s k) (hx : s[k]? = some x) (h1 : okA K num l x = true) (h2 : ∀ p, 0 < k → s[k - 1]? = some p → lessA p x = true) : Seen num l s (k + 1) := fun i y hi hy => by
  by_cases e : i = k
  · subst e
    rw [hx] at hy
    cases hy
    exact ⟨h1, h2⟩
  · exact h i y (by omega) hy
theorem Seen.done {num : Int} {l : List Int} {s : List Alr} (h : Seen num l s s.length) (hv : validV num l = true) : okS K num l s = true := by
  refine okS_iff.2 ⟨hv, fun a ha => ?_, riseA_iff.1 (riseA_of fun i p x hp hx => ?_)⟩
  · obtain ⟨i, hi, e⟩ := List.mem_iff_getElem.1 ha
    exact (h i a hi (by rw [List.getElem?_eq_getElem hi, e])).1
  · exact (h (i + 1) x (List.getElem?_eq_some_iff.1 hx).1 hx).2 p (by omega) (by simpa using hp)
theorem okS_at {num : Int} {l : List Int} {s : List Alr} {k : Nat} {x : Alr} (h : okS K num l s = true) (hx : s[k]? = some x) : okA K num l x = true ∧ ∀ p, 0 < k → s[k - 1]? = some p → lessA p x = true := by
  obtain ⟨_, h1, h2⟩ := okS_iff.1 h
  refine ⟨h1 x (List.mem_of_getElem? hx), fun p hk hp => ?_⟩
  obtain ⟨hi, e1⟩ := List.getElem?_eq_some_iff.1 hx
  obtain ⟨hj, e2⟩ := List.getElem?_eq_some_iff.1 hp
  have := (List.pairwise_iff_getElem.1 h2) (k - 1) k hj hi (by omega)
  rw [e1, e2] at this
  exact this
theorem below2 {w a b : World} (h : Below w.heap.size w a) (q : Below a.heap.size a b) : Below w.heap.size w b := h.trans (q.mono h.size)
set_option maxRecDepth 1000000 in
set_option maxHeartbeats 4000000 in
theorem refValidS_any (num : Int) (l : List Int) (A E : Option Addr) (c cE B : Nat) (s : List Alr) (w : World) (h : VW w B num l A c) (hs : AS w B s E cE) (hB : B ≤ w.heap.size) :
    Calls Tryd.prog 33 #[.agg #[.int .i64 num, .slice A l.length c], .slice E s.length cE] w (PB w (okS K num l s)) := by
  have hb0 := (Below.refl w.heap.size w).alloc (Nat.le_refl _) (.cells #[.int .i64 num, .slice A l.length c] 24)
  have hz := Blk.new w 24 #[.int .i64 num, .slice A l.length c]
  have KV := Lib.hid (fun W (hW : Below w.heap.size w W) => refValid_any num l A c w.heap.size W ((h.more hB).below hW) hW.size)
  have KA := Lib.hid (fun (a : Alr) (ha : El a) W (hW : Below w.heap.size w W) => refValidAlert_any num l A c w.heap.size a W ((h.more hB).below hW) hW.size ha)
  have HR := Lib.hid (fun W (hW : Below w.heap.size w W) => ((hs.more hB).below hW).rd)
  have HEL := Lib.hid hs.el
  have hl40 := hs.l40
  obtain ⟨t, ht⟩ : ∃ t, t = okS K num l s := ⟨_, rfl⟩
  have HT := Lib.hid ht
  rw [← ht]
  clear h hs ht
  dsimp only [vwV] at KV
  obtain ⟨n, hn⟩ : ∃ n, n = l.length := ⟨_, rfl⟩
  rw [← hn] at hb0 hz KV KA ⊢
  clear hn
  obtain ⟨ns, hns⟩ : ∃ n, n = s.length := ⟨_, rfl⟩
  have HNS := Lib.hid hns
  rw [← hns] at HR hl40 ⊢
  clear hns
  go_enter Tryd.func33, Tryd.ntmps33
  go_upto_region 1 with fail
  generalize hw0 : w.alloc (.cells #[.int .i64 num, .slice A n c] 24) = w0 at *
  clear hw0
  have B0 := Lib.hid hb0
  have Z1 := Lib.hid hz
  have p0 := blk2 hz
  have KV0 := Lib.hid (KV.out w0 hb0)
  clear hb0 hz KV
  cases hv : validV num l
  · rw [hv] at KV0
    have hf := Lib.hid (show t = false by
      rw [HT.out, ← Bool.not_eq_true, okS_iff]
      intro h
      rw [hv] at h
      exact absurd h.1 (by simp))
    go_wp2_with (go_at_call 19; (with_reducible refine KV0.out.mono ?_); rintro e w1 ⟨rfl, b1⟩)
    go_ret
    exact ⟨by rw [hf.out]; rfl, B0.out.trans (b1.mono B0.out.size)⟩
  rw [hv] at KV0
  have HV := Lib.hid hv
  clear hv
  go_wp2_with (go_at_call 19; (with_reducible refine KV0.out.mono ?_); rintro e w1 ⟨rfl, b1⟩)
  have B1 := Lib.hid b1
  clear b1 KV0
  go_loopg [5] ns (fun gk s5 wr => ∃ k : Nat, k + gk = ns ∧ s5 = .int .i64 k ∧ Hid (Below w0.heap.size w0 wr) ∧ Hid (Seen num l s k))
  case atStart => exact ⟨0, by omega, rfl, B1.out, fun i x hi => by omega⟩
  case round =>
    obtain ⟨k, hkg, rfl, HBW, HSE⟩ := hrel
    have hBw := B0.out.trans (HBW.out.mono B0.out.size)
    cases gk with
    | zero =>
      have hkz : ¬ ((k : Int) < (ns : Int)) := by omega
      have hf := Lib.hid (show t = true by
        rw [HT.out]
        exact Seen.done (by have := HSE.out; rw [show k = s.length by have := HNS.out; omega] at this; exact this) HV.out)
      go_wp2_with fail
      go_ret
      exact ⟨by rw [hf.out]; rfl, hBw⟩
    | succ gk =>
      have hkz : (k : Int) < (ns : Int) := by omega
      have hk0 : ¬ (k : Int) < 0 := by omega
      obtain ⟨x, hx⟩ : ∃ x, s[k]? = some x := ⟨_, List.getElem?_eq_getElem (by have := HNS.out; omega)⟩
      obtain ⟨ad, rfl, hadb, hbk, y0, y1, y2, y3⟩ := alr_at (HR.out wr hBw) hx
      have hx64 := HEL.out x (List.mem_of_getElem? hx)
      have KX := Lib.hid (fun W (hW : Below wr.heap.size wr W) => KA.out x hx64 W (below2 hBw hW))
      have HFV := Lib.hid (fun W (hW : Below wr.heap.size wr W) => blk2 (Z1.out.below (below2 HBW.out hW) Z1.out.lt))
      have HX := Lib.hid hx
      have wlt := hBw.size
      have HF4 := Lib.hid (fun (j : Nat) (u : Value) W (hW : Below wr.heap.size wr W) (hc : wr.cell? ⟨(ad.add (k * 4)).block, (ad.add (k * 4)).off + j, none⟩ = some u) => (hW.cell (p := ⟨(ad.add (k * 4)).block, (ad.add (k * 4)).off + j, none⟩) (by show (ad.add (k * 4)).block < _; rw [hbk]; omega)).trans hc)
      have HF0 := Lib.hid (fun W (hW : Below wr.heap.size wr W) => (hW.cell (p := ad.add (k * 4)) (by rw [hbk]; omega)).trans y0)
      have HS1 := Lib.hid (fun W (hW : Below wr.heap.size wr W) => And.intro (HF0.out W hW) (And.intro (HF4.out 1 _ W hW y1) (And.intro (HF4.out 2 _ W hW y2) (HF4.out 3 _ W hW y3))))
      clear hx hadb hbk hx64 HF4 HF0
      have ba := Below.refl wr.heap.size wr
      cases hok : okA K num l x
      · have hf := Lib.hid (show t = false by
          rw [HT.out, ← Bool.not_eq_true]
          intro h
          have := (okS_at h HX.out).1
          rw [hok] at this; cases this)
        rw [hok] at KX
        clear hok y0 y1 y2 y3
        dsimp only [alrV] at KX
        go_wp2_with fail
        --FA
        refine wp_region_held_drew (S := (fun wx => Below wr.heap.size wr wx)) (by kernel_rfl) ?_ (fun hHeld => ?_)
        · exact ba.drew
        refine wpAnyH_take (i := 0) (v := ?_) (by first | (simp only [List.getElem?_toArray, List.getElem?_cons_succ, List.getElem?_cons_zero]; done) | (simp only [List.getElem?_toArray, List.getElem?_cons_succ, List.getElem?_cons_zero]; rfl)) (by kernel_rfl) (by kernel_rfl) (by kernel_rfl) (by exact fun _ _ _ h => h) (Or.inl ⟨by rfl, ?_⟩) hHeld ?_
        rotate_left 1
        · intro wq hSw
          obtain ⟨f10, f11⟩ := HFV.out _ hSw
          obtain ⟨f20, f21, f22, f23⟩ := HS1.out _ hSw
          go_simp
          all_goals with_reducible rfl
        try simp only [Act.put, List.setIfInBounds_toArray, List.set_cons_zero, List.set_cons_succ]
        refine wpAnyH_take (i := 1) (v := ?_) (by first | (simp only [List.getElem?_toArray, List.getElem?_cons_succ, List.getElem?_cons_zero]; done) | (simp only [List.getElem?_toArray, List.getElem?_cons_succ, List.getElem?_cons_zero]; rfl)) (by kernel_rfl) (by kernel_rfl) (by kernel_rfl) (by exact fun _ _ _ h => h) (Or.inl ⟨by rfl, ?_⟩) hHeld ?_
        rotate_left 1
        · intro wq hSw
          go_simp
          all_goals with_reducible rfl
        try simp only [Act.put, List.setIfInBounds_toArray, List.set_cons_zero, List.set_cons_succ]
        refine wpAnyH_take (i := 2) (v := ?_) (by first | (simp only [List.getElem?_toArray, List.getElem?_cons_succ, List.getElem?_cons_zero]; done) | (simp only [List.getElem?_toArray, List.getElem?_cons_succ, List.getElem?_cons_zero]; rfl)) (by kernel_rfl) (by kernel_rfl) (by kernel_rfl) (by exact fun _ _ _ h => h) (Or.inl ⟨by rfl, ?_⟩) hHeld ?_
        rotate_left 1
        · intro wq hSw
          go_simp
          all_goals with_reducible rfl
        try simp only [Act.put, List.setIfInBounds_toArray, List.set_cons_zero, List.set_cons_succ]
        refine wpAnyH_take (i := 3) (v := ?_) (by first | (simp only [List.getElem?_toArray, List.getElem?_cons_succ, List.getElem?_cons_zero]; done) | (simp only [List.getElem?_toArray, List.getElem?_cons_succ, List.getElem?_cons_zero]; rfl)) (by kernel_rfl) (by kernel_rfl) (by kernel_rfl) (by exact fun _ _ _ h => h) (Or.inl ⟨by rfl, ?_⟩) hHeld ?_
        rotate_left 1
        · intro wq hSw
          go_simp
          all_goals with_reducible rfl
        try simp only [Act.put, List.setIfInBounds_toArray, List.set_cons_zero, List.set_cons_succ]
        refine wpAnyH_take (i := 4) (v := ?_) (by first | (simp only [List.getElem?_toArray, List.getElem?_cons_succ, List.getElem?_cons_zero]; done) | (simp only [List.getElem?_toArray, List.getElem?_cons_succ, List.getElem?_cons_zero]; rfl)) (by kernel_rfl) (by kernel_rfl) (by kernel_rfl) (by exact fun _ _ _ h => h) (Or.inl ⟨by rfl, ?_⟩) hHeld ?_
        rotate_left 1
        · intro wq hSw
          obtain ⟨f10, f11⟩ := HFV.out _ hSw
          obtain ⟨f20, f21, f22, f23⟩ := HS1.out _ hSw
          go_simp
          all_goals with_reducible rfl
        try simp only [Act.put, List.setIfInBounds_toArray, List.set_cons_zero, List.set_cons_succ]
        refine wpAnyH_ready (rs := [5]) (by kernel_rfl) (by simp) ?_
        refine AllReadyH.cons (by first | (simp only [List.getElem?_toArray, List.getElem?_cons_succ, List.getElem?_cons_zero]; done) | (simp only [List.getElem?_toArray, List.getElem?_cons_succ, List.getElem?_cons_zero]; rfl)) (fun K hK => ?_) AllReadyH.nil
        go_simp
        go_at_call 51
        with_reducible refine (KX.out _ hHeld).mono ?_
        rintro e v1 ⟨rfl, u1⟩
        have bb := below2 hHeld u1
        go_wp2_with fail
        refine hK.out _ _ ?_ (fun hHeld => ?_)
        · exact bb
        clear hK K
        try simp only [Act.put, List.setIfInBounds_toArray, List.set_cons_zero, List.set_cons_succ]
        refine wpAnyH_take (i := 6) (v := ?_) (by first | (simp only [List.getElem?_toArray, List.getElem?_cons_succ, List.getElem?_cons_zero]; done) | (simp only [List.getElem?_toArray, List.getElem?_cons_succ, List.getElem?_cons_zero]; rfl)) (by kernel_rfl) (by kernel_rfl) (by kernel_rfl) (by exact fun _ _ _ h => h) (Or.inl ⟨by rfl, ?_⟩) hHeld ?_
        rotate_left 1
        · intro wq hSw
          go_simp
          all_goals with_reducible rfl
        try simp only [Act.put, List.setIfInBounds_toArray, List.set_cons_zero, List.set_cons_succ]
        refine wpAnyH_take (i := 7) (v := ?_) (by first | (simp only [List.getElem?_toArray, List.getElem?_cons_succ, List.getElem?_cons_zero]; done) | (simp only [List.getElem?_toArray, List.getElem?_cons_succ, List.getElem?_cons_zero]; rfl)) (by kernel_rfl) (by kernel_rfl) (by kernel_rfl) (by exact fun _ _ _ h => h) (Or.inl ⟨by rfl, ?_⟩) hHeld ?_
        rotate_left 1
        · intro wq hSw
          go_simp
          all_goals with_reducible rfl
        try simp only [Act.put, List.setIfInBounds_toArray, List.set_cons_zero, List.set_cons_succ]
        refine wpAnyH_take (i := 8) (v := undef) (by first | (simp only [List.getElem?_toArray, List.getElem?_cons_succ, List.getElem?_cons_zero]; done) | (simp only [List.getElem?_toArray, List.getElem?_cons_succ, List.getElem?_cons_zero]; rfl)) (by kernel_rfl) (by kernel_rfl) (by kernel_rfl) (by exact fun _ _ _ h => h) (Or.inr ⟨by rfl, rfl⟩) hHeld ?_
        try simp only [Act.put, List.setIfInBounds_toArray, List.set_cons_zero, List.set_cons_succ]
        refine wpAnyH_take (i := 9) (v := undef) (by first | (simp only [List.getElem?_toArray, List.getElem?_cons_succ, List.getElem?_cons_zero]; done) | (simp only [List.getElem?_toArray, List.getElem?_cons_succ, List.getElem?_cons_zero]; rfl)) (by kernel_rfl) (by kernel_rfl) (by kernel_rfl) (by exact fun _ _ _ h => h) (Or.inr ⟨by rfl, rfl⟩) hHeld ?_
        try simp only [Act.put, List.setIfInBounds_toArray, List.set_cons_zero, List.set_cons_succ]
        refine wpAnyH_take (i := 10) (v := undef) (by first | (simp only [List.getElem?_toArray, List.getElem?_cons_succ, List.getElem?_cons_zero]; done) | (simp only [List.getElem?_toArray, List.getElem?_cons_succ, List.getElem?_cons_zero]; rfl)) (by kernel_rfl) (by kernel_rfl) (by kernel_rfl) (by exact fun _ _ _ h => h) (Or.inr ⟨by rfl, rfl⟩) hHeld ?_
        try simp only [Act.put, List.setIfInBounds_toArray, List.set_cons_zero, List.set_cons_succ]
        refine wpAnyH_take (i := 11) (v := undef) (by first | (simp only [List.getElem?_toArray, List.getElem?_cons_succ, List.getElem?_cons_zero]; done) | (simp only [List.getElem?_toArray, List.getElem?_cons_succ, List.getElem?_cons_zero]; rfl)) (by kernel_rfl) (by kernel_rfl) (by kernel_rfl) (by exact fun _ _ _ h => h) (Or.inr ⟨by rfl, rfl⟩) hHeld ?_
        try simp only [Act.put, List.setIfInBounds_toArray, List.set_cons_zero, List.set_cons_succ]
        refine wpAnyH_take (i := 12) (v := undef) (by first | (simp only [List.getElem?_toArray, List.getElem?_cons_succ, List.getElem?_cons_zero]; done) | (simp only [List.getElem?_toArray, List.getElem?_cons_succ, List.getElem?_cons_zero]; rfl)) (by kernel_rfl) (by kernel_rfl) (by kernel_rfl) (by exact fun _ _ _ h => h) (Or.inr ⟨by rfl, rfl⟩) hHeld ?_
        try simp only [Act.put, List.setIfInBounds_toArray, List.set_cons_zero, List.set_cons_succ]
        refine wpAnyH_take (i := 13) (v := undef) (by first | (simp only [List.getElem?_toArray, List.getElem?_cons_succ, List.getElem?_cons_zero]; done) | (simp only [List.getElem?_toArray, List.getElem?_cons_succ, List.getElem?_cons_zero]; rfl)) (by kernel_rfl) (by kernel_rfl) (by kernel_rfl) (by exact fun _ _ _ h => h) (Or.inr ⟨by rfl, rfl⟩) hHeld ?_
        try simp only [Act.put, List.setIfInBounds_toArray, List.set_cons_zero, List.set_cons_succ]
        refine wpAnyH_take (i := 14) (v := undef) (by first | (simp only [List.getElem?_toArray, List.getElem?_cons_succ, List.getElem?_cons_zero]; done) | (simp only [List.getElem?_toArray, List.getElem?_cons_succ, List.getElem?_cons_zero]; rfl)) (by kernel_rfl) (by kernel_rfl) (by kernel_rfl) (by exact fun _ _ _ h => h) (Or.inr ⟨by rfl, rfl⟩) hHeld ?_
        try simp only [Act.put, List.setIfInBounds_toArray, List.set_cons_zero, List.set_cons_succ]
        refine wpAnyH_take (i := 15) (v := undef) (by first | (simp only [List.getElem?_toArray, List.getElem?_cons_succ, List.getElem?_cons_zero]; done) | (simp only [List.getElem?_toArray, List.getElem?_cons_succ, List.getElem?_cons_zero]; rfl)) (by kernel_rfl) (by kernel_rfl) (by kernel_rfl) (by exact fun _ _ _ h => h) (Or.inr ⟨by rfl, rfl⟩) hHeld ?_
        try simp only [Act.put, List.setIfInBounds_toArray, List.set_cons_zero, List.set_cons_succ]
        refine wpAnyH_take (i := 16) (v := undef) (by first | (simp only [List.getElem?_toArray, List.getElem?_cons_succ, List.getElem?_cons_zero]; done) | (simp only [List.getElem?_toArray, List.getElem?_cons_succ, List.getElem?_cons_zero]; rfl)) (by kernel_rfl) (by kernel_rfl) (by kernel_rfl) (by exact fun _ _ _ h => h) (Or.inr ⟨by rfl, rfl⟩) hHeld ?_
        try simp only [Act.put, List.setIfInBounds_toArray, List.set_cons_zero, List.set_cons_succ]
        refine wpAnyH_take (i := 17) (v := undef) (by first | (simp only [List.getElem?_toArray, List.getElem?_cons_succ, List.getElem?_cons_zero]; done) | (simp only [List.getElem?_toArray, List.getElem?_cons_succ, List.getElem?_cons_zero]; rfl)) (by kernel_rfl) (by kernel_rfl) (by kernel_rfl) (by exact fun _ _ _ h => h) (Or.inr ⟨by rfl, rfl⟩) hHeld ?_
        try simp only [Act.put, List.setIfInBounds_toArray, List.set_cons_zero, List.set_cons_succ]
        refine wpAnyH_take (i := 18) (v := undef) (by first | (simp only [List.getElem?_toArray, List.getElem?_cons_succ, List.getElem?_cons_zero]; done) | (simp only [List.getElem?_toArray, List.getElem?_cons_succ, List.getElem?_cons_zero]; rfl)) (by kernel_rfl) (by kernel_rfl) (by kernel_rfl) (by exact fun _ _ _ h => h) (Or.inr ⟨by rfl, rfl⟩) hHeld ?_
        try simp only [Act.put, List.setIfInBounds_toArray, List.set_cons_zero, List.set_cons_succ]
        refine wpAnyH_take (i := 19) (v := undef) (by first | (simp only [List.getElem?_toArray, List.getElem?_cons_succ, List.getElem?_cons_zero]; done) | (simp only [List.getElem?_toArray, List.getElem?_cons_succ, List.getElem?_cons_zero]; rfl)) (by kernel_rfl) (by kernel_rfl) (by kernel_rfl) (by exact fun _ _ _ h => h) (Or.inr ⟨by rfl, rfl⟩) hHeld ?_
        try simp only [Act.put, List.setIfInBounds_toArray, List.set_cons_zero, List.set_cons_succ]
        refine wpAnyH_take (i := 20) (v := undef) (by first | (simp only [List.getElem?_toArray, List.getElem?_cons_succ, List.getElem?_cons_zero]; done) | (simp only [List.getElem?_toArray, List.getElem?_cons_succ, List.getElem?_cons_zero]; rfl)) (by kernel_rfl) (by kernel_rfl) (by kernel_rfl) (by exact fun _ _ _ h => h) (Or.inr ⟨by rfl, rfl⟩) hHeld ?_
        try simp only [Act.put, List.setIfInBounds_toArray, List.set_cons_zero, List.set_cons_succ]
        refine wpAnyH_take (i := 21) (v := undef) (by first | (simp only [List.getElem?_toArray, List.getElem?_cons_succ, List.getElem?_cons_zero]; done) | (simp only [List.getElem?_toArray, List.getElem?_cons_succ, List.getElem?_cons_zero]; rfl)) (by kernel_rfl) (by kernel_rfl) (by kernel_rfl) (by exact fun _ _ _ h => h) (Or.inr ⟨by rfl, rfl⟩) hHeld ?_
        try simp only [Act.put, List.setIfInBounds_toArray, List.set_cons_zero, List.set_cons_succ]
        refine wpAnyH_take (i := 22) (v := undef) (by first | (simp only [List.getElem?_toArray, List.getElem?_cons_succ, List.getElem?_cons_zero]; done) | (simp only [List.getElem?_toArray, List.getElem?_cons_succ, List.getElem?_cons_zero]; rfl)) (by kernel_rfl) (by kernel_rfl) (by kernel_rfl) (by exact fun _ _ _ h => h) (Or.inr ⟨by rfl, rfl⟩) hHeld ?_
        try simp only [Act.put, List.setIfInBounds_toArray, List.set_cons_zero, List.set_cons_succ]
        refine wpAnyH_take (i := 23) (v := ?_) (by first | (simp only [List.getElem?_toArray, List.getElem?_cons_succ, List.getElem?_cons_zero]; done) | (simp only [List.getElem?_toArray, List.getElem?_cons_succ, List.getElem?_cons_zero]; rfl)) (by kernel_rfl) (by kernel_rfl) (by kernel_rfl) (by exact fun _ _ _ h => h) (Or.inl ⟨by rfl, ?_⟩) hHeld ?_
        rotate_left 1
        · intro wq hSw
          go_simp
          all_goals with_reducible rfl
        try simp only [Act.put, List.setIfInBounds_toArray, List.set_cons_zero, List.set_cons_succ]
        refine wpAnyH_done (by kernel_rfl) ?_ _
        go_wp2_with fail
        go_ret
        exact ⟨by rw [hf.out]; rfl, below2 hBw bb⟩
      · rw [hok] at KX
        dsimp only [alrV] at KX
        clear y0 y1 y2 y3
        have HOK := Lib.hid hok
        clear hok
        by_cases hk : k = 0
        · have hz : ¬ 0 < k := by omega
          have hSN := Lib.hid (HSE.out.next HX.out HOK.out fun p h0 => absurd h0 (by omega))
          clear hk
          go_wp2_with fail
          refine wp_region_held_drew (S := (fun wx => Below wr.heap.size wr wx)) (by kernel_rfl) ?_ (fun hHeld => ?_)
          · exact ba.drew
          refine wpAnyH_take (i := 0) (v := ?_) (by first | (simp only [List.getElem?_toArray, List.getElem?_cons_succ, List.getElem?_cons_zero]; done) | (simp only [List.getElem?_toArray, List.getElem?_cons_succ, List.getElem?_cons_zero]; rfl)) (by kernel_rfl) (by kernel_rfl) (by kernel_rfl) (by exact fun _ _ _ h => h) (Or.inl ⟨by rfl, ?_⟩) hHeld ?_
          rotate_left 1
          · intro wq hSw
            obtain ⟨f10, f11⟩ := HFV.out _ hSw
            obtain ⟨f20, f21, f22, f23⟩ := HS1.out _ hSw
            go_simp
            all_goals with_reducible rfl
          try simp only [Act.put, List.setIfInBounds_toArray, List.set_cons_zero, List.set_cons_succ]
          refine wpAnyH_take (i := 1) (v := ?_) (by first | (simp only [List.getElem?_toArray, List.getElem?_cons_succ, List.getElem?_cons_zero]; done) | (simp only [List.getElem?_toArray, List.getElem?_cons_succ, List.getElem?_cons_zero]; rfl)) (by kernel_rfl) (by kernel_rfl) (by kernel_rfl) (by exact fun _ _ _ h => h) (Or.inl ⟨by rfl, ?_⟩) hHeld ?_
          rotate_left 1
          · intro wq hSw
            go_simp
            all_goals with_reducible rfl
          try simp only [Act.put, List.setIfInBounds_toArray, List.set_cons_zero, List.set_cons_succ]
          refine wpAnyH_take (i := 2) (v := ?_) (by first | (simp only [List.getElem?_toArray, List.getElem?_cons_succ, List.getElem?_cons_zero]; done) | (simp only [List.getElem?_toArray, List.getElem?_cons_succ, List.getElem?_cons_zero]; rfl)) (by kernel_rfl) (by kernel_rfl) (by kernel_rfl) (by exact fun _ _ _ h => h) (Or.inl ⟨by rfl, ?_⟩) hHeld ?_
          rotate_left 1
          · intro wq hSw
            go_simp
            all_goals with_reducible rfl
          try simp only [Act.put, List.setIfInBounds_toArray, List.set_cons_zero, List.set_cons_succ]
          refine wpAnyH_take (i := 3) (v := ?_) (by first | (simp only [List.getElem?_toArray, List.getElem?_cons_succ, List.getElem?_cons_zero]; done) | (simp only [List.getElem?_toArray, List.getElem?_cons_succ, List.getElem?_cons_zero]; rfl)) (by kernel_rfl) (by kernel_rfl) (by kernel_rfl) (by exact fun _ _ _ h => h) (Or.inl ⟨by rfl, ?_⟩) hHeld ?_
          rotate_left 1
          · intro wq hSw
            go_simp
            all_goals with_reducible rfl
          try simp only [Act.put, List.setIfInBounds_toArray, List.set_cons_zero, List.set_cons_succ]
          refine wpAnyH_take (i := 4) (v := ?_) (by first | (simp only [List.getElem?_toArray, List.getElem?_cons_succ, List.getElem?_cons_zero]; done) | (simp only [List.getElem?_toArray, List.getElem?_cons_succ, List.getElem?_cons_zero]; rfl)) (by kernel_rfl) (by kernel_rfl) (by kernel_rfl) (by exact fun _ _ _ h => h) (Or.inl ⟨by rfl, ?_⟩) hHeld ?_
          rotate_left 1
          · intro wq hSw
            obtain ⟨f10, f11⟩ := HFV.out _ hSw
            obtain ⟨f20, f21, f22, f23⟩ := HS1.out _ hSw
            go_simp
            all_goals with_reducible rfl
          try simp only [Act.put, List.setIfInBounds_toArray, List.set_cons_zero, List.set_cons_succ]
          refine wpAnyH_ready (rs := [5]) (by kernel_rfl) (by simp) ?_
          refine AllReadyH.cons (by first | (simp only [List.getElem?_toArray, List.getElem?_cons_succ, List.getElem?_cons_zero]; done) | (simp only [List.getElem?_toArray, List.getElem?_cons_succ, List.getElem?_cons_zero]; rfl)) (fun K hK => ?_) AllReadyH.nil
          go_simp
          go_at_call 51
          with_reducible refine (KX.out _ hHeld).mono ?_
          rintro e v1 ⟨rfl, u1⟩
          have bb := below2 hHeld u1
          go_wp2_with fail
          refine hK.out _ _ ?_ (fun hHeld => ?_)
          · exact bb
          clear hK K
          try simp only [Act.put, List.setIfInBounds_toArray, List.set_cons_zero, List.set_cons_succ]
          refine wpAnyH_take (i := 6) (v := ?_) (by first | (simp only [List.getElem?_toArray, List.getElem?_cons_succ, List.getElem?_cons_zero]; done) | (simp only [List.getElem?_toArray, List.getElem?_cons_succ, List.getElem?_cons_zero]; rfl)) (by kernel_rfl) (by kernel_rfl) (by kernel_rfl) (by exact fun _ _ _ h => h) (Or.inl ⟨by rfl, ?_⟩) hHeld ?_
          rotate_left 1
          · intro wq hSw
            go_simp
            all_goals with_reducible rfl
          try simp only [Act.put, List.setIfInBounds_toArray, List.set_cons_zero, List.set_cons_succ]
          refine wpAnyH_take (i := 7) (v := ?_) (by first | (simp only [List.getElem?_toArray, List.getElem?_cons_succ, List.getElem?_cons_zero]; done) | (simp only [List.getElem?_toArray, List.getElem?_cons_succ, List.getElem?_cons_zero]; rfl)) (by kernel_rfl) (by kernel_rfl) (by kernel_rfl) (by exact fun _ _ _ h => h) (Or.inl ⟨by rfl, ?_⟩) hHeld ?_
          rotate_left 1
          · intro wq hSw
            go_simp
            all_goals with_reducible rfl
          try simp only [Act.put, List.setIfInBounds_toArray, List.set_cons_zero, List.set_cons_succ]
          refine wpAnyH_take (i := 8) (v := ?_) (by first | (simp only [List.getElem?_toArray, List.getElem?_cons_succ, List.getElem?_cons_zero]; done) | (simp only [List.getElem?_toArray, List.getElem?_cons_succ, List.getElem?_cons_zero]; rfl)) (by kernel_rfl) (by kernel_rfl) (by kernel_rfl) (by exact fun _ _ _ h => h) (Or.inl ⟨by rfl, ?_⟩) hHeld ?_
          rotate_left 1
          · intro wq hSw
            go_simp
            all_goals with_reducible rfl
          try simp only [Act.put, List.setIfInBounds_toArray, List.set_cons_zero, List.set_cons_succ]
          refine wpAnyH_take (i := 9) (v := ?_) (by first | (simp only [List.getElem?_toArray, List.getElem?_cons_succ, List.getElem?_cons_zero]; done) | (simp only [List.getElem?_toArray, List.getElem?_cons_succ, List.getElem?_cons_zero]; rfl)) (by kernel_rfl) (by kernel_rfl) (by kernel_rfl) (by exact fun _ _ _ h => h) (Or.inl ⟨by rfl, ?_⟩) hHeld ?_
          rotate_left 1
          · intro wq hSw
            go_simp
            all_goals with_reducible rfl
          try simp only [Act.put, List.setIfInBounds_toArray, List.set_cons_zero, List.set_cons_succ]
          refine wpAnyH_take (i := 10) (v := ?_) (by first | (simp only [List.getElem?_toArray, List.getElem?_cons_succ, List.getElem?_cons_zero]; done) | (simp only [List.getElem?_toArray, List.getElem?_cons_succ, List.getElem?_cons_zero]; rfl)) (by kernel_rfl) (by kernel_rfl) (by kernel_rfl) (by exact fun _ _ _ h => h) (Or.inl ⟨by rfl, ?_⟩) hHeld ?_
          rotate_left 1
          · intro wq hSw
            go_simp
            all_goals with_reducible rfl
          try simp only [Act.put, List.setIfInBounds_toArray, List.set_cons_zero, List.set_cons_succ]
          refine wpAnyH_take (i := 11) (v := undef) (by first | (simp only [List.getElem?_toArray, List.getElem?_cons_succ, List.getElem?_cons_zero]; done) | (simp only [List.getElem?_toArray, List.getElem?_cons_succ, List.getElem?_cons_zero]; rfl)) (by kernel_rfl) (by kernel_rfl) (by kernel_rfl) (by exact fun _ _ _ h => h) (Or.inr ⟨by rfl, rfl⟩) hHeld ?_
          try simp only [Act.put, List.setIfInBounds_toArray, List.set_cons_zero, List.set_cons_succ]
          refine wpAnyH_take (i := 12) (v := undef) (by first | (simp only [List.getElem?_toArray, List.getElem?_cons_succ, List.getElem?_cons_zero]; done) | (simp only [List.getElem?_toArray, List.getElem?_cons_succ, List.getElem?_cons_zero]; rfl)) (by kernel_rfl) (by kernel_rfl) (by kernel_rfl) (by exact fun _ _ _ h => h) (Or.inr ⟨by rfl, rfl⟩) hHeld ?_
          try simp only [Act.put, List.setIfInBounds_toArray, List.set_cons_zero, List.set_cons_succ]
          refine wpAnyH_take (i := 13) (v := undef) (by first | (simp only [List.getElem?_toArray, List.getElem?_cons_succ, List.getElem?_cons_zero]; done) | (simp only [List.getElem?_toArray, List.getElem?_cons_succ, List.getElem?_cons_zero]; rfl)) (by kernel_rfl) (by kernel_rfl) (by kernel_rfl) (by exact fun _ _ _ h => h) (Or.inr ⟨by rfl, rfl⟩) hHeld ?_
          try simp only [Act.put, List.setIfInBounds_toArray, List.set_cons_zero, List.set_cons_succ]
          refine wpAnyH_take (i := 14) (v := undef) (by first | (simp only [List.getElem?_toArray, List.getElem?_cons_succ, List.getElem?_cons_zero]; done) | (simp only [List.getElem?_toArray, List.getElem?_cons_succ, List.getElem?_cons_zero]; rfl)) (by kernel_rfl) (by kernel_rfl) (by kernel_rfl) (by exact fun _ _ _ h => h) (Or.inr ⟨by rfl, rfl⟩) hHeld ?_
          try simp only [Act.put, List.setIfInBounds_toArray, List.set_cons_zero, List.set_cons_succ]
          refine wpAnyH_take (i := 15) (v := undef) (by first | (simp only [List.getElem?_toArray, List.getElem?_cons_succ, List.getElem?_cons_zero]; done) | (simp only [List.getElem?_toArray, List.getElem?_cons_succ, List.getElem?_cons_zero]; rfl)) (by kernel_rfl) (by kernel_rfl) (by kernel_rfl) (by exact fun _ _ _ h => h) (Or.inr ⟨by rfl, rfl⟩) hHeld ?_
          try simp only [Act.put, List.setIfInBounds_toArray, List.set_cons_zero, List.set_cons_succ]
          refine wpAnyH_take (i := 16) (v := undef) (by first | (simp only [List.getElem?_toArray, List.getElem?_cons_succ, List.getElem?_cons_zero]; done) | (simp only [List.getElem?_toArray, List.getElem?_cons_succ, List.getElem?_cons_zero]; rfl)) (by kernel_rfl) (by kernel_rfl) (by kernel_rfl) (by exact fun _ _ _ h => h) (Or.inr ⟨by rfl, rfl⟩) hHeld ?_
          try simp only [Act.put, List.setIfInBounds_toArray, List.set_cons_zero, List.set_cons_succ]
          refine wpAnyH_take (i := 17) (v := undef) (by first | (simp only [List.getElem?_toArray, List.getElem?_cons_succ, List.getElem?_cons_zero]; done) | (simp only [List.getElem?_toArray, List.getElem?_cons_succ, List.getElem?_cons_zero]; rfl)) (by kernel_rfl) (by kernel_rfl) (by kernel_rfl) (by exact fun _ _ _ h => h) (Or.inr ⟨by rfl, rfl⟩) hHeld ?_
          try simp only [Act.put, List.setIfInBounds_toArray, List.set_cons_zero, List.set_cons_succ]
          refine wpAnyH_take (i := 18) (v := undef) (by first | (simp only [List.getElem?_toArray, List.getElem?_cons_succ, List.getElem?_cons_zero]; done) | (simp only [List.getElem?_toArray, List.getElem?_cons_succ, List.getElem?_cons_zero]; rfl)) (by kernel_rfl) (by kernel_rfl) (by kernel_rfl) (by exact fun _ _ _ h => h) (Or.inr ⟨by rfl, rfl⟩) hHeld ?_
          try simp only [Act.put, List.setIfInBounds_toArray, List.set_cons_zero, List.set_cons_succ]
          refine wpAnyH_take (i := 19) (v := undef) (by first | (simp only [List.getElem?_toArray, List.getElem?_cons_succ, List.getElem?_cons_zero]; done) | (simp only [List.getElem?_toArray, List.getElem?_cons_succ, List.getElem?_cons_zero]; rfl)) (by kernel_rfl) (by kernel_rfl) (by kernel_rfl) (by exact fun _ _ _ h => h) (Or.inr ⟨by rfl, rfl⟩) hHeld ?_
          try simp only [Act.put, List.setIfInBounds_toArray, List.set_cons_zero, List.set_cons_succ]
          refine wpAnyH_take (i := 20) (v := undef) (by first | (simp only [List.getElem?_toArray, List.getElem?_cons_succ, List.getElem?_cons_zero]; done) | (simp only [List.getElem?_toArray, List.getElem?_cons_succ, List.getElem?_cons_zero]; rfl)) (by kernel_rfl) (by kernel_rfl) (by kernel_rfl) (by exact fun _ _ _ h => h) (Or.inr ⟨by rfl, rfl⟩) hHeld ?_
          try simp only [Act.put, List.setIfInBounds_toArray, List.set_cons_zero, List.set_cons_succ]
          refine wpAnyH_take (i := 21) (v := undef) (by first | (simp only [List.getElem?_toArray, List.getElem?_cons_succ, List.getElem?_cons_zero]; done) | (simp only [List.getElem?_toArray, List.getElem?_cons_succ, List.getElem?_cons_zero]; rfl)) (by kernel_rfl) (by kernel_rfl) (by kernel_rfl) (by exact fun _ _ _ h => h) (Or.inr ⟨by rfl, rfl⟩) hHeld ?_
          try simp only [Act.put, List.setIfInBounds_toArray, List.set_cons_zero, List.set_cons_succ]
          refine wpAnyH_take (i := 22) (v := ?_) (by first | (simp only [List.getElem?_toArray, List.getElem?_cons_succ, List.getElem?_cons_zero]; done) | (simp only [List.getElem?_toArray, List.getElem?_cons_succ, List.getElem?_cons_zero]; rfl)) (by kernel_rfl) (by kernel_rfl) (by kernel_rfl) (by exact fun _ _ _ h => h) (Or.inl ⟨by rfl, ?_⟩) hHeld ?_
          rotate_left 1
          · intro wq hSw
            go_simp
            all_goals with_reducible rfl
          try simp only [Act.put, List.setIfInBounds_toArray, List.set_cons_zero, List.set_cons_succ]
          refine wpAnyH_take (i := 23) (v := ?_) (by first | (simp only [List.getElem?_toArray, List.getElem?_cons_succ, List.getElem?_cons_zero]; done) | (simp only [List.getElem?_toArray, List.getElem?_cons_succ, List.getElem?_cons_zero]; rfl)) (by kernel_rfl) (by kernel_rfl) (by kernel_rfl) (by exact fun _ _ _ h => h) (Or.inl ⟨by rfl, ?_⟩) hHeld ?_
          rotate_left 1
          · intro wq hSw
            go_simp
            all_goals with_reducible rfl
          try simp only [Act.put, List.setIfInBounds_toArray, List.set_cons_zero, List.set_cons_succ]
          refine wpAnyH_done (by kernel_rfl) ?_ _
          go_wp2_with fail
          go_roundg gk
          case measure => omega
          case rel => exact ⟨k + 1, by omega, by go_num, Lib.hid (HBW.out.trans (hHeld.mono HBW.out.size)), hSN⟩
        · obtain ⟨j, hj⟩ : ∃ j, k = j + 1 := ⟨k - 1, by omega⟩
          have hz : 0 < k := by omega
          have wk : IntKind.i64.wrap ((k : Int) - 1) = (j : Int) := by rw [IntWalk.i64_in _ (by omega)]; omega
          have hj0 : ¬ (j : Int) < 0 := by omega
          have hjn : (j : Int) < (ns : Int) := by omega
          obtain ⟨p, hp⟩ : ∃ p, s[j]? = some p := ⟨_, List.getElem?_eq_getElem (by have := HNS.out; omega)⟩
          obtain ⟨ad2, had2, hadb2, hbk2, y0, y1, y2, y3⟩ := alr_at (HR.out wr hBw) hp
          cases had2
          have HF4 := Lib.hid (fun (j2 : Nat) (u : Value) W (hW : Below wr.heap.size wr W) (hc : wr.cell? ⟨(ad.add (j * 4)).block, (ad.add (j * 4)).off + j2, none⟩ = some u) => (hW.cell (p := ⟨(ad.add (j * 4)).block, (ad.add (j * 4)).off + j2, none⟩) (by show (ad.add (j * 4)).block < _; rw [hbk2]; omega)).trans hc)
          have HF0 := Lib.hid (fun W (hW : Below wr.heap.size wr W) => (hW.cell (p := ad.add (j * 4)) (by rw [hbk2]; omega)).trans y0)
          have HP1 := Lib.hid (fun W (hW : Below wr.heap.size wr W) => And.intro (HF0.out W hW) (And.intro (HF4.out 1 _ W hW y1) (And.intro (HF4.out 2 _ W hW y2) (HF4.out 3 _ W hW y3))))
          have KL := Lib.hid (fun W => refLess_any p x W)
          have HP := Lib.hid hp
          have HJ := Lib.hid hj
          clear hk hj hp hadb2 hbk2 y0 y1 y2 y3 HF4 HF0
          dsimp only [alrV] at KL
          cases hle : lessA p x
          · rw [hle] at KL
            have hf := Lib.hid (show t = false by
              rw [HT.out, ← Bool.not_eq_true]
              intro h
              have := (okS_at h HX.out).2 p (by have := HJ.out; omega) (by rw [HJ.out]; simpa using HP.out)
              rw [hle] at this; cases this)
            clear hle
            go_wp2_with fail
            refine wp_region_held_drew (S := (fun wx => Below wr.heap.size wr wx)) (by kernel_rfl) ?_ (fun hHeld => ?_)
            · exact ba.drew
            refine wpAnyH_take (i := 0) (v := ?_) (by first | (simp only [List.getElem?_toArray, List.getElem?_cons_succ, List.getElem?_cons_zero]; done) | (simp only [List.getElem?_toArray, List.getElem?_cons_succ, List.getElem?_cons_zero]; rfl)) (by kernel_rfl) (by kernel_rfl) (by kernel_rfl) (by exact fun _ _ _ h => h) (Or.inl ⟨by rfl, ?_⟩) hHeld ?_
            rotate_left 1
            · intro wq hSw
              obtain ⟨f10, f11⟩ := HFV.out _ hSw
              obtain ⟨f20, f21, f22, f23⟩ := HS1.out _ hSw
              go_simp
              all_goals with_reducible rfl
            try simp only [Act.put, List.setIfInBounds_toArray, List.set_cons_zero, List.set_cons_succ]
            refine wpAnyH_take (i := 1) (v := ?_) (by first | (simp only [List.getElem?_toArray, List.getElem?_cons_succ, List.getElem?_cons_zero]; done) | (simp only [List.getElem?_toArray, List.getElem?_cons_succ, List.getElem?_cons_zero]; rfl)) (by kernel_rfl) (by kernel_rfl) (by kernel_rfl) (by exact fun _ _ _ h => h) (Or.inl ⟨by rfl, ?_⟩) hHeld ?_
            rotate_left 1
            · intro wq hSw
              go_simp
              all_goals with_reducible rfl
            try simp only [Act.put, List.setIfInBounds_toArray, List.set_cons_zero, List.set_cons_succ]
            refine wpAnyH_take (i := 2) (v := ?_) (by first | (simp only [List.getElem?_toArray, List.getElem?_cons_succ, List.getElem?_cons_zero]; done) | (simp only [List.getElem?_toArray, List.getElem?_cons_succ, List.getElem?_cons_zero]; rfl)) (by kernel_rfl) (by kernel_rfl) (by kernel_rfl) (by exact fun _ _ _ h => h) (Or.inl ⟨by rfl, ?_⟩) hHeld ?_
            rotate_left 1
            · intro wq hSw
              go_simp
              all_goals with_reducible rfl
            try simp only [Act.put, List.setIfInBounds_toArray, List.set_cons_zero, List.set_cons_succ]
            refine wpAnyH_take (i := 3) (v := ?_) (by first | (simp only [List.getElem?_toArray, List.getElem?_cons_succ, List.getElem?_cons_zero]; done) | (simp only [List.getElem?_toArray, List.getElem?_cons_succ, List.getElem?_cons_zero]; rfl)) (by kernel_rfl) (by kernel_rfl) (by kernel_rfl) (by exact fun _ _ _ h => h) (Or.inl ⟨by rfl, ?_⟩) hHeld ?_
            rotate_left 1
            · intro wq hSw
              go_simp
              all_goals with_reducible rfl
            try simp only [Act.put, List.setIfInBounds_toArray, List.set_cons_zero, List.set_cons_succ]
            refine wpAnyH_take (i := 4) (v := ?_) (by first | (simp only [List.getElem?_toArray, List.getElem?_cons_succ, List.getElem?_cons_zero]; done) | (simp only [List.getElem?_toArray, List.getElem?_cons_succ, List.getElem?_cons_zero]; rfl)) (by kernel_rfl) (by kernel_rfl) (by kernel_rfl) (by exact fun _ _ _ h => h) (Or.inl ⟨by rfl, ?_⟩) hHeld ?_
            rotate_left 1
            · intro wq hSw
              obtain ⟨f10, f11⟩ := HFV.out _ hSw
              obtain ⟨f20, f21, f22, f23⟩ := HS1.out _ hSw
              go_simp
              all_goals with_reducible rfl
            try simp only [Act.put, List.setIfInBounds_toArray, List.set_cons_zero, List.set_cons_succ]
            refine wpAnyH_ready (rs := [5]) (by kernel_rfl) (by simp) ?_
            refine AllReadyH.cons (by first | (simp only [List.getElem?_toArray, List.getElem?_cons_succ, List.getElem?_cons_zero]; done) | (simp only [List.getElem?_toArray, List.getElem?_cons_succ, List.getElem?_cons_zero]; rfl)) (fun K hK => ?_) AllReadyH.nil
            go_simp
            go_at_call 51
            with_reducible refine (KX.out _ hHeld).mono ?_
            rintro e v1 ⟨rfl, u1⟩
            have bb := below2 hHeld u1
            go_wp2_with fail
            refine hK.out _ _ ?_ (fun hHeld => ?_)
            · exact bb
            clear hK K
            try simp only [Act.put, List.setIfInBounds_toArray, List.set_cons_zero, List.set_cons_succ]
            refine wpAnyH_take (i := 6) (v := ?_) (by first | (simp only [List.getElem?_toArray, List.getElem?_cons_succ, List.getElem?_cons_zero]; done) | (simp only [List.getElem?_toArray, List.getElem?_cons_succ, List.getElem?_cons_zero]; rfl)) (by kernel_rfl) (by kernel_rfl) (by kernel_rfl) (by exact fun _ _ _ h => h) (Or.inl ⟨by rfl, ?_⟩) hHeld ?_
            rotate_left 1
            · intro wq hSw
              go_simp
              all_goals with_reducible rfl
            try simp only [Act.put, List.setIfInBounds_toArray, List.set_cons_zero, List.set_cons_succ]
            refine wpAnyH_take (i := 7) (v := ?_) (by first | (simp only [List.getElem?_toArray, List.getElem?_cons_succ, List.getElem?_cons_zero]; done) | (simp only [List.getElem?_toArray, List.getElem?_cons_succ, List.getElem?_cons_zero]; rfl)) (by kernel_rfl) (by kernel_rfl) (by kernel_rfl) (by exact fun _ _ _ h => h) (Or.inl ⟨by rfl, ?_⟩) hHeld ?_
            rotate_left 1
            · intro wq hSw
              go_simp
              all_goals with_reducible rfl
            try simp only [Act.put, List.setIfInBounds_toArray, List.set_cons_zero, List.set_cons_succ]
            refine wpAnyH_take (i := 8) (v := ?_) (by first | (simp only [List.getElem?_toArray, List.getElem?_cons_succ, List.getElem?_cons_zero]; done) | (simp only [List.getElem?_toArray, List.getElem?_cons_succ, List.getElem?_cons_zero]; rfl)) (by kernel_rfl) (by kernel_rfl) (by kernel_rfl) (by exact fun _ _ _ h => h) (Or.inl ⟨by rfl, ?_⟩) hHeld ?_
            rotate_left 1
            · intro wq hSw
              go_simp
              all_goals with_reducible rfl
            try simp only [Act.put, List.setIfInBounds_toArray, List.set_cons_zero, List.set_cons_succ]
            refine wpAnyH_take (i := 9) (v := ?_) (by first | (simp only [List.getElem?_toArray, List.getElem?_cons_succ, List.getElem?_cons_zero]; done) | (simp only [List.getElem?_toArray, List.getElem?_cons_succ, List.getElem?_cons_zero]; rfl)) (by kernel_rfl) (by kernel_rfl) (by kernel_rfl) (by exact fun _ _ _ h => h) (Or.inl ⟨by rfl, ?_⟩) hHeld ?_
            rotate_left 1
            · intro wq hSw
              go_simp
              all_goals with_reducible rfl
            try simp only [Act.put, List.setIfInBounds_toArray, List.set_cons_zero, List.set_cons_succ]
            refine wpAnyH_take (i := 10) (v := ?_) (by first | (simp only [List.getElem?_toArray, List.getElem?_cons_succ, List.getElem?_cons_zero]; done) | (simp only [List.getElem?_toArray, List.getElem?_cons_succ, List.getElem?_cons_zero]; rfl)) (by kernel_rfl) (by kernel_rfl) (by kernel_rfl) (by exact fun _ _ _ h => h) (Or.inl ⟨by rfl, ?_⟩) hHeld ?_
            rotate_left 1
            · intro wq hSw
              go_simp
              all_goals with_reducible rfl
            try simp only [Act.put, List.setIfInBounds_toArray, List.set_cons_zero, List.set_cons_succ]
            refine wpAnyH_take (i := 11) (v := ?_) (by first | (simp only [List.getElem?_toArray, List.getElem?_cons_succ, List.getElem?_cons_zero]; done) | (simp only [List.getElem?_toArray, List.getElem?_cons_succ, List.getElem?_cons_zero]; rfl)) (by kernel_rfl) (by kernel_rfl) (by kernel_rfl) (by exact fun _ _ _ h => h) (Or.inl ⟨by rfl, ?_⟩) hHeld ?_
            rotate_left 1
            · intro wq hSw
              go_simp
              all_goals with_reducible rfl
            try simp only [Act.put, List.setIfInBounds_toArray, List.set_cons_zero, List.set_cons_succ]
            refine wpAnyH_take (i := 12) (v := ?_) (by first | (simp only [List.getElem?_toArray, List.getElem?_cons_succ, List.getElem?_cons_zero]; done) | (simp only [List.getElem?_toArray, List.getElem?_cons_succ, List.getElem?_cons_zero]; rfl)) (by kernel_rfl) (by kernel_rfl) (by kernel_rfl) (by exact fun _ _ _ h => h) (Or.inl ⟨by rfl, ?_⟩) hHeld ?_
            rotate_left 1
            · intro wq hSw
              go_simp
              all_goals with_reducible rfl
            try simp only [Act.put, List.setIfInBounds_toArray, List.set_cons_zero, List.set_cons_succ]
            refine wpAnyH_take (i := 13) (v := ?_) (by first | (simp only [List.getElem?_toArray, List.getElem?_cons_succ, List.getElem?_cons_zero]; done) | (simp only [List.getElem?_toArray, List.getElem?_cons_succ, List.getElem?_cons_zero]; rfl)) (by kernel_rfl) (by kernel_rfl) (by kernel_rfl) (by exact fun _ _ _ h => h) (Or.inl ⟨by rfl, ?_⟩) hHeld ?_
            rotate_left 1
            · intro wq hSw
              go_simp
              all_goals with_reducible rfl
            try simp only [Act.put, List.setIfInBounds_toArray, List.set_cons_zero, List.set_cons_succ]
            refine wpAnyH_take (i := 14) (v := ?_) (by first | (simp only [List.getElem?_toArray, List.getElem?_cons_succ, List.getElem?_cons_zero]; done) | (simp only [List.getElem?_toArray, List.getElem?_cons_succ, List.getElem?_cons_zero]; rfl)) (by kernel_rfl) (by kernel_rfl) (by kernel_rfl) (by exact fun _ _ _ h => h) (Or.inl ⟨by rfl, ?_⟩) hHeld ?_
            rotate_left 1
            · intro wq hSw
              go_simp
              all_goals with_reducible rfl
            try simp only [Act.put, List.setIfInBounds_toArray, List.set_cons_zero, List.set_cons_succ]
            refine wpAnyH_take (i := 15) (v := ?_) (by first | (simp only [List.getElem?_toArray, List.getElem?_cons_succ, List.getElem?_cons_zero]; done) | (simp only [List.getElem?_toArray, List.getElem?_cons_succ, List.getElem?_cons_zero]; rfl)) (by kernel_rfl) (by kernel_rfl) (by kernel_rfl) (by exact fun _ _ _ h => h) (Or.inl ⟨by rfl, ?_⟩) hHeld ?_
            rotate_left 1
            · intro wq hSw
              obtain ⟨g20, g21, g22, g23⟩ := HP1.out _ hSw
              go_simp
              all_goals with_reducible rfl
            try simp only [Act.put, List.setIfInBounds_toArray, List.set_cons_zero, List.set_cons_succ]
            refine wpAnyH_take (i := 16) (v := ?_) (by first | (simp only [List.getElem?_toArray, List.getElem?_cons_succ, List.getElem?_cons_zero]; done) | (simp only [List.getElem?_toArray, List.getElem?_cons_succ, List.getElem?_cons_zero]; rfl)) (by kernel_rfl) (by kernel_rfl) (by kernel_rfl) (by exact fun _ _ _ h => h) (Or.inl ⟨by rfl, ?_⟩) hHeld ?_
            rotate_left 1
            · intro wq hSw
              go_simp
              all_goals with_reducible rfl
            try simp only [Act.put, List.setIfInBounds_toArray, List.set_cons_zero, List.set_cons_succ]
            refine wpAnyH_take (i := 17) (v := ?_) (by first | (simp only [List.getElem?_toArray, List.getElem?_cons_succ, List.getElem?_cons_zero]; done) | (simp only [List.getElem?_toArray, List.getElem?_cons_succ, List.getElem?_cons_zero]; rfl)) (by kernel_rfl) (by kernel_rfl) (by kernel_rfl) (by exact fun _ _ _ h => h) (Or.inl ⟨by rfl, ?_⟩) hHeld ?_
            rotate_left 1
            · intro wq hSw
              go_simp
              all_goals with_reducible rfl
            try simp only [Act.put, List.setIfInBounds_toArray, List.set_cons_zero, List.set_cons_succ]
            refine wpAnyH_take (i := 18) (v := ?_) (by first | (simp only [List.getElem?_toArray, List.getElem?_cons_succ, List.getElem?_cons_zero]; done) | (simp only [List.getElem?_toArray, List.getElem?_cons_succ, List.getElem?_cons_zero]; rfl)) (by kernel_rfl) (by kernel_rfl) (by kernel_rfl) (by exact fun _ _ _ h => h) (Or.inl ⟨by rfl, ?_⟩) hHeld ?_
            rotate_left 1
            · intro wq hSw
              go_simp
              all_goals with_reducible rfl
            try simp only [Act.put, List.setIfInBounds_toArray, List.set_cons_zero, List.set_cons_succ]
            refine wpAnyH_take (i := 19) (v := ?_) (by first | (simp only [List.getElem?_toArray, List.getElem?_cons_succ, List.getElem?_cons_zero]; done) | (simp only [List.getElem?_toArray, List.getElem?_cons_succ, List.getElem?_cons_zero]; rfl)) (by kernel_rfl) (by kernel_rfl) (by kernel_rfl) (by exact fun _ _ _ h => h) (Or.inl ⟨by rfl, ?_⟩) hHeld ?_
            rotate_left 1
            · intro wq hSw
              obtain ⟨f10, f11⟩ := HFV.out _ hSw
              obtain ⟨f20, f21, f22, f23⟩ := HS1.out _ hSw
              go_simp
              all_goals with_reducible rfl
            try simp only [Act.put, List.setIfInBounds_toArray, List.set_cons_zero, List.set_cons_succ]
            refine wpAnyH_ready (rs := [20]) (by kernel_rfl) (by simp) ?_
            refine AllReadyH.cons (by first | (simp only [List.getElem?_toArray, List.getElem?_cons_succ, List.getElem?_cons_zero]; done) | (simp only [List.getElem?_toArray, List.getElem?_cons_succ, List.getElem?_cons_zero]; rfl)) (fun K hK => ?_) AllReadyH.nil
            go_simp
            go_at_call 44
            with_reducible refine (KL.out _).mono ?_
            rintro e v2 ⟨rfl, u2⟩
            have bc := below2 hHeld u2
            go_wp2_with fail
            refine hK.out _ _ ?_ (fun hHeld => ?_)
            · exact bc
            clear hK K
            try simp only [Act.put, List.setIfInBounds_toArray, List.set_cons_zero, List.set_cons_succ]
            refine wpAnyH_take (i := 21) (v := ?_) (by first | (simp only [List.getElem?_toArray, List.getElem?_cons_succ, List.getElem?_cons_zero]; done) | (simp only [List.getElem?_toArray, List.getElem?_cons_succ, List.getElem?_cons_zero]; rfl)) (by kernel_rfl) (by kernel_rfl) (by kernel_rfl) (by exact fun _ _ _ h => h) (Or.inl ⟨by rfl, ?_⟩) hHeld ?_
            rotate_left 1
            · intro wq hSw
              go_simp
              all_goals with_reducible rfl
            try simp only [Act.put, List.setIfInBounds_toArray, List.set_cons_zero, List.set_cons_succ]
            refine wpAnyH_take (i := 22) (v := ?_) (by first | (simp only [List.getElem?_toArray, List.getElem?_cons_succ, List.getElem?_cons_zero]; done) | (simp only [List.getElem?_toArray, List.getElem?_cons_succ, List.getElem?_cons_zero]; rfl)) (by kernel_rfl) (by kernel_rfl) (by kernel_rfl) (by exact fun _ _ _ h => h) (Or.inl ⟨by rfl, ?_⟩) hHeld ?_
            rotate_left 1
            · intro wq hSw
              go_simp
              all_goals with_reducible rfl
            try simp only [Act.put, List.setIfInBounds_toArray, List.set_cons_zero, List.set_cons_succ]
            refine wpAnyH_take (i := 23) (v := ?_) (by first | (simp only [List.getElem?_toArray, List.getElem?_cons_succ, List.getElem?_cons_zero]; done) | (simp only [List.getElem?_toArray, List.getElem?_cons_succ, List.getElem?_cons_zero]; rfl)) (by kernel_rfl) (by kernel_rfl) (by kernel_rfl) (by exact fun _ _ _ h => h) (Or.inl ⟨by rfl, ?_⟩) hHeld ?_
            rotate_left 1
            · intro wq hSw
              go_simp
              all_goals with_reducible rfl
            try simp only [Act.put, List.setIfInBounds_toArray, List.set_cons_zero, List.set_cons_succ]
            refine wpAnyH_done (by kernel_rfl) ?_ _
            go_wp2_with fail
            go_ret
            exact ⟨by rw [hf.out]; rfl, below2 hBw hHeld⟩
          · rw [hle] at KL
            have hSN := Lib.hid (HSE.out.next HX.out HOK.out fun q _ hq => by
              rw [HJ.out, Nat.add_sub_cancel, HP.out] at hq
              cases hq
              exact hle)
            clear hle
            go_wp2_with fail
            refine wp_region_held_drew (S := (fun wx => Below wr.heap.size wr wx)) (by kernel_rfl) ?_ (fun hHeld => ?_)
            · exact ba.drew
            refine wpAnyH_take (i := 0) (v := ?_) (by first | (simp only [List.getElem?_toArray, List.getElem?_cons_succ, List.getElem?_cons_zero]; done) | (simp only [List.getElem?_toArray, List.getElem?_cons_succ, List.getElem?_cons_zero]; rfl)) (by kernel_rfl) (by kernel_rfl) (by kernel_rfl) (by exact fun _ _ _ h => h) (Or.inl ⟨by rfl, ?_⟩) hHeld ?_
            rotate_left 1
            · intro wq hSw
              obtain ⟨f10, f11⟩ := HFV.out _ hSw
              obtain ⟨f20, f21, f22, f23⟩ := HS1.out _ hSw
              go_simp
              all_goals with_reducible rfl
            try simp only [Act.put, List.setIfInBounds_toArray, List.set_cons_zero, List.set_cons_succ]
            refine wpAnyH_take (i := 1) (v := ?_) (by first | (simp only [List.getElem?_toArray, List.getElem?_cons_succ, List.getElem?_cons_zero]; done) | (simp only [List.getElem?_toArray, List.getElem?_cons_succ, List.getElem?_cons_zero]; rfl)) (by kernel_rfl) (by kernel_rfl) (by kernel_rfl) (by exact fun _ _ _ h => h) (Or.inl ⟨by rfl, ?_⟩) hHeld ?_
            rotate_left 1
            · intro wq hSw
              go_simp
              all_goals with_reducible rfl
            try simp only [Act.put, List.setIfInBounds_toArray, List.set_cons_zero, List.set_cons_succ]
            refine wpAnyH_take (i := 2) (v := ?_) (by first | (simp only [List.getElem?_toArray, List.getElem?_cons_succ, List.getElem?_cons_zero]; done) | (simp only [List.getElem?_toArray, List.getElem?_cons_succ, List.getElem?_cons_zero]; rfl)) (by kernel_rfl) (by kernel_rfl) (by kernel_rfl) (by exact fun _ _ _ h => h) (Or.inl ⟨by rfl, ?_⟩) hHeld ?_
            rotate_left 1
            · intro wq hSw
              go_simp
              all_goals with_reducible rfl
            try simp only [Act.put, List.setIfInBounds_toArray, List.set_cons_zero, List.set_cons_succ]
            refine wpAnyH_take (i := 3) (v := ?_) (by first | (simp only [List.getElem?_toArray, List.getElem?_cons_succ, List.getElem?_cons_zero]; done) | (simp only [List.getElem?_toArray, List.getElem?_cons_succ, List.getElem?_cons_zero]; rfl)) (by kernel_rfl) (by kernel_rfl) (by kernel_rfl) (by exact fun _ _ _ h => h) (Or.inl ⟨by rfl, ?_⟩) hHeld ?_
            rotate_left 1
            · intro wq hSw
              go_simp
              all_goals with_reducible rfl
            try simp only [Act.put, List.setIfInBounds_toArray, List.set_cons_zero, List.set_cons_succ]
            refine wpAnyH_take (i := 4) (v := ?_) (by first | (simp only [List.getElem?_toArray, List.getElem?_cons_succ, List.getElem?_cons_zero]; done) | (simp only [List.getElem?_toArray, List.getElem?_cons_succ, List.getElem?_cons_zero]; rfl)) (by kernel_rfl) (by kernel_rfl) (by kernel_rfl) (by exact fun _ _ _ h => h) (Or.inl ⟨by rfl, ?_⟩) hHeld ?_
            rotate_left 1
            · intro wq hSw
              obtain ⟨f10, f11⟩ := HFV.out _ hSw
              obtain ⟨f20, f21, f22, f23⟩ := HS1.out _ hSw
              go_simp
              all_goals with_reducible rfl
            try simp only [Act.put, List.setIfInBounds_toArray, List.set_cons_zero, List.set_cons_succ]
            refine wpAnyH_ready (rs := [5]) (by kernel_rfl) (by simp) ?_
            refine AllReadyH.cons (by first | (simp only [List.getElem?_toArray, List.getElem?_cons_succ, List.getElem?_cons_zero]; done) | (simp only [List.getElem?_toArray, List.getElem?_cons_succ, List.getElem?_cons_zero]; rfl)) (fun K hK => ?_) AllReadyH.nil
            go_simp
            go_at_call 51
            with_reducible refine (KX.out _ hHeld).mono ?_
            rintro e v1 ⟨rfl, u1⟩
            have bb := below2 hHeld u1
            go_wp2_with fail
            refine hK.out _ _ ?_ (fun hHeld => ?_)
            · exact bb
            clear hK K
            try simp only [Act.put, List.setIfInBounds_toArray, List.set_cons_zero, List.set_cons_succ]
            refine wpAnyH_take (i := 6) (v := ?_) (by first | (simp only [List.getElem?_toArray, List.getElem?_cons_succ, List.getElem?_cons_zero]; done) | (simp only [List.getElem?_toArray, List.getElem?_cons_succ, List.getElem?_cons_zero]; rfl)) (by kernel_rfl) (by kernel_rfl) (by kernel_rfl) (by exact fun _ _ _ h => h) (Or.inl ⟨by rfl, ?_⟩) hHeld ?_
            rotate_left 1
            · intro wq hSw
              go_simp
              all_goals with_reducible rfl
            try simp only [Act.put, List.setIfInBounds_toArray, List.set_cons_zero, List.set_cons_succ]
            refine wpAnyH_take (i := 7) (v := ?_) (by first | (simp only [List.getElem?_toArray, List.getElem?_cons_succ, List.getElem?_cons_zero]; done) | (simp only [List.getElem?_toArray, List.getElem?_cons_succ, List.getElem?_cons_zero]; rfl)) (by kernel_rfl) (by kernel_rfl) (by kernel_rfl) (by exact fun _ _ _ h => h) (Or.inl ⟨by rfl, ?_⟩) hHeld ?_
            rotate_left 1
            · intro wq hSw
              go_simp
              all_goals with_reducible rfl
            try simp only [Act.put, List.setIfInBounds_toArray, List.set_cons_zero, List.set_cons_succ]
            refine wpAnyH_take (i := 8) (v := ?_) (by first | (simp only [List.getElem?_toArray, List.getElem?_cons_succ, List.getElem?_cons_zero]; done) | (simp only [List.getElem?_toArray, List.getElem?_cons_succ, List.getElem?_cons_zero]; rfl)) (by kernel_rfl) (by kernel_rfl) (by kernel_rfl) (by exact fun _ _ _ h => h) (Or.inl ⟨by rfl, ?_⟩) hHeld ?_
            rotate_left 1
            · intro wq hSw
              go_simp
              all_goals with_reducible rfl
            try simp only [Act.put, List.setIfInBounds_toArray, List.set_cons_zero, List.set_cons_succ]
            refine wpAnyH_take (i := 9) (v := ?_) (by first | (simp only [List.getElem?_toArray, List.getElem?_cons_succ, List.getElem?_cons_zero]; done) | (simp only [List.getElem?_toArray, List.getElem?_cons_succ, List.getElem?_cons_zero]; rfl)) (by kernel_rfl) (by kernel_rfl) (by kernel_rfl) (by exact fun _ _ _ h => h) (Or.inl ⟨by rfl, ?_⟩) hHeld ?_
            rotate_left 1
            · intro wq hSw
              go_simp
              all_goals with_reducible rfl
            try simp only [Act.put, List.setIfInBounds_toArray, List.set_cons_zero, List.set_cons_succ]
            refine wpAnyH_take (i := 10) (v := ?_) (by first | (simp only [List.getElem?_toArray, List.getElem?_cons_succ, List.getElem?_cons_zero]; done) | (simp only [List.getElem?_toArray, List.getElem?_cons_succ, List.getElem?_cons_zero]; rfl)) (by kernel_rfl) (by kernel_rfl) (by kernel_rfl) (by exact fun _ _ _ h => h) (Or.inl ⟨by rfl, ?_⟩) hHeld ?_
            rotate_left 1
            · intro wq hSw
              go_simp
              all_goals with_reducible rfl
            try simp only [Act.put, List.setIfInBounds_toArray, List.set_cons_zero, List.set_cons_succ]
            refine wpAnyH_take (i := 11) (v := ?_) (by first | (simp only [List.getElem?_toArray, List.getElem?_cons_succ, List.getElem?_cons_zero]; done) | (simp only [List.getElem?_toArray, List.getElem?_cons_succ, List.getElem?_cons_zero]; rfl)) (by kernel_rfl) (by kernel_rfl) (by kernel_rfl) (by exact fun _ _ _ h => h) (Or.inl ⟨by rfl, ?_⟩) hHeld ?_
            rotate_left 1
            · intro wq hSw
              go_simp
              all_goals with_reducible rfl
            try simp only [Act.put, List.setIfInBounds_toArray, List.set_cons_zero, List.set_cons_succ]
            refine wpAnyH_take (i := 12) (v := ?_) (by first | (simp only [List.getElem?_toArray, List.getElem?_cons_succ, List.getElem?_cons_zero]; done) | (simp only [List.getElem?_toArray, List.getElem?_cons_succ, List.getElem?_cons_zero]; rfl)) (by kernel_rfl) (by kernel_rfl) (by kernel_rfl) (by exact fun _ _ _ h => h) (Or.inl ⟨by rfl, ?_⟩) hHeld ?_
            rotate_left 1
            · intro wq hSw
              go_simp
              all_goals with_reducible rfl
            try simp only [Act.put, List.setIfInBounds_toArray, List.set_cons_zero, List.set_cons_succ]
            refine wpAnyH_take (i := 13) (v := ?_) (by first | (simp only [List.getElem?_toArray, List.getElem?_cons_succ, List.getElem?_cons_zero]; done) | (simp only [List.getElem?_toArray, List.getElem?_cons_succ, List.getElem?_cons_zero]; rfl)) (by kernel_rfl) (by kernel_rfl) (by kernel_rfl) (by exact fun _ _ _ h => h) (Or.inl ⟨by rfl, ?_⟩) hHeld ?_
            rotate_left 1
            · intro wq hSw
              go_simp
              all_goals with_reducible rfl
            try simp only [Act.put, List.setIfInBounds_toArray, List.set_cons_zero, List.set_cons_succ]
            refine wpAnyH_take (i := 14) (v := ?_) (by first | (simp only [List.getElem?_toArray, List.getElem?_cons_succ, List.getElem?_cons_zero]; done) | (simp only [List.getElem?_toArray, List.getElem?_cons_succ, List.getElem?_cons_zero]; rfl)) (by kernel_rfl) (by kernel_rfl) (by kernel_rfl) (by exact fun _ _ _ h => h) (Or.inl ⟨by rfl, ?_⟩) hHeld ?_
            rotate_left 1
            · intro wq hSw
              go_simp
              all_goals with_reducible rfl
            try simp only [Act.put, List.setIfInBounds_toArray, List.set_cons_zero, List.set_cons_succ]
            refine wpAnyH_take (i := 15) (v := ?_) (by first | (simp only [List.getElem?_toArray, List.getElem?_cons_succ, List.getElem?_cons_zero]; done) | (simp only [List.getElem?_toArray, List.getElem?_cons_succ, List.getElem?_cons_zero]; rfl)) (by kernel_rfl) (by kernel_rfl) (by kernel_rfl) (by exact fun _ _ _ h => h) (Or.inl ⟨by rfl, ?_⟩) hHeld ?_
            rotate_left 1
            · intro wq hSw
              obtain ⟨g20, g21, g22, g23⟩ := HP1.out _ hSw
              go_simp
              all_goals with_reducible rfl
            try simp only [Act.put, List.setIfInBounds_toArray, List.set_cons_zero, List.set_cons_succ]
            refine wpAnyH_take (i := 16) (v := ?_) (by first | (simp only [List.getElem?_toArray, List.getElem?_cons_succ, List.getElem?_cons_zero]; done) | (simp only [List.getElem?_toArray, List.getElem?_cons_succ, List.getElem?_cons_zero]; rfl)) (by kernel_rfl) (by kernel_rfl) (by kernel_rfl) (by exact fun _ _ _ h => h) (Or.inl ⟨by rfl, ?_⟩) hHeld ?_
            rotate_left 1
            · intro wq hSw
              go_simp
              all_goals with_reducible rfl
            try simp only [Act.put, List.setIfInBounds_toArray, List.set_cons_zero, List.set_cons_succ]
            refine wpAnyH_take (i := 17) (v := ?_) (by first | (simp only [List.getElem?_toArray, List.getElem?_cons_succ, List.getElem?_cons_zero]; done) | (simp only [List.getElem?_toArray, List.getElem?_cons_succ, List.getElem?_cons_zero]; rfl)) (by kernel_rfl) (by kernel_rfl) (by kernel_rfl) (by exact fun _ _ _ h => h) (Or.inl ⟨by rfl, ?_⟩) hHeld ?_
            rotate_left 1
            · intro wq hSw
              go_simp
              all_goals with_reducible rfl
            try simp only [Act.put, List.setIfInBounds_toArray, List.set_cons_zero, List.set_cons_succ]
            refine wpAnyH_take (i := 18) (v := ?_) (by first | (simp only [List.getElem?_toArray, List.getElem?_cons_succ, List.getElem?_cons_zero]; done) | (simp only [List.getElem?_toArray, List.getElem?_cons_succ, List.getElem?_cons_zero]; rfl)) (by kernel_rfl) (by kernel_rfl) (by kernel_rfl) (by exact fun _ _ _ h => h) (Or.inl ⟨by rfl, ?_⟩) hHeld ?_
            rotate_left 1
            · intro wq hSw
              go_simp
              all_goals with_reducible rfl
            try simp only [Act.put, List.setIfInBounds_toArray, List.set_cons_zero, List.set_cons_succ]
            refine wpAnyH_take (i := 19) (v := ?_) (by first | (simp only [List.getElem?_toArray, List.getElem?_cons_succ, List.getElem?_cons_zero]; done) | (simp only [List.getElem?_toArray, List.getElem?_cons_succ, List.getElem?_cons_zero]; rfl)) (by kernel_rfl) (by kernel_rfl) (by kernel_rfl) (by exact fun _ _ _ h => h) (Or.inl ⟨by rfl, ?_⟩) hHeld ?_
            rotate_left 1
            · intro wq hSw
              obtain ⟨f10, f11⟩ := HFV.out _ hSw
              obtain ⟨f20, f21, f22, f23⟩ := HS1.out _ hSw
              go_simp
              all_goals with_reducible rfl
            try simp only [Act.put, List.setIfInBounds_toArray, List.set_cons_zero, List.set_cons_succ]
            refine wpAnyH_ready (rs := [20]) (by kernel_rfl) (by simp) ?_
            refine AllReadyH.cons (by first | (simp only [List.getElem?_toArray, List.getElem?_cons_succ, List.getElem?_cons_zero]; done) | (simp only [List.getElem?_toArray, List.getElem?_cons_succ, List.getElem?_cons_zero]; rfl)) (fun K hK => ?_) AllReadyH.nil
            go_simp
            go_at_call 44
            with_reducible refine (KL.out _).mono ?_
            rintro e v2 ⟨rfl, u2⟩
            have bc := below2 hHeld u2
            go_wp2_with fail
            refine hK.out _ _ ?_ (fun hHeld => ?_)
            · exact bc
            clear hK K
            try simp only [Act.put, List.setIfInBounds_toArray, List.set_cons_zero, List.set_cons_succ]
            refine wpAnyH_take (i := 21) (v := ?_) (by first | (simp only [List.getElem?_toArray, List.getElem?_cons_succ, List.getElem?_cons_zero]; done) | (simp only [List.getElem?_toArray, List.getElem?_cons_succ, List.getElem?_cons_zero]; rfl)) (by kernel_rfl) (by kernel_rfl) (by kernel_rfl) (by exact fun _ _ _ h => h) (Or.inl ⟨by rfl, ?_⟩) hHeld ?_
            rotate_left 1
            · intro wq hSw
              go_simp
              all_goals with_reducible rfl
            try simp only [Act.put, List.setIfInBounds_toArray, List.set_cons_zero, List.set_cons_succ]
            refine wpAnyH_take (i := 22) (v := ?_) (by first | (simp only [List.getElem?_toArray, List.getElem?_cons_succ, List.getElem?_cons_zero]; done) | (simp only [List.getElem?_toArray, List.getElem?_cons_succ, List.getElem?_cons_zero]; rfl)) (by kernel_rfl) (by kernel_rfl) (by kernel_rfl) (by exact fun _ _ _ h => h) (Or.inl ⟨by rfl, ?_⟩) hHeld ?_
            rotate_left 1
            · intro wq hSw
              go_simp
              all_goals with_reducible rfl
            try simp only [Act.put, List.setIfInBounds_toArray, List.set_cons_zero, List.set_cons_succ]
            refine wpAnyH_take (i := 23) (v := ?_) (by first | (simp only [List.getElem?_toArray, List.getElem?_cons_succ, List.getElem?_cons_zero]; done) | (simp only [List.getElem?_toArray, List.getElem?_cons_succ, List.getElem?_cons_zero]; rfl)) (by kernel_rfl) (by kernel_rfl) (by kernel_rfl) (by exact fun _ _ _ h => h) (Or.inl ⟨by rfl, ?_⟩) hHeld ?_
            rotate_left 1
            · intro wq hSw
              go_simp
              all_goals with_reducible rfl
            try simp only [Act.put, List.setIfInBounds_toArray, List.set_cons_zero, List.set_cons_succ]
            refine wpAnyH_done (by kernel_rfl) ?_ _
            go_wp2_with fail
            go_roundg gk
            case measure => omega
            case rel => exact ⟨k + 1, by omega, by go_num, Lib.hid (HBW.out.trans (hHeld.mono HBW.out.size)), hSN⟩
end Go.Proofs.YtipipjbpjpdcbaaDoor.Al

/- Layer 6: what its functions leave. -/
namespace Go.Proofs.YtipipjbpjpdcbaaDoor.Al
set_option linter.unusedVariables false
open Go.RowKit
open Go.Proofs.YtipipjbpjpdcbaaDoor.W
open Go.Proofs.YtipipjbpjpdcbaaDoor.V
open Go.Proofs.YtipipjbpjpdcbaaDoor.O
open Go.Proofs.YtipipjbpjpdcbaaDoor.Pb (Alr alrC alrsC len_alrsC)
open Go.Lib (byteCells byteCells_length)

/-- Alerts come back: alone, with an error, with a flag and an error, with a number and an error. -/
def OutMrg (w : World) (s : List Alr) (k : Nat) (e : Ending) (w' : World) : Prop := ∃ A c, e = .returned (.tuple #[.slice A s.length c, .int .i64 (k : Int)]) ∧ AS w' w'.heap.size s A c ∧ Below w.heap.size w w'
def OutAdd (w : World) (s : List Alr) (b : Bool) (k : Nat) (e : Ending) (w' : World) : Prop := ∃ A c, e = .returned (.tuple #[.slice A s.length c, .bool b, .int .i64 (k : Int)]) ∧ AS w' w'.heap.size s A c ∧ Below w.heap.size w w'
def OutDec (w : World) (r : List Alr × Nat × Nat) (e : Ending) (w' : World) : Prop := ∃ A c, e = .returned (.tuple #[.slice A r.1.length c, .int .i64 (r.2.1 : Int), .int .i64 (r.2.2 : Int)]) ∧ AS w' w'.heap.size r.1 A c ∧ Below w.heap.size w w'
/-- Bytes come back, numbers come back. -/
def OutByt (w : World) (bs : List UInt8) (e : Ending) (w' : World) : Prop := ∃ A c, e = .returned (.slice A bs.length c) ∧ bs.length ≤ c ∧ Reads w' w'.heap.size 1 A bs.length (byteCells bs) ∧ Below w.heap.size w w'
def OutInt (w : World) (l : List Int) (e : Ending) (w' : World) : Prop := ∃ A c, e = .returned (.slice A l.length c) ∧ l.length ≤ c ∧ Reads w' w'.heap.size 1 A l.length (l.map intV) ∧ Below w.heap.size w w'
/-- What Add, Merge and Encode give. -/
def addS (K : Int → Int → Nat) (num : Int) (l : List Int) (s : List Alr) (a : Alr) : List Alr := if addE K num l s a = 0 then putA s a else []
def addB (K : Int → Int → Nat) (num : Int) (l : List Int) (s : List Alr) (a : Alr) : Bool := if addE K num l s a = 0 then !(hasA s a.subj a.ring) else false
def mrgE (K : Int → Int → Nat) (num : Int) (l : List Int) (a b : List Alr) : Nat := if okS K num l a && okS K num l b then 0 else 1
def mrgS (K : Int → Int → Nat) (num : Int) (l : List Int) (a b : List Alr) : List Alr := if okS K num l a && okS K num l b then mergeA a b else []
def encS (K : Int → Int → Nat) (num : Int) (l : List Int) (s : List Alr) : List UInt8 := if okS K num l s then enSet s else []
theorem AS.nil {W : World} {B c : Nat} : AS W B [] none c := ⟨Reads.none_, by show 0 ≤ _; omega, fun x hx => (by cases hx), Nat.zero_le _⟩
theorem AS.of_own {W : World} {B : Nat} {v : Value} {s : List Alr} (h : W.ownsRow B 48 4 v s.length (alrsC s)) (hl : s.length ≤ 1099511627776) (hel : ∀ x ∈ s, El x) : ∃ A c, v = .slice A s.length c ∧ AS W W.heap.size s A c := by
  obtain ⟨A, c, rfl, h1, h2⟩ := own_openS h
  exact ⟨A, c, rfl, h2, hl, hel, h1⟩
theorem El.putF {a : Alr} {s : List Alr} (ha : El a) (hs : ∀ x ∈ s, El x) : ∀ x ∈ Al.putF a s, El x := fun x hx => by
  rcases mem_putF.1 hx with rfl | h
  · exact ha
  · exact hs x h
theorem El.putA {a : Alr} {s : List Alr} (ha : El a) (hs : ∀ x ∈ s, El x) : ∀ x ∈ Al.putA s a, El x := by
  unfold Al.putA
  split
  · exact hs
  · exact El.putF ha hs
theorem El.merge {b : List Alr} : ∀ {a : List Alr}, (∀ x ∈ a, El x) → (∀ x ∈ b, El x) → ∀ x ∈ mergeA a b, El x := by
  induction b with
  | nil => intro a ha _; exact ha
  | cons y t ih =>
    intro a ha hb
    show ∀ x ∈ mergeA (Al.putA a y) t, El x
    exact ih (El.putA (hb y (by simp)) ha) fun x hx => hb x (by simp [hx])
end Go.Proofs.YtipipjbpjpdcbaaDoor.Al
