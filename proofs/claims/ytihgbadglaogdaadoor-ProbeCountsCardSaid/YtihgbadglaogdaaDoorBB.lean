import Derived.Test.YtihgbadglaogdaaDoorOB
import Derived.Test.YtihgbadglaogdaaDoorBS
import Derived.Test.YtihgbadglaogdaaDoorVB
import Derived.Deep.RegionLaw
import Derived.BigQuiet
/- Two blocks at a function's door. -/
namespace Go.Proofs.YtihgbadglaogdaaDoor.Pb
set_option linter.unusedVariables false
open Go.RowKit
open Go.Proofs.YtihgbadglaogdaaDoor.W
open Go.Proofs.YtihgbadglaogdaaDoor.V
open Go.Proofs.YtihgbadglaogdaaDoor.O

theorem two_blk (w : World) (t t' : TypeId) (x y : Array Value) : Blk ((w.alloc (.cells x t)).alloc (.cells y t')) w.heap.size t x ∧ Blk ((w.alloc (.cells x t)).alloc (.cells y t')) (w.heap.size + 1) t' y := by
  refine ⟨(Blk.new w t x).alloc _, ?_⟩
  have h := Blk.new (w.alloc (.cells x t)) t' y
  rwa [show (w.alloc (.cells x t)).heap.size = w.heap.size + 1 by simp] at h
theorem cells22 {W : World} {g1 g2 : Nat} {t t' : TypeId} {a0 a1 b0 b1 : Value} (h : Blk W g1 t #[a0, a1]) (h' : Blk W g2 t' #[b0, b1]) :
    W.cell? ⟨g1, 0, none⟩ = some a0 ∧ W.cell? ⟨g1, 1, none⟩ = some a1 ∧ W.cell? ⟨g2, 0, none⟩ = some b0 ∧ W.cell? ⟨g2, 1, none⟩ = some b1 ∧ W.frozen? ⟨g2, 0, none⟩ = false ∧ W.frozen? ⟨g2, 1, none⟩ = false :=
  ⟨h.cell 0, h.cell 1, h'.cell 0, h'.cell 1, h'.frozen 0, h'.frozen 1⟩
theorem cells24 {W : World} {g1 g2 : Nat} {t t' : TypeId} {a0 a1 b0 b1 b2 b3 : Value} (h : Blk W g1 t #[a0, a1]) (h' : Blk W g2 t' #[b0, b1, b2, b3]) :
    W.cell? ⟨g1, 0, none⟩ = some a0 ∧ W.cell? ⟨g1, 1, none⟩ = some a1 ∧ W.cell? ⟨g2, 0, none⟩ = some b0 ∧ W.cell? ⟨g2, 1, none⟩ = some b1 ∧ W.cell? ⟨g2, 2, none⟩ = some b2 ∧ W.cell? ⟨g2, 3, none⟩ = some b3 ∧
      W.frozen? ⟨g2, 0, none⟩ = false ∧ W.frozen? ⟨g2, 1, none⟩ = false ∧ W.frozen? ⟨g2, 2, none⟩ = false ∧ W.frozen? ⟨g2, 3, none⟩ = false :=
  ⟨h.cell 0, h.cell 1, h'.cell 0, h'.cell 1, h'.cell 2, h'.cell 3, h'.frozen 0, h'.frozen 1, h'.frozen 2, h'.frozen 3⟩
theorem below_setV {B : Nat} {a w : World} (h : Below B a w) {p : Addr} (hp : B ≤ p.block) (u : Value) : Below B a (w.setCell p u) := h.setCell hp u
theorem own_setV {B : Nat} {w : World} {e : TypeId} {size : Nat} {v : Value} {n : Nat} {xs : List Value} (h : w.ownsRow B e size v n xs) {p : Addr} (hp : p.block < B) (u : Value) : (w.setCell p u).ownsRow B e size v n xs :=
  ownsRow_setCell_below h hp u
/-- A window as the program holds it. -/
def winV (b : Nat) (c : Int) : Value := .agg #[.int .u32 (b : Int), .int .i64 c]
/-- A window comes back. -/
def OutW (w : World) (x : Nat × Int) (e : Ending) (w' : World) : Prop := e = .returned (winV x.1 x.2) ∧ Below w.heap.size w w'
theorem OutW.to {w : World} {x : Nat × Int} {e : Ending} {w' : World} (h : OutW w x e w') (b : Nat) (c : Int) (hx : x = (b, c)) : e = .returned (winV b c) ∧ Below w.heap.size w w' := by subst hx; exact h
theorem pow_in {k : Nat} (h : k ≤ 10) : (2 : Int) ^ k % 4294967296 = ((2 ^ k : Nat) : Int) :=
  (by decide : ∀ k : Fin 11, (2 : Int) ^ k.val % 4294967296 = ((2 ^ k.val : Nat) : Int)) ⟨k, by omega⟩
end Go.Proofs.YtihgbadglaogdaaDoor.Pb

/- The reference of layer 5: ValidWindow, Record, Failing. -/
namespace Go.Proofs.YtihgbadglaogdaaDoor.Pb
set_option linter.unusedVariables false
open Go.RowKit
open Go.Proofs.YtihgbadglaogdaaDoor.W
open Go.Proofs.YtihgbadglaogdaaDoor.V
open Go.Proofs.YtihgbadglaogdaaDoor.O

set_option maxRecDepth 1000000 in
set_option maxHeartbeats 2000000 in
theorem refOkWin_any (b : Nat) (c : Int) (w : World) (hb : b < 4294967296) (hc : In64 c) :
    Calls Tryd.prog 11 #[winV b c] w (PB w (okWin b c)) := by
  obtain ⟨n0, n1⟩ := hc
  have HT := Lib.hid (show okWin b c = (decide (0 ≤ c) && (decide (c ≤ 10) && decide (b < 2 ^ c.toNat))) from rfl)
  generalize okWin b c = t at *
  unfold winV
  by_cases h0 : 0 ≤ c
  case neg =>
    have ht := Lib.hid (show t = false by rw [HT.out]; simp [h0])
    have h0' : ¬ c ≥ 0 := h0
    go_enter Tryd.func11, Tryd.ntmps11
    go_wp2_with fail
    go_ret
    exact ⟨by rw [ht.out]; rfl, (Below.refl _ _).alloc (Nat.le_refl _) _⟩
  by_cases h1 : c ≤ 10
  case neg =>
    have ht := Lib.hid (show t = false by rw [HT.out]; simp [h1])
    go_enter Tryd.func11, Tryd.ntmps11
    go_wp2_with fail
    go_ret
    exact ⟨by rw [ht.out]; rfl, (Below.refl _ _).alloc (Nat.le_refl _) _⟩
  obtain ⟨k, rfl⟩ : ∃ k : Nat, c = k := ⟨c.toNat, by omega⟩
  have hk : k ≤ 10 := by omega
  go_enter Tryd.func11, Tryd.ntmps11
  go_wp2_with fail
  go_ret
  have e : decide ((b : Int) < 2 ^ k % 4294967296) = t := by
    rw [pow_in hk, HT.out, decide_eq_true h0, decide_eq_true h1, Bool.true_and, Bool.true_and, decide_eq_decide]
    show (b : Int) < ((2 ^ k : Nat) : Int) ↔ b < 2 ^ k
    omega
  exact ⟨by rw [← e]; rfl, (Below.refl _ _).alloc (Nat.le_refl _) _⟩
set_option maxRecDepth 1000000 in
set_option maxHeartbeats 2000000 in
theorem refRecord_any (b : Nat) (c : Int) (ok : Bool) (w : World) (hb : b < 4294967296) (hc : In64 c) :
    Calls Tryd.prog 13 #[winV b c, .bool ok] w (OutW w (recW b c ok)) := by
  have h01 : Below w.heap.size w ((w.alloc (.cells #[.int .u32 (b : Int), .int .i64 c] 24)).alloc (.cells #[.int .u32 0, .int .i64 0] 24)) := ((Below.refl w.heap.size w).alloc (Nat.le_refl _) _).alloc (by simp) _
  have hz := two_blk w 24 24 #[.int .u32 (b : Int), .int .i64 c] #[.int .u32 0, .int .i64 0]
  have FB := Lib.hid (fun W (hW : Below ((w.alloc (.cells #[.int .u32 (b : Int), .int .i64 c] 24)).alloc (.cells #[.int .u32 0, .int .i64 0] 24)).heap.size ((w.alloc (.cells #[.int .u32 (b : Int), .int .i64 c] 24)).alloc (.cells #[.int .u32 0, .int .i64 0] 24)) W) => h01.trans (hW.mono (by simp; omega)))
  have FV := Lib.hid (fun W (hW : Below ((w.alloc (.cells #[.int .u32 (b : Int), .int .i64 c] 24)).alloc (.cells #[.int .u32 0, .int .i64 0] 24)).heap.size ((w.alloc (.cells #[.int .u32 (b : Int), .int .i64 c] 24)).alloc (.cells #[.int .u32 0, .int .i64 0] 24)) W) => cells22 (hz.1.below hW hz.1.lt) (hz.2.below hW hz.2.lt))
  have KV := Lib.hid (fun W => refOkWin_any b c W hb hc)
  obtain ⟨n0, n1⟩ := hc
  clear hz h01
  cases hv : okWin b c
  · have ht := Lib.hid (show recW b c ok = (0, 0) by unfold recW; rw [hv]; rfl)
    generalize recW b c ok = t at *
    rw [hv] at KV
    unfold winV at *
    go_enter Tryd.func13, Tryd.ntmps13
    go_wp2_with (go_at_call 11; (with_reducible refine (KV.out _).mono ?_); rintro e w1 ⟨rfl, b1⟩; obtain ⟨q0, q1, z0, z1, f0, f1⟩ := FV.out _ b1)
    refine bodyPost_ret (v := winV 0 0) (by simp [results, Tryd.results13, go_sem, winV, z0, z1]) rfl ⟨by rw [ht.out], ?_⟩
    repeat (with_reducible refine below_setV ?_ (by simp) _)
    exact FB.out _ b1
  · obtain ⟨h0, h1, h2⟩ := okWin_iff.1 hv
    have hb10 := okWin_lt hv
    have ht0 := (show recW b c ok = (recB b ok, min (c + 1) 10) by unfold recW; rw [if_pos hv])
    obtain ⟨m, hm⟩ : ∃ m, m = min (c + 1) 10 := ⟨_, rfl⟩
    obtain ⟨r, hr⟩ : ∃ r, r = recB b ok := ⟨_, rfl⟩
    rw [← hm, ← hr] at ht0
    have hr' : (r : Int) = (b : Int) * 2 % 1024 + (if ok then 0 else 1) := by rw [hr]; unfold recB; cases ok <;> simp
    have HT := Lib.hid ht0
    have HR := Lib.hid hr'
    have HM := Lib.hid hm
    rw [hv] at KV
    generalize recW b c ok = t at *
    clear hv ht0 hr hr' hm
    unfold winV at *
    have wc : IntKind.i64.wrap (c + 1) = c + 1 := IntWalk.i64_in _ (by omega)
    by_cases hc1 : 10 < c + 1
    all_goals
      cases ok
      all_goals
        go_enter Tryd.func13, Tryd.ntmps13
        go_wp2_with (go_at_call 11; (with_reducible refine (KV.out _).mono ?_); rintro e w1 ⟨rfl, b1⟩; obtain ⟨q0, q1, z0, z1, f0, f1⟩ := FV.out _ b1)
        refine bodyPost_ret (v := winV r m) (by simp [results, Tryd.results13, go_sem, winV, z0, z1]; have := HR.out; have := HM.out; simp at *; omega) rfl ⟨by rw [HT.out], ?_⟩
        repeat (with_reducible refine below_setV ?_ (by simp) _)
        exact FB.out _ b1
set_option maxRecDepth 1000000 in
set_option maxHeartbeats 2000000 in
theorem refFailing_any (b : Nat) (c : Int) (w : World) (hb : b < 4294967296) (hc : In64 c) :
    Calls Tryd.prog 15 #[winV b c] w (PB w (failW b c)) := by
  have KV := Lib.hid (fun W => refOkWin_any b c W hb hc)
  obtain ⟨n0, n1⟩ := hc
  have HT := Lib.hid (show failW b c = (okWin b c && (decide (c = 10) && decide (4 ≤ ones b 10))) from rfl)
  have hb0 := (Below.refl w.heap.size w).alloc (Nat.le_refl _) (.cells #[.int .u32 (b : Int), .int .i64 c] 24)
  have HB0 := Lib.hid hb0
  have hz := Blk.new w 24 #[.int .u32 (b : Int), .int .i64 c]
  have HZ := Lib.hid (fun W (hW : Below (w.alloc (.cells #[.int .u32 (b : Int), .int .i64 c] 24)).heap.size (w.alloc (.cells #[.int .u32 (b : Int), .int .i64 c] 24)) W) => blk2 (hz.below hW hz.lt))
  have HO := Lib.hid (show ∀ k, ones b (k + 1) = ones b k + b / 2 ^ k % 2 from fun k => rfl)
  generalize failW b c = t at *
  generalize hok : okWin b c = ok at *
  clear hok hz
  unfold winV at *
  go_enter Tryd.func15, Tryd.ntmps15
  go_wp2_with fail
  go_loopg [3, 4] 10 (fun g s3 s4 wr => ∃ (k n : Nat), k + g = 10 ∧ s4 = .int .i64 k ∧ s3 = .int .i64 n ∧ n ≤ k ∧ Hid (n = ones b k) ∧ wr = w.alloc (.cells #[.int .u32 (b : Int), .int .i64 c] 24))
  case atStart => exact ⟨0, 0, by omega, rfl, rfl, Nat.le_refl _, rfl, rfl⟩
  case round =>
    obtain ⟨k, n, hkg, rfl, rfl, hnk, HN, rfl⟩ := hrel
    cases gk with
    | zero =>
      have hkz : ¬ ((k : Int) < 10) := by omega
      have hk10 : k = 10 := by omega
      have HN' := Lib.hid (show n = ones b 10 by rw [← hk10]; exact HN.out)
      clear HO
      cases ok
      · have ht := Lib.hid (show t = false by rw [HT.out]; rfl)
        go_wp2_with (go_at_call 11; (with_reducible refine (KV.out _).mono ?_); rintro e w1 ⟨rfl, b1⟩; obtain ⟨q0, q1⟩ := HZ.out _ b1)
        go_ret
        exact ⟨by rw [ht.out]; rfl, W.bstep hb0 b1⟩
      · by_cases hc10 : c = 10
        case neg =>
          have ht := Lib.hid (show t = false by rw [HT.out]; simp [hc10])
          have hcf : (c == 10) = false := beqF hc10
          clear hc10
          go_wp2_with (go_at_call 11; (with_reducible refine (KV.out _).mono ?_); rintro e w1 ⟨rfl, b1⟩; obtain ⟨q0, q1⟩ := HZ.out _ b1)
          go_ret
          exact ⟨by rw [ht.out]; rfl, W.bstep hb0 b1⟩
        have hcf : (c == 10) = true := beqT hc10
        have HC := Lib.hid hc10
        clear hc10
        have ht := Lib.hid (show t = decide ((4 : Int) ≤ (n : Int)) by
          rw [HT.out, HC.out, ← HN'.out]
          by_cases h4 : 4 ≤ n
          · have : (4 : Int) ≤ (n : Int) := by omega
            simp [h4, this]
          · have : ¬ (4 : Int) ≤ (n : Int) := by omega
            simp [h4, this])
        go_wp2_with (go_at_call 11; (with_reducible refine (KV.out _).mono ?_); rintro e w1 ⟨rfl, b1⟩; obtain ⟨q0, q1⟩ := HZ.out _ b1)
        go_ret
        exact ⟨by rw [ht.out]; rfl, W.bstep hb0 b1⟩
    | succ g =>
      have hkz : (k : Int) < 10 := by omega
      have HN1 := Lib.hid (HO.out k)
      obtain ⟨d, hd⟩ : ∃ d, d = b / 2 ^ k % 2 := ⟨_, rfl⟩
      have hdi : ((b : Int) / 2 ^ k).tmod 2 = (d : Int) := by
        rw [show ((b : Int) / 2 ^ k) = ((b / 2 ^ k : Nat) : Int) by simp, Int.tmod_eq_emod_of_nonneg (Int.natCast_nonneg _), hd]
        simp
      rw [← hd] at HN1
      have hd2 : d = 0 ∨ d = 1 := by omega
      clear hd
      rcases hd2 with rfl | rfl
      · have hbf : (((b : Int) / 2 ^ k).tmod 2 == 1) = false := by rw [hdi]; rfl
        clear hdi
        go_wp2_with fail
        go_roundg g
        case measure => omega
        case rel => exact ⟨k + 1, n, by omega, by go_num, rfl, by omega, (show n = ones b (k + 1) by have h1 := HN1.out; have h2 := HN.out; omega), rfl⟩
      · have hbf : (((b : Int) / 2 ^ k).tmod 2 == 1) = true := by rw [hdi]; rfl
        clear hdi
        go_wp2_with fail
        go_roundg g
        case measure => omega
        case rel => exact ⟨k + 1, n + 1, by omega, by go_num, by go_num, by omega, (show n + 1 = ones b (k + 1) by have h1 := HN1.out; have h2 := HN.out; omega), rfl⟩
end Go.Proofs.YtihgbadglaogdaaDoor.Pb

/- Rows of edges and of alerts. -/
namespace Go.Proofs.YtihgbadglaogdaaDoor.Pb
set_option linter.unusedVariables false
open Go.RowKit
open Go.Proofs.YtihgbadglaogdaaDoor.W
open Go.Proofs.YtihgbadglaogdaaDoor.V
open Go.Proofs.YtihgbadglaogdaaDoor.O

/-- An edge, cell by cell. -/
def edgeC (e : Edge) : List Value := [.int .i64 e.ring, .int .i64 e.subj, .bool e.heard, .bool e.rep, .int .u32 (e.bits : Int), .int .i64 e.cnt]
def edgesC (es : List Edge) : List Value := es.flatMap edgeC
def alrC (a : Alr) : List Value := [.int .i64 a.view, .int .i64 a.ring, .int .i64 a.obs, .int .i64 a.subj]
def alrsC (as_ : List Alr) : List Value := as_.flatMap alrC
theorem len_edgesC (es : List Edge) : (edgesC es).length = es.length * 6 := by
  induction es with
  | nil => rfl
  | cons e t ih => show (edgeC e ++ edgesC t).length = _; rw [List.length_append, ih]; simp [edgeC]; omega
theorem len_alrsC (es : List Alr) : (alrsC es).length = es.length * 4 := by
  induction es with
  | nil => rfl
  | cons e t ih => show (alrC e ++ alrsC t).length = _; rw [List.length_append, ih]; simp [alrC]; omega
theorem edgesC_app (a b : List Edge) : edgesC (a ++ b) = edgesC a ++ edgesC b := by unfold edgesC; rw [List.flatMap_append]
theorem alrsC_app (a b : List Alr) : alrsC (a ++ b) = alrsC a ++ alrsC b := by unfold alrsC; rw [List.flatMap_append]
theorem edgesC_one (e : Edge) : edgesC [e] = edgeC e := by unfold edgesC; simp
theorem alrsC_one (e : Alr) : alrsC [e] = alrC e := by unfold alrsC; simp
theorem edgesC_get {es : List Edge} {k j : Nat} {e : Edge} (h : es[k]? = some e) (hj : j < 6) : (edgesC es)[k * 6 + j]? = (edgeC e)[j]? := by
  induction es generalizing k with
  | nil => cases h
  | cons x t ih =>
    show (edgeC x ++ edgesC t)[k * 6 + j]? = _
    cases k with
    | zero =>
      simp at h
      subst h
      rw [List.getElem?_append_left (by simp [edgeC]; omega)]
      simp
    | succ k =>
      rw [List.getElem?_append_right (by simp [edgeC]; omega)]
      rw [show (k + 1) * 6 + j - (edgeC x).length = k * 6 + j by simp [edgeC]; omega]
      exact ih (by simpa using h)
theorem alrsC_get {es : List Alr} {k j : Nat} {e : Alr} (h : es[k]? = some e) (hj : j < 4) : (alrsC es)[k * 4 + j]? = (alrC e)[j]? := by
  induction es generalizing k with
  | nil => cases h
  | cons x t ih =>
    show (alrC x ++ alrsC t)[k * 4 + j]? = _
    cases k with
    | zero =>
      simp at h
      subst h
      rw [List.getElem?_append_left (by simp [alrC]; omega)]
      simp
    | succ k =>
      rw [List.getElem?_append_right (by simp [alrC]; omega)]
      rw [show (k + 1) * 4 + j - (alrC x).length = k * 4 + j by simp [alrC]; omega]
      exact ih (by simpa using h)
theorem edgesC_cell (es : List Edge) : ∀ u ∈ edgesC es, u.oneCell' = true := by
  intro u hu
  obtain ⟨e, _, he⟩ := List.mem_flatMap.1 hu
  unfold edgeC at he
  simp at he
  rcases he with rfl | rfl | rfl | rfl | rfl | rfl <;> rfl
theorem alrsC_cell (es : List Alr) : ∀ u ∈ alrsC es, u.oneCell' = true := by
  intro u hu
  obtain ⟨e, _, he⟩ := List.mem_flatMap.1 hu
  unfold alrC at he
  simp at he
  rcases he with rfl | rfl | rfl | rfl <;> rfl
theorem edgeInfo : (Tryd.prog.info? 58).map (fun i => (i.zero, i.size, i.bytes)) = some (some (.agg #[.int .i64 0, .int .i64 0, .bool false, .bool false, .int .u32 0, .int .i64 0]), 6, 40) := by kernel_rfl
theorem alrInfo : (Tryd.prog.info? 52).map (fun i => (i.zero, i.size, i.bytes)) = some (some (.agg #[.int .i64 0, .int .i64 0, .int .i64 0, .int .i64 0]), 4, 32) := by kernel_rfl
/-- One edge appended to a row of the call's own, in whatever order a region draws. -/
theorem step_append_edge {ops : Array Oper} {o : Oper} {a : Act} {K : Act → World → Prop} {Q : Exit → Act → World → Prop} {E : Prop} (W : World) (hgd : o.guard = none) (s x : Operand)
    (ho : o.op = .call { callee := .builtin .append, args := #[s, x], argTypes := #[32, 32] }) (base : Nat) (v : Value) (es : List Edge) (e : Edge) (B c : Nat) (A : Option Addr) (hs : a.eval s = v)
    (hown : W.ownsRow base 58 6 v es.length (edgesC es)) (hx : a.eval x = .slice A 1 c) (hr : Reads W B 6 A 1 (edgeC e))
    (hl : es.length ≤ 1099511627776) (hbase : base ≤ W.heap.size)
    (h : ∀ v' w', w'.ownsRow base 58 6 v' (es ++ [e]).length (edgesC (es ++ [e])) → Below base W w' → K (a.put o.dst v') w') :
    if Region.wanted o (yielded ops a.tmps) = true then Oper.wp Tryd.prog o a W K Q else E := by
  obtain ⟨i0, hi, hz0, hz1, hz2⟩ := info_parts edgeInfo
  refine step_append_any W hgd s x 32 ho base 58 i0 _ 6 40 Tryd.underlying32 hi hz0 hz1 hz2 rfl (by decide) v _ _ hs hown B A 1 c _ hx hr (by rw [← edgesC_one]; exact edgesC_cell _) ?_ ?_ hbase ?_
  · unfold maxLen; omega
  · omega
  · intro v' w' h1 h2 _
    refine h v' w' ?_ ((Below.refl _ _).grown h2 hbase fun q hq => (hown.lt q hq).1)
    rw [edgesC_app, edgesC_one, List.length_append]
    exact h1
theorem step_append_alr {ops : Array Oper} {o : Oper} {a : Act} {K : Act → World → Prop} {Q : Exit → Act → World → Prop} {E : Prop} (W : World) (hgd : o.guard = none) (s x : Operand)
    (ho : o.op = .call { callee := .builtin .append, args := #[s, x], argTypes := #[39, 39] }) (base : Nat) (v : Value) (es : List Alr) (e : Alr) (B c : Nat) (A : Option Addr) (hs : a.eval s = v)
    (hown : W.ownsRow base 52 4 v es.length (alrsC es)) (hx : a.eval x = .slice A 1 c) (hr : Reads W B 4 A 1 (alrC e))
    (hl : es.length ≤ 1099511627776) (hbase : base ≤ W.heap.size)
    (h : ∀ v' w', w'.ownsRow base 52 4 v' (es ++ [e]).length (alrsC (es ++ [e])) → Below base W w' → K (a.put o.dst v') w') :
    if Region.wanted o (yielded ops a.tmps) = true then Oper.wp Tryd.prog o a W K Q else E := by
  obtain ⟨i0, hi, hz0, hz1, hz2⟩ := info_parts alrInfo
  refine step_append_any W hgd s x 39 ho base 52 i0 _ 4 32 Tryd.underlying39 hi hz0 hz1 hz2 rfl (by decide) v _ _ hs hown B A 1 c _ hx hr (by rw [← alrsC_one]; exact alrsC_cell _) ?_ ?_ hbase ?_
  · unfold maxLen; omega
  · omega
  · intro v' w' h1 h2 _
    refine h v' w' ?_ ((Below.refl _ _).grown h2 hbase fun q hq => (hown.lt q hq).1)
    rw [alrsC_app, alrsC_one, List.length_append]
    exact h1
/-- A block read as a row of one element. -/
theorem reads_blk (w : World) (cs : Array Value) (t : TypeId) : Reads (w.alloc (.cells cs t)) (w.heap.size + 1) cs.size (some ⟨w.heap.size, 0, none⟩) 1 cs.toList := by
  refine ⟨by simp, fun _ => ⟨_, rfl, Nat.lt_succ_self _, fun j u hu => ?_⟩⟩
  have hb := (Blk.new w t cs).cell j
  have hadd : (⟨w.heap.size, 0, none⟩ : Addr).add j = ⟨w.heap.size, j, none⟩ := by unfold Addr.add; split <;> simp_all
  rw [hadd, hb, ← hu]
  simp
end Go.Proofs.YtihgbadglaogdaaDoor.Pb

/- The reference of layer 5: New. -/
namespace Go.Proofs.YtihgbadglaogdaaDoor.Pb
set_option linter.unusedVariables false
open Go.RowKit
open Go.Proofs.YtihgbadglaogdaaDoor.W
open Go.Proofs.YtihgbadglaogdaaDoor.V
open Go.Proofs.YtihgbadglaogdaaDoor.O

/-- A detector as the program holds it. -/
def detV (me num : Int) (A : Option Addr) (n c : Nat) (E : Value) : Value := .agg #[.int .i64 me, .int .i64 num, .slice A n c, E]
def zeroD : Value := .agg #[.int .i64 0, .int .i64 0, .slice none 0 0, .slice none 0 0]
/-- A row of edges of the call's own. -/
def OwnE (w' : World) (B : Nat) (E : Value) (es : List Edge) : Prop := w'.ownsRow B 58 6 E es.length (edgesC es)
/-- What New leaves. -/
structure NewPost (w : World) (me num : Int) (l : List Int) (A : Option Addr) (c : Nat) (e : Ending) (w' : World) : Prop where
  bel : Below w.heap.size w w'
  yes : okN num l me = true → ∃ E, e = .returned (.tuple #[detV me num A l.length c E, .int .i64 0]) ∧ OwnE w' w.heap.size E (newE K l me)
  no : okN num l me = false → e = .returned (.tuple #[zeroD, .int .i64 1])
theorem OwnE.open_ {W : World} {B : Nat} {E : Value} {es : List Edge} (h : OwnE W B E es) : ∃ A c, E = .slice A es.length c ∧ es.length ≤ c ∧ Reads W W.heap.size 6 A es.length (edgesC es) := by
  rcases h.2 with ⟨rfl, h0⟩ | ⟨g, cap, cur, rfl, _, _, h1, _⟩
  · have : es = [] := List.eq_nil_of_length_eq_zero h0
    subst this
    exact ⟨none, 0, rfl, Nat.le_refl _, Reads.none_⟩
  · exact ⟨_, cap, rfl, h1, Reads.of_own h⟩
theorem mkE_snoc {s : Int} : ∀ {l : List Int} {r : Int}, mkE r (l ++ [s]) = mkE r l ++ [⟨r + l.length, s, false, false, 0, 0⟩]
  | [], r => by simp [mkE]
  | x :: t, r => by
    show _ :: mkE (r + 1) (t ++ [s]) = _
    rw [mkE_snoc]
    simp [mkE]
    omega
theorem reads_far {w : World} {B size n : Nat} {A : Option Addr} {xs : List Value} (h : Reads w B size A n xs) {p : Addr} (hp : ∀ ad, A = some ad → ad.block ≠ p.block) (u : Value) : Reads (w.setCell p u) B size A n xs :=
  ⟨h.1, fun hn => by
    obtain ⟨ad, e, hb, hc⟩ := h.2 hn
    exact ⟨ad, e, hb, fun j v hv => (World.cell?_setCell_other w p _ u (fun e' => hp ad e (by rw [e', block_of_add]))).trans (hc j v hv)⟩⟩
set_option maxRecDepth 1000000 in
set_option maxHeartbeats 4000000 in
theorem refNew_any (me num : Int) (A : Option Addr) (c B : Nat) (l : List Int) (w : World) (h : VW w B num l A c) (hB : B ≤ w.heap.size) (hs : In64 me) :
    Calls Tryd.prog 18 #[vwV num A l.length c, .int .i64 me] w (NewPost w me num l A c) := by
  have h01 : Below w.heap.size w ((w.alloc (.cells #[.int .i64 num, .slice A l.length c] 31)).alloc (.cells #[.int .i64 0, .int .i64 0, .slice none 0 0, .slice none 0 0] 34)) := ((Below.refl w.heap.size w).alloc (Nat.le_refl _) _).alloc (by simp) _
  have hz := two_blk w 31 34 #[.int .i64 num, .slice A l.length c] #[.int .i64 0, .int .i64 0, .slice none 0 0, .slice none 0 0]
  have FB := Lib.hid (fun W (hW : Below ((w.alloc (.cells #[.int .i64 num, .slice A l.length c] 31)).alloc (.cells #[.int .i64 0, .int .i64 0, .slice none 0 0, .slice none 0 0] 34)).heap.size ((w.alloc (.cells #[.int .i64 num, .slice A l.length c] 31)).alloc (.cells #[.int .i64 0, .int .i64 0, .slice none 0 0, .slice none 0 0] 34)) W) => h01.trans (hW.mono (by simp; omega)))
  have FV := Lib.hid (fun W (hW : Below ((w.alloc (.cells #[.int .i64 num, .slice A l.length c] 31)).alloc (.cells #[.int .i64 0, .int .i64 0, .slice none 0 0, .slice none 0 0] 34)).heap.size ((w.alloc (.cells #[.int .i64 num, .slice A l.length c] 31)).alloc (.cells #[.int .i64 0, .int .i64 0, .slice none 0 0, .slice none 0 0] 34)) W) => cells24 (hz.1.below hW hz.1.lt) (hz.2.below hW hz.2.lt))
  have r0 := Below.refl ((w.alloc (.cells #[.int .i64 num, .slice A l.length c] 31)).alloc (.cells #[.int .i64 0, .int .i64 0, .slice none 0 0, .slice none 0 0] 34)).heap.size ((w.alloc (.cells #[.int .i64 num, .slice A l.length c] 31)).alloc (.cells #[.int .i64 0, .int .i64 0, .slice none 0 0, .slice none 0 0] 34))
  have KV := Lib.hid (fun W (hW : Below ((w.alloc (.cells #[.int .i64 num, .slice A l.length c] 31)).alloc (.cells #[.int .i64 0, .int .i64 0, .slice none 0 0, .slice none 0 0] 34)).heap.size ((w.alloc (.cells #[.int .i64 num, .slice A l.length c] 31)).alloc (.cells #[.int .i64 0, .int .i64 0, .slice none 0 0, .slice none 0 0] 34)) W) => refValid_any num l A c w.heap.size W ((h.more hB).below (FB.out W hW)) (FB.out W hW).size)
  have KC := Lib.hid (fun W (hW : Below ((w.alloc (.cells #[.int .i64 num, .slice A l.length c] 31)).alloc (.cells #[.int .i64 0, .int .i64 0, .slice none 0 0, .slice none 0 0] 34)).heap.size ((w.alloc (.cells #[.int .i64 num, .slice A l.length c] 31)).alloc (.cells #[.int .i64 0, .int .i64 0, .slice none 0 0, .slice none 0 0] 34)) W) => refContains_any A c w.heap.size l me W (((h.more hB).below (FB.out W hW)).rd) h.l40)
  have HT := Lib.hid (show okN num l me = (validV num l && hasB l me) from rfl)
  have hn64 := h.num64
  dsimp only [vwV] at *
  cases hv : validV num l
  · have ht := Lib.hid (show okN num l me = false by rw [HT.out, hv]; rfl)
    rw [hv] at KV
    clear h hz h01
    go_enter Tryd.func18, Tryd.ntmps18
    go_wp2_with (go_at_call 27; (with_reducible refine (KV.out _ r0).mono ?_); rintro e w1 ⟨rfl, b1⟩; obtain ⟨q0, q1, z0, z1, z2, z3, f0, f1, f2, f3⟩ := FV.out _ b1)
    refine bodyPost_ret (v := .tuple #[zeroD, .int .i64 1]) (by simp [results, Tryd.results18, go_sem, zeroD, z0, z1, z2, z3]) rfl ⟨?_, (fun h => by rw [ht.out] at h; cases h), fun _ => rfl⟩
    repeat (with_reducible refine below_setV ?_ (by simp) _)
    exact FB.out _ b1
  cases hh : hasB l me
  · have ht := Lib.hid (show okN num l me = false by rw [HT.out, hh]; simp)
    rw [hv] at KV
    rw [hh] at KC
    clear h hz h01
    go_enter Tryd.func18, Tryd.ntmps18
    go_wp2_with (first
      | (go_at_call 27; (with_reducible refine (KV.out _ r0).mono ?_); rintro e w1 ⟨rfl, b1⟩; obtain ⟨q0, q1, z0, z1, z2, z3, f0, f1, f2, f3⟩ := FV.out _ b1)
      | (go_at_call 34; (with_reducible refine (KC.out _ b1).mono ?_); rintro e w2 ⟨rfl, rfl⟩))
    refine bodyPost_ret (v := .tuple #[zeroD, .int .i64 1]) (by simp [results, Tryd.results18, go_sem, zeroD, z0, z1, z2, z3]) rfl ⟨?_, (fun h => by rw [ht.out] at h; cases h), fun _ => rfl⟩
    repeat (with_reducible refine below_setV ?_ (by simp) _)
    exact FB.out _ b1
  have ht := Lib.hid (show okN num l me = true by rw [HT.out, hv, hh]; rfl)
  rw [hv] at KV
  rw [hh] at KC
  have KS := Lib.hid (fun W (hW : Below w.heap.size w W) => (refSubjects_any me A c w.heap.size l W ((h.ls.more hB).below hW) hW.size).mono fun _ _ h => h.to (subL K l me) (subL K l me).length rfl rfl)
  have hsl := subL_len (K := K) (l := l) (x := me)
  have HSL := Lib.hid (show newE K l me = mkE 0 (subL K l me) from rfl)
  generalize subL K l me = sl at *
  obtain ⟨ns, hns⟩ : ∃ n, n = sl.length := ⟨_, rfl⟩
  have HNS := Lib.hid hns
  rw [← hns] at KS hsl
  clear h hz h01 hns HT hv hh
  go_enter Tryd.func18, Tryd.ntmps18
  go_wp2_with (first
      | (go_at_call 27; (with_reducible refine (KV.out _ r0).mono ?_); rintro e w1 ⟨rfl, b1⟩; obtain ⟨q0, q1, z0, z1, z2, z3, f0, f1, f2, f3⟩ := FV.out _ b1)
      | (go_at_call 34; (with_reducible refine (KC.out _ b1).mono ?_); rintro e w2 ⟨rfl, rfl⟩; (have hlt1 : w.heap.size + 1 < w1.heap.size := by (have := b1.size; simp at this; omega)); (have hq1 : (w1.alloc (.cells #[.int .i64 me, .int .i64 num, .slice A l.length c, .slice none 0 0] 34)).cell? ⟨w.heap.size, 1, none⟩ = some (.slice A l.length c) := (World.cell?_alloc_lt _ _ _ (by show w.heap.size < w1.heap.size; omega)).trans q1))
      | (go_at_call 35; (with_reducible refine (KS.out _ (FB.out _ (b1.alloc b1.size _))).mono ?_); rintro e w3 ⟨A3, c3, rfl, hc3, ho3, hr3, hq3⟩)
      | fail)
  have hw1 := FB.out _ b1
  have hB3 := (Blk.new w1 34 #[.int .i64 me, .int .i64 num, .slice A l.length c, .slice none 0 0]).below hq3 (by simp)
  have hb13 : Below w1.heap.size w1 w3 := ((Below.refl _ _).alloc (Nat.le_refl _) _).trans (hq3.mono (by simp))
  have hfar : ∀ ad, A3 = some ad → ad.block ≠ w1.heap.size := by
    intro ad he
    subst he
    have := (ho3.lt ad.block rfl).1
    simp at this
    omega
  have hgl : w1.heap.size < w3.heap.size := hB3.lt
  obtain ⟨g, hg⟩ : ∃ g, g = w1.heap.size := ⟨_, rfl⟩
  rw [← hg] at hB3 hfar hgl ⊢
  have HG := Lib.hid hg
  have HGL := Lib.hid hgl
  have hg1 : w.heap.size + 1 < g := by omega
  have HFAR := Lib.hid hfar
  have HB3 := Lib.hid hB3
  have HR3 := Lib.hid hr3
  have HB13 := Lib.hid hb13
  have HB1 := Lib.hid b1
  have HW1 := Lib.hid hw1
  clear hg hfar hB3 hr3 hb13 hq3 ho3 q0 q1 z0 z1 z2 z3 f0 f1 f2 f3 KV KC KS
  go_loopg [8] ns (fun gk s8 wr => ∃ (k : Nat) (E : Value) (P : List Edge), k + gk = ns ∧ s8 = .int .i64 k ∧ Hid (P = mkE 0 (sl.take k)) ∧ P.length = k ∧ Hid (Blk wr g 34 #[.int .i64 me, .int .i64 num, .slice A l.length c, E]) ∧ Hid (OwnE wr w3.heap.size E P) ∧ Hid (Reads wr w3.heap.size 1 A3 ns (sl.map intV)) ∧ Hid (Below w1.heap.size w1 wr) ∧ w3.heap.size ≤ wr.heap.size)
  case atStart =>
    exact ⟨0, _, [], by omega, rfl, rfl, rfl, HB3.out, World.ownsRow_nil _ _ _ _, HR3.out, HB13.out, Nat.le_refl _⟩
  case round =>
    obtain ⟨k, E, P, hkg, rfl, HP, hPk, HB, HO, HR, HW, hws⟩ := hrel
    obtain ⟨AE, cE, rfl, hcE, _⟩ := OwnE.open_ HO.out
    obtain ⟨np, hnp⟩ : ∃ n, n = P.length := ⟨_, rfl⟩
    have HNP := Lib.hid hnp
    rw [← hnp] at HB HO hcE hPk
    have HPK := Lib.hid hPk
    have d3' := HB.out.cell 3
    have f3' := HB.out.frozen 3
    clear hnp hPk
    cases gk with
    | zero =>
      have hkz : ¬ ((k : Int) < (ns : Int)) := by omega
      have d0 := HB.out.cell 0
      have d1 := HB.out.cell 1
      have d2 := HB.out.cell 2
      have d3 := HB.out.cell 3
      obtain ⟨q0, q1, z0, z1, z2, z3, f0, f1, f2, f3⟩ := FV.out _ (HB1.out.trans (HW.out.mono HB1.out.size))
      go_wp2_with fail
      have ht2 := Lib.hid (show newE K l me = P by rw [HSL.out, HP.out, List.take_of_length_le (by have := HNS.out; omega)])
      refine bodyPost_ret (v := .tuple #[detV me num A l.length c (.slice AE np cE), .int .i64 0]) (by simp [results, Tryd.results18, go_sem, detV, z0, z1, z2, z3]) rfl ⟨?_, (fun _ => ⟨_, rfl, ?_⟩), (fun h => by rw [ht.out] at h; cases h)⟩
      · repeat (with_reducible refine below_setV ?_ (by simp) _)
        exact HW1.out.trans (HW.out.mono HW1.out.size)
      · rw [ht2.out]
        have ho := HO.out
        unfold OwnE at ho ⊢
        refine own_base (base' := w3.heap.size) ?_ (by omega)
        repeat (with_reducible refine own_setV ?_ (by show w.heap.size + 1 < w3.heap.size; omega) _)
        exact ho
    | succ gk =>
      have hkz : (k : Int) < (ns : Int) := by omega
      obtain ⟨ad, u, hA, hadb, hx, hcell⟩ := HR.out.at_ (k := k) (by omega)
      obtain ⟨y, hyk⟩ : ∃ y, sl[k]? = some y := ⟨_, List.getElem?_eq_getElem (by have := HNS.out; omega)⟩
      have huy : u = .int .i64 y := by simp [hyk, intV] at hx; exact hx.symm
      rw [huy] at hcell
      subst hA
      clear hx huy
      go_wp2_with fail
      have hd3 : ∀ o, (wr.alloc o).cell? ⟨g, 3, none⟩ = some (.slice AE np cE) := fun o => (HB.out.alloc o).cell 3
      go_region_law ((refine step_append_edge _ rfl (.tmp 34) (.tmp 41) rfl w3.heap.size _ P ⟨k, y, false, false, 0, 0⟩ _ _ _ rfl (World.ownsRow.alloc (by have := HO.out; unfold OwnE at this; exact this) _) rfl (reads_blk _ _ _) (by have := HPK.out; have := HNP.out; omega) (by simp; omega) ?_; intro v4 w4 ho4 hb4; obtain ⟨A9, c9, hv9, hc9, hr9⟩ := OwnE.open_ ho4; subst hv9; have hB4 := Blk.below (by first | exact (HB.out.alloc _).drew | exact (HB.out.drew).alloc _ | exact HB.out.alloc _) hb4 HGL.out; have d4 := hB4.cell 3; have f4 := hB4.frozen 3; have hb5 : Below w3.heap.size wr w4 := Below.trans (by first | exact ((Below.refl _ _).alloc hws _).drew | exact (Below.refl _ _).drew.alloc hws _ | exact (Below.refl _ _).alloc hws _) hb4))
      all_goals
        have hb6 : Below w3.heap.size wr w4 := by assumption
        have hB6 : Blk w4 g 34 #[.int .i64 me, .int .i64 num, .slice A l.length c, .slice AE np cE] := by assumption
        have ho6 : OwnE w4 w3.heap.size (.slice A9 (P ++ [(⟨k, y, false, false, 0, 0⟩ : Edge)]).length c9) (P ++ [(⟨k, y, false, false, 0, 0⟩ : Edge)]) := by assumption
        have HB6 := Lib.hid hB6
        have HO6 := Lib.hid ho6
        have HB5 := Lib.hid hb6
        clear hB6 ho6 hb6
        go_wp2_with fail
        go_roundg gk
        case measure => omega
        case rel =>
          refine ⟨k + 1, .slice A9 (P ++ [(⟨k, y, false, false, 0, 0⟩ : Edge)]).length c9, P ++ [(⟨k, y, false, false, 0, 0⟩ : Edge)], by omega, by go_num, ?_, ?_, ?_, ?_, ?_, ?_, ?_⟩
          · show _ = _
            rw [HP.out, List.take_add_one, hyk]
            show _ = mkE 0 (sl.take k ++ [y])
            rw [mkE_snoc, List.length_take]
            have h1 := HNS.out
            rw [show min k sl.length = k by omega]
            simp
          · have := HPK.out; have := HNP.out; simp; omega
          · have := HB6.out.set_ 3 (.slice A9 (P ++ [(⟨k, y, false, false, 0, 0⟩ : Edge)]).length c9)
            show Blk _ _ _ _
            simpa using this
          · have := HO6.out
            unfold OwnE at this
            exact own_setV this HGL.out _
          · exact reads_far (HR.out.below HB5.out) (fun ad' he => HFAR.out ad' he) _
          · exact (HW.out.trans (HB5.out.mono (by have := HG.out; omega))).setCell (by show w1.heap.size ≤ g; have := HG.out; omega) _
          · have := HB5.out.size; simp; omega
end Go.Proofs.YtihgbadglaogdaaDoor.Pb

/- The reference of layer 5: Valid. -/
namespace Go.Proofs.YtihgbadglaogdaaDoor.Pb
set_option linter.unusedVariables false
open Go.RowKit
open Go.Proofs.YtihgbadglaogdaaDoor.W
open Go.Proofs.YtihgbadglaogdaaDoor.V
open Go.Proofs.YtihgbadglaogdaaDoor.O

/-- A detector that came in. -/
structure DW (w : World) (B : Nat) (me num : Int) (l : List Int) (A : Option Addr) (c : Nat) (es : List Edge) (E : Option Addr) (cE : Nat) : Prop where
  me64 : In64 me
  vw : VW w B num l A c
  rd : Reads w B 6 E es.length (edgesC es)
  l40 : es.length ≤ 1099511627776
  el : ∀ e ∈ es, In64 e.ring ∧ In64 e.subj ∧ In64 e.cnt ∧ e.bits < 4294967296
  cap : es.length ≤ cE
theorem DW.below {w W : World} {B : Nat} {me num : Int} {l : List Int} {A : Option Addr} {c : Nat} {es : List Edge} {E : Option Addr} {cE : Nat} (h : DW w B me num l A c es E cE) (hb : Below B w W) : DW W B me num l A c es E cE := { h with vw := h.vw.below hb, rd := h.rd.below hb }
theorem DW.more {w : World} {B B' : Nat} {me num : Int} {l : List Int} {A : Option Addr} {c : Nat} {es : List Edge} {E : Option Addr} {cE : Nat} (h : DW w B me num l A c es E cE) (hb : B ≤ B') : DW w B' me num l A c es E cE := { h with vw := h.vw.more hb, rd := h.rd.more hb }
def goodE (n x : Edge) : Bool := decide (x.ring = n.ring) && (decide (x.subj = n.subj) && okWin x.bits x.cnt)
theorem fitE_at : ∀ {N es : List Edge} {k : Nat} {n x : Edge}, fitE N es = true → N[k]? = some n → es[k]? = some x → goodE n x = true
  | [], _, _, _, _, _, h, _ => by cases h
  | _ :: _, [], _, _, _, _, _, h => by cases h
  | a :: N, b :: es, k, n, x, h, h1, h2 => by
    unfold fitE at h
    rw [Bool.and_eq_true] at h
    cases k with
    | zero =>
      simp at h1 h2
      subst h1 h2
      exact h.1
    | succ k => exact fitE_at h.2 (by simpa using h1) (by simpa using h2)
theorem fitE_of : ∀ {N es : List Edge}, N.length = es.length → (∀ (k : Nat) (n x : Edge), N[k]? = some n → es[k]? = some x → goodE n x = true) → fitE N es = true
  | [], [], _, _ => rfl
  | a :: N, [], h, _ => by cases h
  | [], b :: es, h, _ => by cases h
  | a :: N, b :: es, h, hg => by
    unfold fitE
    rw [Bool.and_eq_true]
    exact ⟨hg 0 a b rfl rfl, fitE_of (by simpa using h) fun k n x h1 h2 => hg (k + 1) n x (by simpa using h1) (by simpa using h2)⟩
theorem add_pos {a : Addr} {j : Nat} (h : 0 < j) : a.add j = ⟨a.block, a.off + j, none⟩ := by unfold Addr.add; rw [if_neg (by omega)]
/-- The cells of an element of a row of edges. -/
theorem edge_at {w : World} {B n : Nat} {A : Option Addr} {es : List Edge} {k : Nat} {x : Edge} (h : Reads w B 6 A n (edgesC es)) (hx : es[k]? = some x) :
    ∃ ad, A = some ad ∧ ad.block < B ∧ (ad.add (k * 6)).block = ad.block ∧ w.cell? (ad.add (k * 6)) = some (.int .i64 x.ring) ∧ w.cell? ⟨(ad.add (k * 6)).block, (ad.add (k * 6)).off + 1, none⟩ = some (.int .i64 x.subj) ∧
      w.cell? ⟨(ad.add (k * 6)).block, (ad.add (k * 6)).off + 2, none⟩ = some (.bool x.heard) ∧ w.cell? ⟨(ad.add (k * 6)).block, (ad.add (k * 6)).off + 3, none⟩ = some (.bool x.rep) ∧
      w.cell? ⟨(ad.add (k * 6)).block, (ad.add (k * 6)).off + 4, none⟩ = some (.int .u32 (x.bits : Int)) ∧ w.cell? ⟨(ad.add (k * 6)).block, (ad.add (k * 6)).off + 5, none⟩ = some (.int .i64 x.cnt) := by
  have hl := h.1
  rw [len_edgesC] at hl
  have hk := (List.getElem?_eq_some_iff.1 hx).1
  obtain ⟨ad, hA, hb, hc⟩ := h.2 (by omega)
  have hj : ∀ j, 0 < j → j < 6 → w.cell? ⟨(ad.add (k * 6)).block, (ad.add (k * 6)).off + j, none⟩ = (edgeC x)[j]? := fun j h0 h6 => by
    rw [← add_pos h0, add_of_add]
    have h1 := edgesC_get (j := j) hx h6
    cases hu : (edgesC es)[k * 6 + j]? with
    | none =>
      exfalso
      rw [List.getElem?_eq_none_iff, len_edgesC] at hu
      omega
    | some u => rw [hc _ _ hu, ← h1, hu]
  exact ⟨ad, hA, hb, block_of_add _ _, hc _ _ (edgesC_get (j := 0) hx (by omega)), hj 1 (by omega) (by omega), hj 2 (by omega) (by omega), hj 3 (by omega) (by omega), hj 4 (by omega) (by omega), hj 5 (by omega) (by omega)⟩
theorem len_newE (K : Int → Int → Nat) (l : List Int) (me : Int) : (newE K l me).length ≤ 5 := by
  have : ∀ (l : List Int) (r : Int), (mkE r l).length = l.length := by
    intro l
    induction l with
    | nil => intro r; rfl
    | cons x t ih => intro r; simp [mkE, ih]
  unfold newE
  rw [this]
  exact subL_len
set_option maxRecDepth 1000000 in
set_option maxHeartbeats 4000000 in
theorem refOkD_any (me num : Int) (A E : Option Addr) (c cE B : Nat) (l : List Int) (es : List Edge) (w : World) (h : DW w B me num l A c es E cE) (hB : B ≤ w.heap.size) :
    Calls Tryd.prog 23 #[detV me num A l.length c (.slice E es.length cE)] w (PB w (okD K num l me es)) := by
  have hb0 := (Below.refl w.heap.size w).alloc (Nat.le_refl _) (.cells #[.int .i64 me, .int .i64 num, .slice A l.length c, .slice E es.length cE] 34)
  have hz := Blk.new w 34 #[.int .i64 me, .int .i64 num, .slice A l.length c, .slice E es.length cE]
  have hd := (h.more hB).below hb0
  have KN := Lib.hid (refNew_any me num A c w.heap.size l (w.alloc (.cells #[.int .i64 me, .int .i64 num, .slice A l.length c, .slice E es.length cE] 34)) hd.vw (by simp) h.me64)
  have HT := Lib.hid (show okD K num l me es = (okN num l me && fitE (newE K l me) es) from rfl)
  have HB0 := Lib.hid hb0
  have HZ := Lib.hid hz
  have HD := Lib.hid hd
  have HEL := Lib.hid h.el
  have hl40 := h.l40
  generalize okD K num l me es = t at *
  clear h hb0 hz hd
  dsimp only [detV, vwV] at *
  obtain ⟨ne, hne⟩ : ∃ n, n = es.length := ⟨_, rfl⟩
  have HNE := Lib.hid hne
  cases hok : okN num l me
  · have ht := Lib.hid (show t = false by rw [HT.out, hok]; rfl)
    have HOK := Lib.hid hok
    clear hok hne
    go_enter Tryd.func23, Tryd.ntmps23
    go_wp2_with (go_at_call 18; (with_reducible refine KN.out.mono ?_); rintro e w1 hp; obtain rfl := hp.no HOK.out; (have b1 := hp.bel); dsimp only [zeroD])
    go_ret
    exact ⟨by rw [ht.out]; rfl, (HB0.out.trans (b1.mono (by simp))).alloc (by have := HB0.out.size; have := b1.size; omega) _⟩
  have HOK := Lib.hid hok
  have HT2 := Lib.hid (show t = fitE (newE K l me) es by rw [HT.out, hok]; rfl)
  have hN5 := len_newE K l me
  generalize hN : newE K l me = N at *
  have HN := Lib.hid hN
  obtain ⟨nn, hnn⟩ : ∃ n, n = N.length := ⟨_, rfl⟩
  have HNN := Lib.hid hnn
  rw [← hnn] at hN5
  rw [← hne] at HZ KN HB0 HD hl40 ⊢
  clear hok hne hnn hN HT
  have arm : ∀ {e : Ending} {w1 : World}, NewPost (w.alloc (.cells #[.int .i64 me, .int .i64 num, .slice A l.length c, .slice E ne cE] 34)) me num l A c e w1 →
      ∃ AN cN, e = .returned (.tuple #[.agg #[.int .i64 me, .int .i64 num, .slice A l.length c, .slice AN nn cN], .int .i64 0]) ∧ nn ≤ cN ∧ Reads w1 w1.heap.size 6 AN nn (edgesC N) ∧ Below (w.alloc (.cells #[.int .i64 me, .int .i64 num, .slice A l.length c, .slice E ne cE] 34)).heap.size (w.alloc (.cells #[.int .i64 me, .int .i64 num, .slice A l.length c, .slice E ne cE] 34)) w1 := by
    intro e w1 hp
    obtain ⟨E', rfl, ho⟩ := hp.yes HOK.out
    rw [HN.out] at ho
    obtain ⟨AN, cN, rfl, h1, h2⟩ := ho.open_
    rw [← HNN.out] at h1 h2 ⊢
    exact ⟨AN, cN, rfl, h1, h2, hp.bel⟩
  go_enter Tryd.func23, Tryd.ntmps23
  go_upto_region 2 with (go_at_call 18; (with_reducible refine KN.out.mono ?_); rintro e w1 hp; obtain ⟨AN, cN, rfl, hcN, hrN, b1⟩ := arm hp)
  have hW1 : Below w.heap.size w w1 := HB0.out.trans (b1.mono (by simp))
  have hZ1 := HZ.out.below b1 HZ.out.lt
  have hRE := ((HD.out.rd.below (b1.mono (by simp))).more hW1.size)
  rw [show edgesC es = edgesC es from rfl] at hRE
  obtain ⟨W2, hW2⟩ : ∃ W, W = w1.alloc (.cells #[.int .i64 me, .int .i64 num, .slice A l.length c, .slice AN nn cN] 34) := ⟨_, rfl⟩
  rw [← hW2]
  have hs2 : w1.heap.size < W2.heap.size := by rw [hW2]; simp
  have hb12 : Below w1.heap.size w1 W2 := by rw [hW2]; exact (Below.refl _ _).alloc (Nat.le_refl _) _
  have hgn : Blk W2 w1.heap.size 34 #[.int .i64 me, .int .i64 num, .slice A l.length c, .slice AN nn cN] := by rw [hW2]; exact Blk.new _ _ _
  have hgz : Blk W2 w.heap.size 34 #[.int .i64 me, .int .i64 num, .slice A l.length c, .slice E ne cE] := by rw [hW2]; exact hZ1.alloc _
  have FN := Lib.hid (fun W (hW : Below W2.heap.size W2 W) => hgn.below hW hgn.lt)
  have FZ := Lib.hid (fun W (hW : Below W2.heap.size W2 W) => hgz.below hW hgz.lt)
  have RN := Lib.hid (fun W (hW : Below W2.heap.size W2 W) => ((hrN.below hb12).more (Nat.le_of_lt hs2)).below hW)
  have RE := Lib.hid (fun W (hW : Below W2.heap.size W2 W) => ((hRE.below hb12).more (Nat.le_of_lt hs2)).below hW)
  have FB := Lib.hid (fun W (hW : Below W2.heap.size W2 W) => hW1.trans ((hb12.trans (hW.mono (Nat.le_of_lt hs2))).mono hW1.size))
  obtain ⟨gn, hgn'⟩ : ∃ g, g = w1.heap.size := ⟨_, rfl⟩
  rw [← hgn'] at FN ⊢
  have n3 := (FN.out _ (Below.refl _ _)).cell 3
  have z3 := (FZ.out _ (Below.refl _ _)).cell 3
  clear hrN hgn hgz hb12 hW2 hZ1 hRE b1 KN arm hgn' HD HZ HB0
  by_cases hlen : nn = ne
  case neg =>
    have ht := Lib.hid (show t = false by
      rw [HT2.out]
      cases hf : fitE N es
      · rfl
      · have := fitE_len hf
        rw [← HNE.out, ← HNN.out] at this
        exact absurd this.symm hlen)
    have hlf : ((nn : Int) != (ne : Int)) = true := bneT (by omega)
    clear hlen
    go_wp2_with fail
    go_ret
    exact ⟨by rw [ht.out]; rfl, FB.out _ (Below.refl _ _)⟩
  have hlf : ((nn : Int) != (ne : Int)) = false := bneF (by omega)
  have HLEN := Lib.hid hlen
  have hne5 : ne ≤ 5 := by omega
  clear hlen
  go_wp2_with fail
  go_loopg [5] ne (fun g s5 wr => ∃ (k : Nat), k + g = ne ∧ s5 = .int .i64 k ∧ Hid (∀ (j : Nat) (n x : Edge), j < k → N[j]? = some n → es[j]? = some x → goodE n x = true) ∧ Hid (Below W2.heap.size W2 wr))
  case atStart => exact ⟨0, by omega, rfl, (fun j n x hj => by omega), Below.refl _ _⟩
  case round =>
    obtain ⟨k, hkg, rfl, HJ, HW⟩ := hrel
    have z3 := (FZ.out _ HW.out).cell 3
    cases gk with
    | zero =>
      have hkz : ¬ ((k : Int) < (ne : Int)) := by omega
      have ht := Lib.hid (show t = true by
        rw [HT2.out]
        refine fitE_of (by rw [← HNE.out, ← HNN.out]; exact HLEN.out) fun j n x h1 h2 => HJ.out j n x ?_ h1 h2
        have := (List.getElem?_eq_some_iff.1 h2).1
        rw [← HNE.out] at this
        omega)
      go_wp2_with fail
      go_ret
      exact ⟨by rw [ht.out]; rfl, FB.out _ HW.out⟩
    | succ gk =>
      have hkz : (k : Int) < (ne : Int) := by omega
      have hkn : (k : Int) < (nn : Int) := by have := HLEN.out; omega
      obtain ⟨x, hx⟩ : ∃ x, es[k]? = some x := ⟨_, List.getElem?_eq_getElem (by have := HNE.out; omega)⟩
      obtain ⟨n, hn⟩ : ∃ x, N[k]? = some x := ⟨_, List.getElem?_eq_getElem (by have := HNN.out; omega)⟩
      obtain ⟨adE, rfl, hEb, hEk, x0, x1, x2, x3, x4, x5⟩ := edge_at (RE.out _ HW.out) hx
      obtain ⟨adN, rfl, hNb, hNk, y0, y1, _⟩ := edge_at (RN.out _ HW.out) hn
      have hws := HW.out.size
      have m0 : ∀ o, (wr.alloc o).cell? (adN.add (k * 6)) = some (.int .i64 n.ring) := fun o => (World.cell?_alloc_lt _ _ _ (by rw [hNk]; omega)).trans y0
      have m1 : ∀ o, (wr.alloc o).cell? ⟨(adN.add (k * 6)).block, (adN.add (k * 6)).off + 1, none⟩ = some (.int .i64 n.subj) := fun o => (World.cell?_alloc_lt _ _ _ (by rw [hNk]; omega)).trans y1
      clear y0 y1 hEk hNk
      have n3 : ∀ o, (wr.alloc o).cell? ⟨gn, 3, none⟩ = some (.slice (some adN) nn cN) := fun o => ((FN.out _ HW.out).alloc o).cell 3
      go_wp2_with fail
      obtain ⟨Wx, hWx⟩ : ∃ W, W = wr.alloc (.cells #[.int .i64 x.ring, .int .i64 x.subj, .bool x.heard, .bool x.rep, .int .u32 (x.bits : Int), .int .i64 x.cnt] 58) := ⟨_, rfl⟩
      rw [← hWx]
      have hbx := Blk.new wr 58 #[.int .i64 x.ring, .int .i64 x.subj, .bool x.heard, .bool x.rep, .int .u32 (x.bits : Int), .int .i64 x.cnt]
      have n3 := n3 (.cells #[.int .i64 x.ring, .int .i64 x.subj, .bool x.heard, .bool x.rep, .int .u32 (x.bits : Int), .int .i64 x.cnt] 58)
      have m0 := m0 (.cells #[.int .i64 x.ring, .int .i64 x.subj, .bool x.heard, .bool x.rep, .int .u32 (x.bits : Int), .int .i64 x.cnt] 58)
      have m1 := m1 (.cells #[.int .i64 x.ring, .int .i64 x.subj, .bool x.heard, .bool x.rep, .int .u32 (x.bits : Int), .int .i64 x.cnt] 58)
      have hWW : Below W2.heap.size W2 Wx := by rw [hWx]; exact HW.out.alloc hws _
      rw [← hWx] at hbx n3 m0 m1
      have c0 := hbx.cell 0
      have c1 := hbx.cell 1
      have c4 := hbx.cell 4
      have c5 := hbx.cell 5
      have HWW := Lib.hid hWW
      have hlx : wr.heap.size < Wx.heap.size := hbx.lt
      have hgnl : gn < Wx.heap.size := H.cell_lt n3
      have hadl : (adN.add (k * 6)).block < Wx.heap.size := H.cell_lt m0
      have HS := Lib.hid (fun W (hq : Below Wx.heap.size Wx W) => (show W.cell? ⟨wr.heap.size, 0, none⟩ = some (.int .i64 x.ring) ∧ W.cell? ⟨wr.heap.size, 1, none⟩ = some (.int .i64 x.subj) ∧ W.cell? ⟨wr.heap.size, 4, none⟩ = some (.int .u32 (x.bits : Int)) ∧ W.cell? ⟨wr.heap.size, 5, none⟩ = some (.int .i64 x.cnt) ∧ W.cell? ⟨gn, 3, none⟩ = some (.slice (some adN) nn cN) ∧ W.cell? (adN.add (k * 6)) = some (.int .i64 n.ring) ∧ W.cell? ⟨(adN.add (k * 6)).block, (adN.add (k * 6)).off + 1, none⟩ = some (.int .i64 n.subj) from
        ⟨(hq.cell hlx).trans c0, (hq.cell hlx).trans c1, (hq.cell hlx).trans c4, (hq.cell hlx).trans c5, (hq.cell hgnl).trans n3, (hq.cell hadl).trans m0, (hq.cell (p := ⟨(adN.add (k * 6)).block, (adN.add (k * 6)).off + 1, none⟩) hadl).trans m1⟩))
      have hbit := (HEL.out x (List.mem_of_getElem? hx)).2.2
      have hG := Lib.hid (show goodE n x = (decide (x.ring = n.ring) && (decide (x.subj = n.subj) && okWin x.bits x.cnt)) from rfl)
      have hno : goodE n x = false → t = false := fun hg => by
        rw [HT2.out]
        cases hf : fitE N es
        · rfl
        · have := fitE_at hf hn hx
          rw [hg] at this
          cases this
      have HX := Lib.hid hx
      have HNX := Lib.hid hn
      clear hbx hWx x0 x1 x2 x3 x4 x5 hWW hx hn
      by_cases hr : x.ring = n.ring
      case neg =>
        have ht := Lib.hid (hno (by rw [hG.out, decide_eq_false hr]; rfl))
        have hrf : (x.ring != n.ring) = true := bneT hr
        clear hno hr
        go_quiet (fail)
        go_wp2_with fail
        go_ret
        exact ⟨by rw [ht.out]; rfl, FB.out _ (below_drewN' HWW.out _)⟩
      have hrf : (x.ring != n.ring) = false := bneF hr
      by_cases hsj : x.subj = n.subj
      case neg =>
        have ht := Lib.hid (hno (by rw [hG.out, decide_eq_false hsj]; simp))
        have hsf : (x.subj != n.subj) = true := bneT hsj
        clear hno hr hsj
        go_quiet (fail)
        go_wp2_with fail
        go_ret
        exact ⟨by rw [ht.out]; rfl, FB.out _ (below_drewN' HWW.out _)⟩
      have hsf : (x.subj != n.subj) = false := bneF hsj
      have KW := Lib.hid (fun W => refOkWin_any x.bits x.cnt W hbit.2 hbit.1)
      cases hw : okWin x.bits x.cnt
      · have ht := Lib.hid (hno (by rw [hG.out, hw]; simp))
        rw [hw] at KW
        dsimp only [winV] at KW
        clear hno hr hsj hw
        go_region_held3 (fun W' => W'.cell? ⟨wr.heap.size, 0, none⟩ = some (.int .i64 x.ring) ∧ W'.cell? ⟨wr.heap.size, 1, none⟩ = some (.int .i64 x.subj) ∧ W'.cell? ⟨wr.heap.size, 4, none⟩ = some (.int .u32 (x.bits : Int)) ∧ W'.cell? ⟨wr.heap.size, 5, none⟩ = some (.int .i64 x.cnt) ∧ W'.cell? ⟨gn, 3, none⟩ = some (.slice (some adN) nn cN) ∧ W'.cell? (adN.add (k * 6)) = some (.int .i64 n.ring) ∧ W'.cell? ⟨(adN.add (k * 6)).block, (adN.add (k * 6)).off + 1, none⟩ = some (.int .i64 n.subj)) (first | exact hs8 | exact HS.out _ (Below.refl _ _).drew | exact HS.out _ (Below.refl _ _)) (first
          | (go_at_call 11; (with_reducible refine (KW.out _).mono ?_); rintro e w8 ⟨rfl, hq8⟩; have hb8 : Below W2.heap.size W2 w8 := HWW.out.trans (Below.trans (by first | exact (Below.refl _ _).drew | exact Below.refl _ _) (hq8.mono HWW.out.size)); have hs8 := HS.out _ (Below.trans (by first | exact (Below.refl _ _).drew | exact Below.refl _ _) hq8))
          | fail)
        all_goals
          go_wp2_with fail
          go_ret
          exact ⟨by rw [ht.out]; rfl, FB.out _ (by first | exact hb8 | exact hb8.drew)⟩
      · have hg := Lib.hid (show goodE n x = true by rw [hG.out, decide_eq_true hr, decide_eq_true hsj, hw]; rfl)
        rw [hw] at KW
        dsimp only [winV] at KW
        clear hno hr hsj hw
        go_region_held3 (fun W' => W'.cell? ⟨wr.heap.size, 0, none⟩ = some (.int .i64 x.ring) ∧ W'.cell? ⟨wr.heap.size, 1, none⟩ = some (.int .i64 x.subj) ∧ W'.cell? ⟨wr.heap.size, 4, none⟩ = some (.int .u32 (x.bits : Int)) ∧ W'.cell? ⟨wr.heap.size, 5, none⟩ = some (.int .i64 x.cnt) ∧ W'.cell? ⟨gn, 3, none⟩ = some (.slice (some adN) nn cN) ∧ W'.cell? (adN.add (k * 6)) = some (.int .i64 n.ring) ∧ W'.cell? ⟨(adN.add (k * 6)).block, (adN.add (k * 6)).off + 1, none⟩ = some (.int .i64 n.subj)) (first | exact hs8 | exact HS.out _ (Below.refl _ _).drew | exact HS.out _ (Below.refl _ _)) (first
          | (go_at_call 11; (with_reducible refine (KW.out _).mono ?_); rintro e w8 ⟨rfl, hq8⟩; have hb8 : Below W2.heap.size W2 w8 := HWW.out.trans (Below.trans (by first | exact (Below.refl _ _).drew | exact Below.refl _ _) (hq8.mono HWW.out.size)); have hs8 := HS.out _ (Below.trans (by first | exact (Below.refl _ _).drew | exact Below.refl _ _) hq8))
          | fail)
        all_goals
          go_wp2_with fail
          go_roundg gk
          case measure => omega
          case rel =>
            refine ⟨k + 1, by omega, by go_num, ?_, by first | exact hb8 | exact hb8.drew⟩
            show ∀ (j : Nat) (n x : Edge), j < k + 1 → N[j]? = some n → es[j]? = some x → goodE n x = true
            intro j n' x' hj h1 h2
            by_cases hjk : j = k
            · subst hjk
              rw [HNX.out] at h1
              rw [HX.out] at h2
              cases h1
              cases h2
              exact hg.out
            · exact HJ.out j n' x' (by omega) h1 h2
end Go.Proofs.YtihgbadglaogdaaDoor.Pb

/- The reference of layer 5: Heard. -/
namespace Go.Proofs.YtihgbadglaogdaaDoor.Pb
set_option linter.unusedVariables false
open Go.RowKit
open Go.Proofs.YtihgbadglaogdaaDoor.W
open Go.Proofs.YtihgbadglaogdaaDoor.V
open Go.Proofs.YtihgbadglaogdaaDoor.O

theorem cells44 {W : World} {g1 g2 : Nat} {t t' : TypeId} {a0 a1 a2 a3 b0 b1 b2 b3 : Value} (h : Blk W g1 t #[a0, a1, a2, a3]) (h' : Blk W g2 t' #[b0, b1, b2, b3]) :
    W.cell? ⟨g1, 0, none⟩ = some a0 ∧ W.cell? ⟨g1, 1, none⟩ = some a1 ∧ W.cell? ⟨g1, 2, none⟩ = some a2 ∧ W.cell? ⟨g1, 3, none⟩ = some a3 ∧ W.cell? ⟨g2, 0, none⟩ = some b0 ∧ W.cell? ⟨g2, 1, none⟩ = some b1 ∧ W.cell? ⟨g2, 2, none⟩ = some b2 ∧ W.cell? ⟨g2, 3, none⟩ = some b3 ∧
      W.frozen? ⟨g2, 0, none⟩ = false ∧ W.frozen? ⟨g2, 1, none⟩ = false ∧ W.frozen? ⟨g2, 2, none⟩ = false ∧ W.frozen? ⟨g2, 3, none⟩ = false :=
  ⟨h.cell 0, h.cell 1, h.cell 2, h.cell 3, h'.cell 0, h'.cell 1, h'.cell 2, h'.cell 3, h'.frozen 0, h'.frozen 1, h'.frozen 2, h'.frozen 3⟩
theorem reads_at {w : World} {g : Nat} (cs : Array Value) (t : TypeId) (hg : w.heap.size = g) : Reads (w.alloc (.cells cs t)) (g + 1) cs.size (some ⟨g, 0, none⟩) 1 cs.toList := by
  subst hg
  exact reads_blk w cs t
/-- One edge appended to a row of the call's own, in a plain region. -/
theorem wp_append_edge {ops : Array Oper} {rest : List Oper} {o : Oper} {a : Act} {Q : Exit → Act → World → Prop} (W : World) (hgd : o.guard = none) (s x : Operand)
    (ho : o.op = .call { callee := .builtin .append, args := #[s, x], argTypes := #[32, 32] }) (base : Nat) (v : Value) (es : List Edge) (e : Edge) (B c : Nat) (A : Option Addr) (hs : a.eval s = v)
    (hown : W.ownsRow base 58 6 v es.length (edgesC es)) (hx : a.eval x = .slice A 1 c) (hr : Reads W B 6 A 1 (edgeC e))
    (hl : es.length ≤ 1099511627776) (hbase : base ≤ W.heap.size)
    (h : ∀ v' w', w'.ownsRow base 58 6 v' (es ++ [e]).length (edgesC (es ++ [e])) → Below base W w' → wpList Tryd.prog ops Q rest (a.put o.dst v') w') : wpList Tryd.prog ops Q (o :: rest) a W := by
  obtain ⟨i0, hi, hz0, hz1, hz2⟩ := info_parts edgeInfo
  refine wpList_append_any W hgd s x 32 ho base 58 i0 _ 6 40 Tryd.underlying32 hi hz0 hz1 hz2 rfl (by decide) v _ _ hs hown B A 1 c _ hx hr (by rw [← edgesC_one]; exact edgesC_cell _) ?_ ?_ hbase ?_
  · unfold maxLen; omega
  · omega
  · intro v' w' h1 h2 _
    refine h v' w' ?_ ((Below.refl _ _).grown h2 hbase fun q hq => (hown.lt q hq).1)
    rw [edgesC_app, edgesC_one, List.length_append]
    exact h1
theorem wp_append_alr {ops : Array Oper} {rest : List Oper} {o : Oper} {a : Act} {Q : Exit → Act → World → Prop} (W : World) (hgd : o.guard = none) (s x : Operand)
    (ho : o.op = .call { callee := .builtin .append, args := #[s, x], argTypes := #[39, 39] }) (base : Nat) (v : Value) (es : List Alr) (e : Alr) (B c : Nat) (A : Option Addr) (hs : a.eval s = v)
    (hown : W.ownsRow base 52 4 v es.length (alrsC es)) (hx : a.eval x = .slice A 1 c) (hr : Reads W B 4 A 1 (alrC e))
    (hl : es.length ≤ 1099511627776) (hbase : base ≤ W.heap.size)
    (h : ∀ v' w', w'.ownsRow base 52 4 v' (es ++ [e]).length (alrsC (es ++ [e])) → w'.ownsRow base 52 4 v' (es ++ [e]).length (alrsC (es ++ [e])) → Below base W w' → W.grownBy w' v.ownBlock → wpList Tryd.prog ops Q rest (a.put o.dst v') w') : wpList Tryd.prog ops Q (o :: rest) a W := by
  obtain ⟨i0, hi, hz0, hz1, hz2⟩ := info_parts alrInfo
  refine wpList_append_any W hgd s x 39 ho base 52 i0 _ 4 32 Tryd.underlying39 hi hz0 hz1 hz2 rfl (by decide) v _ _ hs hown B A 1 c _ hx hr (by rw [← alrsC_one]; exact alrsC_cell _) ?_ ?_ hbase ?_
  · unfold maxLen; omega
  · omega
  · intro v' w' h1 h2 _
    have h3 : w'.ownsRow base 52 4 v' (es ++ [e]).length (alrsC (es ++ [e])) := by
      rw [alrsC_app, alrsC_one, List.length_append]
      exact h1
    exact h v' w' h3 h3 ((Below.refl _ _).grown h2 hbase fun q hq => (hown.lt q hq).1) h2
/-- What Heard leaves. -/
structure DetPost (w : World) (ok : Bool) (me num : Int) (l : List Int) (A : Option Addr) (c : Nat) (es : List Edge) (e : Ending) (w' : World) : Prop where
  bel : Below w.heap.size w w'
  yes : ok = true → ∃ E, e = .returned (detV me num A l.length c E) ∧ OwnE w' w.heap.size E es
  no : ok = false → e = .returned zeroD
set_option maxRecDepth 1000000 in
set_option maxHeartbeats 4000000 in
theorem refHeard_any (me num frm : Int) (A E : Option Addr) (c cE B : Nat) (l : List Int) (es : List Edge) (w : World) (h : DW w B me num l A c es E cE) (hB : B ≤ w.heap.size) (hf : In64 frm) :
    Calls Tryd.prog 25 #[detV me num A l.length c (.slice E es.length cE), .int .i64 frm] w (DetPost w (okD K num l me es) me num l A c (hear frm es)) := by
  have h01 : Below w.heap.size w ((w.alloc (.cells #[.int .i64 me, .int .i64 num, .slice A l.length c, .slice E es.length cE] 34)).alloc (.cells #[.int .i64 0, .int .i64 0, .slice none 0 0, .slice none 0 0] 34)) := ((Below.refl w.heap.size w).alloc (Nat.le_refl _) _).alloc (by simp) _
  have hz := two_blk w 34 34 #[.int .i64 me, .int .i64 num, .slice A l.length c, .slice E es.length cE] #[.int .i64 0, .int .i64 0, .slice none 0 0, .slice none 0 0]
  have FB := Lib.hid (fun W (hW : Below ((w.alloc (.cells #[.int .i64 me, .int .i64 num, .slice A l.length c, .slice E es.length cE] 34)).alloc (.cells #[.int .i64 0, .int .i64 0, .slice none 0 0, .slice none 0 0] 34)).heap.size ((w.alloc (.cells #[.int .i64 me, .int .i64 num, .slice A l.length c, .slice E es.length cE] 34)).alloc (.cells #[.int .i64 0, .int .i64 0, .slice none 0 0, .slice none 0 0] 34)) W) => h01.trans (hW.mono (by simp; omega)))
  have FV := Lib.hid (fun W (hW : Below ((w.alloc (.cells #[.int .i64 me, .int .i64 num, .slice A l.length c, .slice E es.length cE] 34)).alloc (.cells #[.int .i64 0, .int .i64 0, .slice none 0 0, .slice none 0 0] 34)).heap.size ((w.alloc (.cells #[.int .i64 me, .int .i64 num, .slice A l.length c, .slice E es.length cE] 34)).alloc (.cells #[.int .i64 0, .int .i64 0, .slice none 0 0, .slice none 0 0] 34)) W) => cells44 (hz.1.below hW hz.1.lt) (hz.2.below hW hz.2.lt))
  have r0 := Below.refl ((w.alloc (.cells #[.int .i64 me, .int .i64 num, .slice A l.length c, .slice E es.length cE] 34)).alloc (.cells #[.int .i64 0, .int .i64 0, .slice none 0 0, .slice none 0 0] 34)).heap.size ((w.alloc (.cells #[.int .i64 me, .int .i64 num, .slice A l.length c, .slice E es.length cE] 34)).alloc (.cells #[.int .i64 0, .int .i64 0, .slice none 0 0, .slice none 0 0] 34))
  have KV := Lib.hid (fun W (hW : Below ((w.alloc (.cells #[.int .i64 me, .int .i64 num, .slice A l.length c, .slice E es.length cE] 34)).alloc (.cells #[.int .i64 0, .int .i64 0, .slice none 0 0, .slice none 0 0] 34)).heap.size ((w.alloc (.cells #[.int .i64 me, .int .i64 num, .slice A l.length c, .slice E es.length cE] 34)).alloc (.cells #[.int .i64 0, .int .i64 0, .slice none 0 0, .slice none 0 0] 34)) W) => refOkD_any me num A E c cE w.heap.size l es W ((h.more hB).below (FB.out W hW)) (FB.out W hW).size)
  have HD := Lib.hid (fun W (hW : Below w.heap.size w W) => ((h.more hB).below hW).rd)
  have hl40 := h.l40
  dsimp only [detV] at *
  clear h hz h01
  cases hv : okD K num l me es
  · rw [hv] at KV
    clear hv
    go_enter Tryd.func25, Tryd.ntmps25
    go_wp2_with (go_at_call 23; (with_reducible refine (KV.out _ r0).mono ?_); rintro e w1 ⟨rfl, hq1⟩; obtain ⟨q0, q1, q2, q3, z0, z1, z2, z3, f0, f1, f2, f3⟩ := FV.out _ hq1)
    refine bodyPost_ret (v := zeroD) (by simp [results, Tryd.results25, go_sem, zeroD, z0, z1, z2, z3]) rfl ⟨?_, (fun h => by cases h), fun _ => rfl⟩
    repeat (with_reducible refine below_setV ?_ (by simp) _)
    exact FB.out _ hq1
  rw [hv] at KV
  clear hv
  obtain ⟨ne, hne⟩ : ∃ n, n = es.length := ⟨_, rfl⟩
  have HNE := Lib.hid hne
  rw [← hne] at KV FV FB HD hl40 r0 ⊢
  clear hne
  go_enter Tryd.func25, Tryd.ntmps25
  go_wp2_with (go_at_call 23; (with_reducible refine (KV.out _ r0).mono ?_); rintro e w1 ⟨rfl, hq1⟩; obtain ⟨q0, q1, q2, q3, z0, z1, z2, z3, f0, f1, f2, f3⟩ := FV.out _ hq1)
  have hw1 := FB.out _ hq1
  have hg3 := Blk.new w1 34 #[.int .i64 me, .int .i64 num, .slice A l.length c, .slice none 0 0]
  have hb3 : Below w1.heap.size w1 (w1.alloc (.cells #[.int .i64 me, .int .i64 num, .slice A l.length c, .slice none 0 0] 34)) := (Below.refl _ _).alloc (Nat.le_refl _) _
  have hs1 : w.heap.size + 2 ≤ w1.heap.size := by have := hq1.size; simp at this; omega
  obtain ⟨g, hg⟩ : ∃ g, g = w1.heap.size := ⟨_, rfl⟩
  have hgs : (w1.alloc (.cells #[.int .i64 me, .int .i64 num, .slice A l.length c, .slice none 0 0] 34)).heap.size = g + 1 := by rw [hg]; simp
  have HG := Lib.hid hg
  rw [← hg] at hg3 hs1 ⊢
  have HG3 := Lib.hid hg3
  have HB3 := Lib.hid hb3
  have HGS := Lib.hid hgs
  have HQ1 := Lib.hid hq1
  have HW1 := Lib.hid hw1
  clear hg hg3 hb3 hgs hq1 hw1 KV q0 q1 q2 q3 z0 z1 z2 z3 f0 f1 f2 f3
  go_loopg [6] ne (fun gk s6 wr => ∃ (k : Nat) (E' : Value) (P : List Edge), k + gk = ne ∧ s6 = .int .i64 k ∧ Hid (P = (es.take k).map (hearE frm)) ∧ P.length = k ∧ Hid (Blk wr g 34 #[.int .i64 me, .int .i64 num, .slice A l.length c, E']) ∧ Hid (OwnE wr (g + 1) E' P) ∧ Hid (Below w1.heap.size w1 wr) ∧ g + 1 ≤ wr.heap.size)
  case atStart => exact ⟨0, _, [], by omega, rfl, rfl, rfl, HG3.out, World.ownsRow_nil _ _ _ _, HB3.out, Nat.le_of_eq HGS.out.symm⟩
  case round =>
    obtain ⟨k, E', P, hkg, rfl, HP, hPk, HB, HO, HW, hws⟩ := hrel
    obtain ⟨AE, cE', rfl, hcE', _⟩ := OwnE.open_ HO.out
    obtain ⟨np, hnp⟩ : ∃ n, n = P.length := ⟨_, rfl⟩
    have HNP := Lib.hid hnp
    rw [← hnp] at HB hcE' hPk HO
    have HPK := Lib.hid hPk
    have d3 := HB.out.cell 3
    obtain ⟨q0, q1, q2, q3, z0, z1, z2, z3, f0, f1, f2, f3⟩ := FV.out _ (HQ1.out.trans (HW.out.mono HQ1.out.size))
    clear hnp hPk
    cases gk with
    | zero =>
      have hkz : ¬ ((k : Int) < (ne : Int)) := by omega
      have d0 := HB.out.cell 0
      have d1 := HB.out.cell 1
      have d2 := HB.out.cell 2
      go_wp2_with fail
      have ht2 := Lib.hid (show hear frm es = P by rw [HP.out, List.take_of_length_le (by have := HNE.out; omega)]; rfl)
      refine bodyPost_ret (v := detV me num A l.length c (.slice AE np cE')) (by simp [results, Tryd.results25, go_sem, detV, z0, z1, z2, z3]) rfl ⟨?_, (fun _ => ⟨_, rfl, ?_⟩), (fun h => by cases h)⟩
      · repeat (with_reducible refine below_setV ?_ (by simp) _)
        exact HW1.out.trans (HW.out.mono HW1.out.size)
      · rw [ht2.out]
        have ho := HO.out
        unfold OwnE at ho ⊢
        refine own_base (base' := g + 1) ?_ (by omega)
        repeat (with_reducible refine own_setV ?_ (by show w.heap.size + 1 < g + 1; omega) _)
        exact ho
    | succ gk =>
      have hkz : (k : Int) < (ne : Int) := by omega
      obtain ⟨x, hx⟩ : ∃ x, es[k]? = some x := ⟨_, List.getElem?_eq_getElem (by have := HNE.out; omega)⟩
      obtain ⟨adE, rfl, hEb, hEk, x0, x1, x2, x3, x4, x5⟩ := edge_at (HD.out _ (HW1.out.trans (HW.out.mono HW1.out.size))) hx
      have d3' : ∀ o, (wr.alloc o).cell? ⟨g, 3, none⟩ = some (.slice AE np cE') := fun o => (HB.out.alloc o).cell 3
      obtain ⟨rg, sb, hd, rp, bt, ct⟩ := x
      obtain ⟨v, hv⟩ : ∃ v, v = (sb == frm) := ⟨_, rfl⟩
      have hve := hv.symm
      have HV := Lib.hid (show (sb == frm) = decide (sb = frm) from rfl)
      have HX := Lib.hid hx
      clear hx hEk hv
      cases hd
      · go_wp2_with (at_builtin; (refine wp_append_edge _ rfl (.tmp 39) (.tmp 41) rfl (g + 1) _ P (⟨rg, sb, v, rp, bt, ct⟩ : Edge) _ _ _ rfl (World.ownsRow.alloc (World.ownsRow.alloc (by have := HO.out; unfold OwnE at this; exact this) _) _) rfl (reads_at _ _ (by simp)) (by have := HPK.out; have := HNP.out; omega) (by simp; omega) ?_; intro v4 w4 ho4 hb4; obtain ⟨A9, c9, hv9, hc9, hr9⟩ := OwnE.open_ ho4; subst hv9; have hB4 := Blk.below ((HB.out.alloc _).alloc _) hb4 (Nat.lt_succ_self g); have d4 := hB4.cell 3; have f4 := hB4.frozen 3; have hb5 : Below (g + 1) wr w4 := Below.trans (((Below.refl _ _).alloc hws _).alloc (by simp; omega) _) hb4))
        have HB6 := Lib.hid hB4
        have HO6 := Lib.hid ho4
        have HB5 := Lib.hid hb5
        clear hB4 ho4 hb5
        go_roundg gk
        case measure => omega
        case rel =>
          refine ⟨k + 1, .slice A9 (P ++ [(⟨rg, sb, v, rp, bt, ct⟩ : Edge)]).length c9, P ++ [(⟨rg, sb, v, rp, bt, ct⟩ : Edge)], by omega, by go_num, ?_, ?_, ?_, ?_, ?_, ?_⟩
          · show _ = _
            rw [HP.out, List.take_add_one, HX.out]
            simp [hearE, ← hve, HV.out]
          · have := HPK.out; have := HNP.out; simp; omega
          · have := HB6.out.set_ 3 (.slice A9 (P ++ [(⟨rg, sb, v, rp, bt, ct⟩ : Edge)]).length c9)
            show Blk _ _ _ _
            simpa using this
          · have := HO6.out
            exact own_setV this (Nat.lt_succ_self g) _
          · exact (HW.out.trans (HB5.out.mono (by have := HG.out; omega))).setCell (by show w1.heap.size ≤ g; have := HG.out; omega) _
          · have := HB5.out.size; simp; omega
      · go_wp2_with (at_builtin; (refine wp_append_edge _ rfl (.tmp 39) (.tmp 41) rfl (g + 1) _ P (⟨rg, sb, true, rp, bt, ct⟩ : Edge) _ _ _ rfl (World.ownsRow.alloc (World.ownsRow.alloc (by have := HO.out; unfold OwnE at this; exact this) _) _) rfl (reads_at _ _ (by simp)) (by have := HPK.out; have := HNP.out; omega) (by simp; omega) ?_; intro v4 w4 ho4 hb4; obtain ⟨A9, c9, hv9, hc9, hr9⟩ := OwnE.open_ ho4; subst hv9; have hB4 := Blk.below ((HB.out.alloc _).alloc _) hb4 (Nat.lt_succ_self g); have d4 := hB4.cell 3; have f4 := hB4.frozen 3; have hb5 : Below (g + 1) wr w4 := Below.trans (((Below.refl _ _).alloc hws _).alloc (by simp; omega) _) hb4))
        have HB6 := Lib.hid hB4
        have HO6 := Lib.hid ho4
        have HB5 := Lib.hid hb5
        clear hB4 ho4 hb5
        go_roundg gk
        case measure => omega
        case rel =>
          refine ⟨k + 1, .slice A9 (P ++ [(⟨rg, sb, true, rp, bt, ct⟩ : Edge)]).length c9, P ++ [(⟨rg, sb, true, rp, bt, ct⟩ : Edge)], by omega, by go_num, ?_, ?_, ?_, ?_, ?_, ?_⟩
          · show _ = _
            rw [HP.out, List.take_add_one, HX.out]
            simp [hearE]
          · have := HPK.out; have := HNP.out; simp; omega
          · have := HB6.out.set_ 3 (.slice A9 (P ++ [(⟨rg, sb, true, rp, bt, ct⟩ : Edge)]).length c9)
            show Blk _ _ _ _
            simpa using this
          · have := HO6.out
            exact own_setV this (Nat.lt_succ_self g) _
          · exact (HW.out.trans (HB5.out.mono (by have := HG.out; omega))).setCell (by show w1.heap.size ≤ g; have := HG.out; omega) _
          · have := HB5.out.size; simp; omega
end Go.Proofs.YtihgbadglaogdaaDoor.Pb

/- The reference of layer 5: Tick. -/
namespace Go.Proofs.YtihgbadglaogdaaDoor.Pb
set_option linter.unusedVariables false
open Go.RowKit
open Go.Proofs.YtihgbadglaogdaaDoor.W
open Go.Proofs.YtihgbadglaogdaaDoor.V
open Go.Proofs.YtihgbadglaogdaaDoor.O

def OwnA (w' : World) (B : Nat) (AL : Value) (as_ : List Alr) : Prop := w'.ownsRow B 52 4 AL as_.length (alrsC as_)
theorem own_apart {w : World} {base base' : Nat} {e e' : TypeId} {size size' n n' : Nat} {v v' : Value} {xs xs' : List Value} (h : w.ownsRow base e size v n xs) (h' : w.ownsRow base' e' size' v' n' xs') (hne : e ≠ e') : v.ownBlock = none ∨ v.ownBlock ≠ v'.ownBlock := by
  rcases h'.2 with ⟨rfl, _⟩ | ⟨g, cap, cur, rfl, _, hg, _⟩
  · cases hv : v.ownBlock
    · exact .inl rfl
    · exact .inr (by simp [Value.ownBlock])
  · exact .inr (own_blk_ne (t := e') (cs := cur) h hg hne)
/-- What a round of Tick keeps. -/
structure St (w1 W : World) (g : Nat) (cs : Array Value) (E : Value) (P : List Edge) (AL : Value) (R : List Alr) : Prop where
  bel : Below w1.heap.size w1 W
  out : Blk W g 34 cs
  edg : OwnE W (g + 1) E P
  alr : OwnA W (g + 1) AL R
  sz : g + 1 ≤ W.heap.size
  g1 : w1.heap.size ≤ g
section
variable {w1 W W' : World} {g : Nat} {cs : Array Value} {E AL : Value} {P : List Edge} {R : List Alr}
theorem St.on (h : St w1 W g cs E P AL R) (hq : Below W.heap.size W W') : St w1 W' g cs E P AL R :=
  ⟨h.bel.trans (hq.mono h.bel.size), h.out.below hq h.out.lt, own_below h.edg hq, own_below h.alr hq, Nat.le_trans h.sz hq.size, h.g1⟩
theorem St.alloc (h : St w1 W g cs E P AL R) (o : Obj) : St w1 (W.alloc o) g cs E P AL R := h.on ((Below.refl _ _).alloc (Nat.le_refl _) o)
theorem St.set (h : St w1 W g cs E P AL R) {p : Addr} (hp : g < p.block) (hE : E.ownBlock ≠ some p.block) (hA : AL.ownBlock ≠ some p.block) (u : Value) : St w1 (W.setCell p u) g cs E P AL R :=
  ⟨h.bel.setCell (by have := h.g1; omega) u, h.out.far (by omega) u, ownsRow_setCell_other h.edg hE u, ownsRow_setCell_other h.alr hA u, by have := h.sz; simpa using this, h.g1⟩
theorem St.far (h : St w1 W g cs E P AL R) {b : Nat} (hb : W.heap.size ≤ b) : E.ownBlock ≠ some b ∧ AL.ownBlock ≠ some b :=
  ⟨fun e => by have := (h.edg.lt b e).2; omega, fun e => by have := (h.alr.lt b e).2; omega⟩
theorem St.alert (h : St w1 W g cs E P AL R) {AL' : Value} {R' : List Alr} (ho : OwnA W' (g + 1) AL' R') (hb : Below (g + 1) W W') (hg : W.grownBy W' AL.ownBlock) : St w1 W' g cs E P AL' R' :=
  ⟨h.bel.trans (hb.mono (by have := h.g1; omega)), h.out.below hb (Nat.lt_succ_self g), h.edg.kept hg (own_apart h.edg h.alr (by decide)), ho, Nat.le_trans h.sz hb.size, h.g1⟩
theorem St.edge (h : St w1 W g cs E P AL R) {E' : Value} {P' : List Edge} (ho : OwnE W' (g + 1) E' P') (hb : Below (g + 1) W W') (hg : W.grownBy W' E.ownBlock) : St w1 W' g cs E' P' AL R :=
  ⟨h.bel.trans (hb.mono (by have := h.g1; omega)), h.out.below hb (Nat.lt_succ_self g), ho, h.alr.kept hg (own_apart h.alr h.edg (by decide)), Nat.le_trans h.sz hb.size, h.g1⟩
theorem St.setOut (h : St w1 W g cs E P AL R) (j : Nat) (u : Value) : St w1 (W.setCell ⟨g, j, none⟩ u) g (cs.setIfInBounds j u) E P AL R :=
  ⟨h.bel.setCell h.g1 u, h.out.set_ j u, own_setV h.edg (Nat.lt_succ_self g) u, own_setV h.alr (Nat.lt_succ_self g) u, by have := h.sz; simpa using this, h.g1⟩
end
/-- One edge appended: and what has grown. -/
theorem wp_append_edge2 {ops : Array Oper} {rest : List Oper} {o : Oper} {a : Act} {Q : Exit → Act → World → Prop} (W : World) (hgd : o.guard = none) (s x : Operand)
    (ho : o.op = .call { callee := .builtin .append, args := #[s, x], argTypes := #[32, 32] }) (base : Nat) (v : Value) (es : List Edge) (e : Edge) (B c : Nat) (A : Option Addr) (hs : a.eval s = v)
    (hown : W.ownsRow base 58 6 v es.length (edgesC es)) (hx : a.eval x = .slice A 1 c) (hr : Reads W B 6 A 1 (edgeC e))
    (hl : es.length ≤ 1099511627776) (hbase : base ≤ W.heap.size)
    (h : ∀ v' w', OwnE w' base v' (es ++ [e]) → Below base W w' → W.grownBy w' v.ownBlock → wpList Tryd.prog ops Q rest (a.put o.dst v') w') : wpList Tryd.prog ops Q (o :: rest) a W := by
  obtain ⟨i0, hi, hz0, hz1, hz2⟩ := info_parts edgeInfo
  refine wpList_append_any W hgd s x 32 ho base 58 i0 _ 6 40 Tryd.underlying32 hi hz0 hz1 hz2 rfl (by decide) v _ _ hs hown B A 1 c _ hx hr (by rw [← edgesC_one]; exact edgesC_cell _) ?_ ?_ hbase ?_
  · unfold maxLen; omega
  · omega
  · intro v' w' h1 h2 _
    refine h v' w' ?_ ((Below.refl _ _).grown h2 hbase fun q hq => (hown.lt q hq).1) h2
    unfold OwnE
    rw [edgesC_app, edgesC_one, List.length_append]
    exact h1
/-- What Tick leaves. -/
structure TickPost (w : World) (ok : Bool) (me num : Int) (l : List Int) (A : Option Addr) (c : Nat) (es : List Edge) (as_ : List Alr) (e : Ending) (w' : World) : Prop where
  bel : Below w.heap.size w w'
  yes : ok = true → ∃ E AL, e = .returned (.tuple #[detV me num A l.length c E, AL]) ∧ OwnE w' w.heap.size E es ∧ OwnA w' w.heap.size AL as_
  no : ok = false → e = .returned (.tuple #[zeroD, .slice none 0 0])
theorem alertsOf_snoc {num me : Int} {es : List Edge} {k : Nat} {x : Edge} (h : es[k]? = some x) : alertsOf num me (es.take (k + 1)) = alertsOf num me (es.take k) ++ (if firesE x then [⟨num, x.ring, me, x.subj⟩] else []) := by
  unfold alertsOf
  rw [List.take_add_one, h, List.filter_append, List.map_append]
  cases hf : firesE x <;> simp [hf]
theorem tick_snoc {es : List Edge} {k : Nat} {x : Edge} (h : es[k]? = some x) : tick (es.take (k + 1)) = tick (es.take k) ++ [tickE x] := by
  unfold tick
  rw [List.take_add_one, h]
  simp
set_option maxRecDepth 1000000 in
set_option maxHeartbeats 8000000 in
theorem refTick_any (me num : Int) (A E : Option Addr) (c cE B : Nat) (l : List Int) (es : List Edge) (w : World) (h : DW w B me num l A c es E cE) (hB : B ≤ w.heap.size) :
    Calls Tryd.prog 20 #[detV me num A l.length c (.slice E es.length cE)] w (TickPost w (okD K num l me es) me num l A c (tick es) (alertsOf num me es)) := by
  have h01 : Below w.heap.size w ((w.alloc (.cells #[.int .i64 me, .int .i64 num, .slice A l.length c, .slice E es.length cE] 34)).alloc (.cells #[.int .i64 0, .int .i64 0, .slice none 0 0, .slice none 0 0] 34)) := ((Below.refl w.heap.size w).alloc (Nat.le_refl _) _).alloc (by simp) _
  have hz := two_blk w 34 34 #[.int .i64 me, .int .i64 num, .slice A l.length c, .slice E es.length cE] #[.int .i64 0, .int .i64 0, .slice none 0 0, .slice none 0 0]
  have FB := Lib.hid (fun W (hW : Below ((w.alloc (.cells #[.int .i64 me, .int .i64 num, .slice A l.length c, .slice E es.length cE] 34)).alloc (.cells #[.int .i64 0, .int .i64 0, .slice none 0 0, .slice none 0 0] 34)).heap.size ((w.alloc (.cells #[.int .i64 me, .int .i64 num, .slice A l.length c, .slice E es.length cE] 34)).alloc (.cells #[.int .i64 0, .int .i64 0, .slice none 0 0, .slice none 0 0] 34)) W) => h01.trans (hW.mono (by simp; omega)))
  have FV := Lib.hid (fun W (hW : Below ((w.alloc (.cells #[.int .i64 me, .int .i64 num, .slice A l.length c, .slice E es.length cE] 34)).alloc (.cells #[.int .i64 0, .int .i64 0, .slice none 0 0, .slice none 0 0] 34)).heap.size ((w.alloc (.cells #[.int .i64 me, .int .i64 num, .slice A l.length c, .slice E es.length cE] 34)).alloc (.cells #[.int .i64 0, .int .i64 0, .slice none 0 0, .slice none 0 0] 34)) W) => cells44 (hz.1.below hW hz.1.lt) (hz.2.below hW hz.2.lt))
  have r0 := Below.refl ((w.alloc (.cells #[.int .i64 me, .int .i64 num, .slice A l.length c, .slice E es.length cE] 34)).alloc (.cells #[.int .i64 0, .int .i64 0, .slice none 0 0, .slice none 0 0] 34)).heap.size ((w.alloc (.cells #[.int .i64 me, .int .i64 num, .slice A l.length c, .slice E es.length cE] 34)).alloc (.cells #[.int .i64 0, .int .i64 0, .slice none 0 0, .slice none 0 0] 34))
  have KV := Lib.hid (fun W (hW : Below ((w.alloc (.cells #[.int .i64 me, .int .i64 num, .slice A l.length c, .slice E es.length cE] 34)).alloc (.cells #[.int .i64 0, .int .i64 0, .slice none 0 0, .slice none 0 0] 34)).heap.size ((w.alloc (.cells #[.int .i64 me, .int .i64 num, .slice A l.length c, .slice E es.length cE] 34)).alloc (.cells #[.int .i64 0, .int .i64 0, .slice none 0 0, .slice none 0 0] 34)) W) => refOkD_any me num A E c cE w.heap.size l es W ((h.more hB).below (FB.out W hW)) (FB.out W hW).size)
  have HD := Lib.hid (fun W (hW : Below w.heap.size w W) => ((h.more hB).below hW).rd)
  have HEL := Lib.hid h.el
  have hl40 := h.l40
  dsimp only [detV] at *
  clear h hz h01
  cases hv : okD K num l me es
  · rw [hv] at KV
    clear hv
    go_enter Tryd.func20, Tryd.ntmps20
    go_wp2_with (go_at_call 23; (with_reducible refine (KV.out _ r0).mono ?_); rintro e w1 ⟨rfl, hq1⟩; obtain ⟨q0, q1, q2, q3, z0, z1, z2, z3, f0, f1, f2, f3⟩ := FV.out _ hq1)
    refine bodyPost_ret (v := .tuple #[zeroD, .slice none 0 0]) (by simp [results, Tryd.results20, go_sem, zeroD, z0, z1, z2, z3]) rfl ⟨?_, (fun h => by cases h), fun _ => rfl⟩
    repeat (with_reducible refine below_setV ?_ (by simp) _)
    exact FB.out _ hq1
  rw [hv] at KV
  clear hv
  obtain ⟨ne, hne⟩ : ∃ n, n = es.length := ⟨_, rfl⟩
  have HNE := Lib.hid hne
  rw [← hne] at KV FV FB HD hl40 r0 ⊢
  clear hne
  go_enter Tryd.func20, Tryd.ntmps20
  go_wp2_with (go_at_call 23; (with_reducible refine (KV.out _ r0).mono ?_); rintro e w1 ⟨rfl, hq1⟩; obtain ⟨q0, q1, q2, q3, z0, z1, z2, z3, f0, f1, f2, f3⟩ := FV.out _ hq1)
  have hw1 := FB.out _ hq1
  have hg3 := Blk.new w1 34 #[.int .i64 me, .int .i64 num, .slice A l.length c, .slice none 0 0]
  have hb3 : Below w1.heap.size w1 (w1.alloc (.cells #[.int .i64 me, .int .i64 num, .slice A l.length c, .slice none 0 0] 34)) := (Below.refl _ _).alloc (Nat.le_refl _) _
  have hs1 : w.heap.size + 2 ≤ w1.heap.size := by have := hq1.size; simp at this; omega
  obtain ⟨g, hg⟩ : ∃ g, g = w1.heap.size := ⟨_, rfl⟩
  have HS3 := Lib.hid (show St w1 (w1.alloc (.cells #[.int .i64 me, .int .i64 num, .slice A l.length c, .slice none 0 0] 34)) g #[.int .i64 me, .int .i64 num, .slice A l.length c, .slice none 0 0] (.slice none 0 0) [] (.slice none 0 0) [] from
    ⟨hb3, by rw [hg]; exact hg3, World.ownsRow_nil _ _ _ _, World.ownsRow_nil _ _ _ _, by rw [hg]; simp, Nat.le_of_eq hg.symm⟩)
  rw [← hg] at hs1 ⊢
  have HG := Lib.hid hg
  have HQ1 := Lib.hid hq1
  have HW1 := Lib.hid hw1
  clear hg hg3 hb3 hq1 hw1 KV q0 q1 q2 q3 z0 z1 z2 z3 f0 f1 f2 f3
  go_loopg [5, 6] ne (fun gk s5 s6 wr => ∃ (k : Nat) (E' : Value) (P : List Edge) (R : List Alr), k + gk = ne ∧ s6 = .int .i64 k ∧ Hid (P = tick (es.take k)) ∧ Hid (R = alertsOf num me (es.take k)) ∧ P.length = k ∧ R.length ≤ k ∧ Hid (St w1 wr g #[.int .i64 me, .int .i64 num, .slice A l.length c, E'] E' P s5 R))
  case atStart => exact ⟨0, _, [], [], by omega, rfl, rfl, rfl, rfl, Nat.le_refl _, HS3.out⟩
  case round =>
    obtain ⟨k, E', P, R, hkg, rfl, HP, HR, hPk, hRk, HS⟩ := hrel
    obtain ⟨AE, cE', rfl, hcE', _⟩ := OwnE.open_ HS.out.edg
    obtain ⟨np, hnp⟩ : ∃ n, n = P.length := ⟨_, rfl⟩
    have HNP := Lib.hid hnp
    rw [← hnp] at hcE' hPk HS
    have HPK := Lib.hid hPk
    have HRK := Lib.hid hRk
    have d3 := HS.out.out.cell 3
    obtain ⟨q0, q1, q2, q3, z0, z1, z2, z3, f0, f1, f2, f3⟩ := FV.out _ (HQ1.out.trans (HS.out.bel.mono HQ1.out.size))
    clear hnp hPk hRk
    cases gk with
    | zero =>
      have hkz : ¬ ((k : Int) < (ne : Int)) := by omega
      have d0 := HS.out.out.cell 0
      have d1 := HS.out.out.cell 1
      have d2 := HS.out.out.cell 2
      go_wp2_with fail
      have ht2 := Lib.hid (show tick es = P by rw [HP.out, List.take_of_length_le (by have := HNE.out; omega)])
      have ht3 := Lib.hid (show alertsOf num me es = R by rw [HR.out, List.take_of_length_le (by have := HNE.out; omega)])
      refine bodyPost_ret (v := .tuple #[detV me num A l.length c (.slice AE np cE'), _]) (by simp [results, Tryd.results20, go_sem, detV, z0, z1, z2, z3]; rfl) rfl ⟨?_, (fun _ => ⟨_, _, rfl, ?_, ?_⟩), (fun h => by cases h)⟩
      · repeat (with_reducible refine below_setV ?_ (by simp) _)
        exact HW1.out.trans (HS.out.bel.mono HW1.out.size)
      · rw [ht2.out]
        have ho := HS.out.edg
        unfold OwnE at ho ⊢
        refine own_base (base' := g + 1) ?_ (by omega)
        repeat (with_reducible refine own_setV ?_ (by show w.heap.size + 1 < g + 1; omega) _)
        exact ho
      · rw [ht3.out]
        have ho := HS.out.alr
        unfold OwnA at ho ⊢
        refine own_base (base' := g + 1) ?_ (by omega)
        repeat (with_reducible refine own_setV ?_ (by show w.heap.size + 1 < g + 1; omega) _)
        exact ho
    | succ gk =>
      have hkz : (k : Int) < (ne : Int) := by omega
      obtain ⟨x, hx⟩ : ∃ x, es[k]? = some x := ⟨_, List.getElem?_eq_getElem (by have := HNE.out; omega)⟩
      obtain ⟨adE, rfl, hEb, hEk, x0, x1, x2, x3, x4, x5⟩ := edge_at (HD.out _ (HW1.out.trans (HS.out.bel.mono HW1.out.size))) hx
      have hel := HEL.out x (List.mem_of_getElem? hx)
      obtain ⟨rg, sb, hd, rp, bt, ct⟩ := x
      have KR := Lib.hid (fun W => (refRecord_any bt ct hd W hel.2.2.2 hel.2.2.1).mono fun _ _ h => h.to (recW bt ct hd).1 (recW bt ct hd).2 rfl)
      have hok := recW_ok bt ct hd
      have hbl := okWin_lt hok
      have hcl := (okWin_iff.1 hok)
      have KF := Lib.hid (fun W => refFailing_any (recW bt ct hd).1 (recW bt ct hd).2 W (by omega) ⟨by omega, by omega⟩)
      have HT1 := Lib.hid (show tickE ⟨rg, sb, hd, rp, bt, ct⟩ = ⟨rg, sb, false, rp || (failW (recW bt ct hd).1 (recW bt ct hd).2 && !rp), (recW bt ct hd).1, (recW bt ct hd).2⟩ from rfl)
      have HT2 := Lib.hid (show firesE ⟨rg, sb, hd, rp, bt, ct⟩ = (failW (recW bt ct hd).1 (recW bt ct hd).2 && !rp) from rfl)
      dsimp only [winV] at KR KF
      generalize (recW bt ct hd).1 = b2 at *
      generalize (recW bt ct hd).2 = c2 at *
      generalize failW b2 c2 = ff at *
      have HX := Lib.hid hx
      obtain ⟨gx, hgx⟩ : ∃ g, g = wr.heap.size := ⟨_, rfl⟩
      have HGX := Lib.hid hgx
      have hgxl : w.heap.size + 1 < gx := by have := HS.out.sz; omega
      have hggx : g < gx := by have := HS.out.sz; omega
      have hfr := Lib.hid (HS.out.far (b := gx) (Nat.le_of_eq hgx.symm))
      have HXB := Lib.hid (show Blk (wr.alloc (.cells #[.int .i64 rg, .int .i64 sb, .bool hd, .bool rp, .int .u32 (bt : Int), .int .i64 ct] 58)) gx 58 #[.int .i64 rg, .int .i64 sb, .bool hd, .bool rp, .int .u32 (bt : Int), .int .i64 ct] from by rw [hgx]; exact Blk.new _ _ _)
      clear hx hEk hel hok hbl hcl
      subst hgx
      cases ff
      · cases rp
        · go_wp2_with (first
            | (go_at_call 13; (with_reducible refine (KR.out _).mono ?_); rintro e w5 ⟨rfl, hq5⟩; have hx5 := HXB.out.below hq5 HXB.out.lt; have c0 := hx5.cell 0; have c1 := hx5.cell 1; have c2' := hx5.cell 2; have c3 := hx5.cell 3; have c4 := hx5.cell 4; have c5 := hx5.cell 5; have f2' := hx5.frozen 2; have f3' := hx5.frozen 3; have f4' := hx5.frozen 4; have f5' := hx5.frozen 5)
            | (go_at_call 15; ((with_reducible refine (KF.out _).mono ?_); rintro e w7 ⟨rfl, hq7⟩; have hx6 := ((hx5.set_ 4 (.int .u32 (b2 : Int))).set_ 5 (.int .i64 c2)).set_ 2 (.bool false); have hx7 := Blk.below (cs := #[.int .i64 rg, .int .i64 sb, .bool false, .bool false, .int .u32 (b2 : Int), .int .i64 c2]) (by exact hx6) hq7 (by simpa using hx5.lt); have hs5 := (HS.out.alloc _).on hq5; have hs7 := (((hs5.set (p := ⟨wr.heap.size, 4, none⟩) hggx hfr.out.1 hfr.out.2 (.int .u32 (b2 : Int))).set (p := ⟨wr.heap.size, 5, none⟩) hggx hfr.out.1 hfr.out.2 (.int .i64 c2)).set (p := ⟨wr.heap.size, 2, none⟩) hggx hfr.out.1 hfr.out.2 (.bool false)).on hq7; clear q0 q1 q2 q3 z0 z1 z2 z3 f0 f1 f2 f3 c0 c1 c2' c3 c4 c5 f2' f3' f4' f5' d3; obtain ⟨q0, q1, q2, q3, z0, z1, z2, z3, f0, f1, f2, f3⟩ := FV.out _ (HQ1.out.trans (hs7.bel.mono HQ1.out.size)); have y0 := hx7.cell 0; have y1 := hx7.cell 1; have y2 := hx7.cell 2; have y3 := hx7.cell 3; have y4 := hx7.cell 4; have y5 := hx7.cell 5; have yf := hx7.frozen 3; have d3 := hs7.out.cell 3))
            | (at_builtin; (refine wp_append_edge2 _ rfl (.tmp 59) (.tmp 61) rfl (g + 1) _ P (⟨rg, sb, false, false, b2, c2⟩ : Edge) _ _ _ rfl ((hs7.alloc _).edg) rfl (reads_at _ _ (by simp)) (by have := HPK.out; have := HNP.out; omega) (hs7.alloc _).sz ?_; intro v9 w9 ho9 hb9 hgr9; have hs9 := (hs7.alloc _).edge ho9 hb9 hgr9; obtain ⟨A9, c9, hv9, hc9, hr9⟩ := OwnE.open_ ho9; subst hv9; have d9 := hs9.out.cell 3; have f9 := hs9.out.frozen 3))
            | fail)
          have HS9 := Lib.hid hs9
          clear hs9
          go_roundg gk
          case measure => omega
          case rel =>
            refine ⟨k + 1, .slice A9 (P ++ [(⟨rg, sb, false, false, b2, c2⟩ : Edge)]).length c9, P ++ [(⟨rg, sb, false, false, b2, c2⟩ : Edge)], R, by omega, by go_num, ?_, ?_, ?_, ?_, ?_⟩
            · show _ = _
              rw [tick_snoc HX.out, HP.out, HT1.out]
              rfl
            · show _ = _
              rw [alertsOf_snoc HX.out, HT2.out, HR.out]
              simp
            · have := HPK.out; have := HNP.out; simp; omega
            · have := HRK.out; simp; omega
            · have := HS9.out.setOut 3 (.slice A9 (P ++ [(⟨rg, sb, false, false, b2, c2⟩ : Edge)]).length c9)
              show St _ _ _ _ _ _ _ _
              simpa using this
        · go_wp2_with (first
            | (go_at_call 13; (with_reducible refine (KR.out _).mono ?_); rintro e w5 ⟨rfl, hq5⟩; have hx5 := HXB.out.below hq5 HXB.out.lt; have c0 := hx5.cell 0; have c1 := hx5.cell 1; have c2' := hx5.cell 2; have c3 := hx5.cell 3; have c4 := hx5.cell 4; have c5 := hx5.cell 5; have f2' := hx5.frozen 2; have f3' := hx5.frozen 3; have f4' := hx5.frozen 4; have f5' := hx5.frozen 5)
            | (go_at_call 15; ((with_reducible refine (KF.out _).mono ?_); rintro e w7 ⟨rfl, hq7⟩; have hx6 := ((hx5.set_ 4 (.int .u32 (b2 : Int))).set_ 5 (.int .i64 c2)).set_ 2 (.bool false); have hx7 := Blk.below (cs := #[.int .i64 rg, .int .i64 sb, .bool false, .bool true, .int .u32 (b2 : Int), .int .i64 c2]) (by exact hx6) hq7 (by simpa using hx5.lt); have hs5 := (HS.out.alloc _).on hq5; have hs7 := (((hs5.set (p := ⟨wr.heap.size, 4, none⟩) hggx hfr.out.1 hfr.out.2 (.int .u32 (b2 : Int))).set (p := ⟨wr.heap.size, 5, none⟩) hggx hfr.out.1 hfr.out.2 (.int .i64 c2)).set (p := ⟨wr.heap.size, 2, none⟩) hggx hfr.out.1 hfr.out.2 (.bool false)).on hq7; clear q0 q1 q2 q3 z0 z1 z2 z3 f0 f1 f2 f3 c0 c1 c2' c3 c4 c5 f2' f3' f4' f5' d3; obtain ⟨q0, q1, q2, q3, z0, z1, z2, z3, f0, f1, f2, f3⟩ := FV.out _ (HQ1.out.trans (hs7.bel.mono HQ1.out.size)); have y0 := hx7.cell 0; have y1 := hx7.cell 1; have y2 := hx7.cell 2; have y3 := hx7.cell 3; have y4 := hx7.cell 4; have y5 := hx7.cell 5; have yf := hx7.frozen 3; have d3 := hs7.out.cell 3))
            | (at_builtin; (refine wp_append_edge2 _ rfl (.tmp 59) (.tmp 61) rfl (g + 1) _ P (⟨rg, sb, false, true, b2, c2⟩ : Edge) _ _ _ rfl ((hs7.alloc _).edg) rfl (reads_at _ _ (by simp)) (by have := HPK.out; have := HNP.out; omega) (hs7.alloc _).sz ?_; intro v9 w9 ho9 hb9 hgr9; have hs9 := (hs7.alloc _).edge ho9 hb9 hgr9; obtain ⟨A9, c9, hv9, hc9, hr9⟩ := OwnE.open_ ho9; subst hv9; have d9 := hs9.out.cell 3; have f9 := hs9.out.frozen 3))
            | fail)
          have HS9 := Lib.hid hs9
          clear hs9
          go_roundg gk
          case measure => omega
          case rel =>
            refine ⟨k + 1, .slice A9 (P ++ [(⟨rg, sb, false, true, b2, c2⟩ : Edge)]).length c9, P ++ [(⟨rg, sb, false, true, b2, c2⟩ : Edge)], R, by omega, by go_num, ?_, ?_, ?_, ?_, ?_⟩
            · show _ = _
              rw [tick_snoc HX.out, HP.out, HT1.out]
              rfl
            · show _ = _
              rw [alertsOf_snoc HX.out, HT2.out, HR.out]
              simp
            · have := HPK.out; have := HNP.out; simp; omega
            · have := HRK.out; simp; omega
            · have := HS9.out.setOut 3 (.slice A9 (P ++ [(⟨rg, sb, false, true, b2, c2⟩ : Edge)]).length c9)
              show St _ _ _ _ _ _ _ _
              simpa using this
      · cases rp
        · go_wp2_with (first
            | (go_at_call 13; (with_reducible refine (KR.out _).mono ?_); rintro e w5 ⟨rfl, hq5⟩; have hx5 := HXB.out.below hq5 HXB.out.lt; have c0 := hx5.cell 0; have c1 := hx5.cell 1; have c2' := hx5.cell 2; have c3 := hx5.cell 3; have c4 := hx5.cell 4; have c5 := hx5.cell 5; have f2' := hx5.frozen 2; have f3' := hx5.frozen 3; have f4' := hx5.frozen 4; have f5' := hx5.frozen 5)
            | (go_at_call 15; ((with_reducible refine (KF.out _).mono ?_); rintro e w7 ⟨rfl, hq7⟩; have hx6 := ((hx5.set_ 4 (.int .u32 (b2 : Int))).set_ 5 (.int .i64 c2)).set_ 2 (.bool false); have hx7 := Blk.below (cs := #[.int .i64 rg, .int .i64 sb, .bool false, .bool false, .int .u32 (b2 : Int), .int .i64 c2]) (by exact hx6) hq7 (by simpa using hx5.lt); have hs5 := (HS.out.alloc _).on hq5; have hs7 := (((hs5.set (p := ⟨wr.heap.size, 4, none⟩) hggx hfr.out.1 hfr.out.2 (.int .u32 (b2 : Int))).set (p := ⟨wr.heap.size, 5, none⟩) hggx hfr.out.1 hfr.out.2 (.int .i64 c2)).set (p := ⟨wr.heap.size, 2, none⟩) hggx hfr.out.1 hfr.out.2 (.bool false)).on hq7; clear q0 q1 q2 q3 z0 z1 z2 z3 f0 f1 f2 f3 c0 c1 c2' c3 c4 c5 f2' f3' f4' f5' d3; obtain ⟨q0, q1, q2, q3, z0, z1, z2, z3, f0, f1, f2, f3⟩ := FV.out _ (HQ1.out.trans (hs7.bel.mono HQ1.out.size)); have y0 := hx7.cell 0; have y1 := hx7.cell 1; have y2 := hx7.cell 2; have y3 := hx7.cell 3; have y4 := hx7.cell 4; have y5 := hx7.cell 5; have yf := hx7.frozen 3; have d3 := hs7.out.cell 3; have hs8 := hs7.set (p := ⟨wr.heap.size, 3, none⟩) hggx hfr.out.1 hfr.out.2 (.bool true); have hx8 := Blk.set_ hx7 3 (.bool true)))
            | (at_builtin; (refine wp_append_alr _ rfl (.tmp 45) (.tmp 56) rfl (g + 1) _ R (⟨num, rg, me, sb⟩ : Alr) _ _ _ rfl ((hs8.alloc _).alr) rfl (reads_at _ _ (by simp)) (by have := HRK.out; omega) (hs8.alloc _).sz ?_; intro v9 w9 ho9 _ hb9 hgr9; have hs9 := (hs8.alloc _).alert ho9 hb9 hgr9; have hx9 := (hx8.alloc _).grown hgr9 (fun e => hfr.out.2 e.symm); have t0 := hx9.cell 0; have t1 := hx9.cell 1; have t2 := hx9.cell 2; have t3 := hx9.cell 3; have t4 := hx9.cell 4; have t5 := hx9.cell 5; have d3' := hs9.out.cell 3))
            | (at_builtin; (refine wp_append_edge2 _ rfl (.tmp 59) (.tmp 61) rfl (g + 1) _ P (⟨rg, sb, false, true, b2, c2⟩ : Edge) _ _ _ rfl ((hs9.alloc _).edg) rfl (reads_at _ _ (by simp)) (by have := HPK.out; have := HNP.out; omega) (hs9.alloc _).sz ?_; intro v10 w10 ho10 hb10 hgr10; have hs10 := (hs9.alloc _).edge ho10 hb10 hgr10; obtain ⟨A9, c9, hv9, hc9, hr9⟩ := OwnE.open_ ho10; subst hv9; have d9 := hs10.out.cell 3; have f9 := hs10.out.frozen 3))
            | fail)
          have HS9 := Lib.hid hs10
          clear hs10
          go_roundg gk
          case measure => omega
          case rel =>
            refine ⟨k + 1, .slice A9 (P ++ [(⟨rg, sb, false, true, b2, c2⟩ : Edge)]).length c9, P ++ [(⟨rg, sb, false, true, b2, c2⟩ : Edge)], R ++ [(⟨num, rg, me, sb⟩ : Alr)], by omega, by go_num, ?_, ?_, ?_, ?_, ?_⟩
            · show _ = _
              rw [tick_snoc HX.out, HP.out, HT1.out]
              rfl
            · show _ = _
              rw [alertsOf_snoc HX.out, HT2.out, HR.out]
              rfl
            · have := HPK.out; have := HNP.out; simp; omega
            · have := HRK.out; simp; omega
            · have := HS9.out.setOut 3 (.slice A9 (P ++ [(⟨rg, sb, false, true, b2, c2⟩ : Edge)]).length c9)
              show St _ _ _ _ _ _ _ _
              simpa using this
        · go_wp2_with (first
            | (go_at_call 13; (with_reducible refine (KR.out _).mono ?_); rintro e w5 ⟨rfl, hq5⟩; have hx5 := HXB.out.below hq5 HXB.out.lt; have c0 := hx5.cell 0; have c1 := hx5.cell 1; have c2' := hx5.cell 2; have c3 := hx5.cell 3; have c4 := hx5.cell 4; have c5 := hx5.cell 5; have f2' := hx5.frozen 2; have f3' := hx5.frozen 3; have f4' := hx5.frozen 4; have f5' := hx5.frozen 5)
            | (go_at_call 15; ((with_reducible refine (KF.out _).mono ?_); rintro e w7 ⟨rfl, hq7⟩; have hx6 := ((hx5.set_ 4 (.int .u32 (b2 : Int))).set_ 5 (.int .i64 c2)).set_ 2 (.bool false); have hx7 := Blk.below (cs := #[.int .i64 rg, .int .i64 sb, .bool false, .bool true, .int .u32 (b2 : Int), .int .i64 c2]) (by exact hx6) hq7 (by simpa using hx5.lt); have hs5 := (HS.out.alloc _).on hq5; have hs7 := (((hs5.set (p := ⟨wr.heap.size, 4, none⟩) hggx hfr.out.1 hfr.out.2 (.int .u32 (b2 : Int))).set (p := ⟨wr.heap.size, 5, none⟩) hggx hfr.out.1 hfr.out.2 (.int .i64 c2)).set (p := ⟨wr.heap.size, 2, none⟩) hggx hfr.out.1 hfr.out.2 (.bool false)).on hq7; clear q0 q1 q2 q3 z0 z1 z2 z3 f0 f1 f2 f3 c0 c1 c2' c3 c4 c5 f2' f3' f4' f5' d3; obtain ⟨q0, q1, q2, q3, z0, z1, z2, z3, f0, f1, f2, f3⟩ := FV.out _ (HQ1.out.trans (hs7.bel.mono HQ1.out.size)); have y0 := hx7.cell 0; have y1 := hx7.cell 1; have y2 := hx7.cell 2; have y3 := hx7.cell 3; have y4 := hx7.cell 4; have y5 := hx7.cell 5; have yf := hx7.frozen 3; have d3 := hs7.out.cell 3))
            | (at_builtin; (refine wp_append_edge2 _ rfl (.tmp 59) (.tmp 61) rfl (g + 1) _ P (⟨rg, sb, false, true, b2, c2⟩ : Edge) _ _ _ rfl ((hs7.alloc _).edg) rfl (reads_at _ _ (by simp)) (by have := HPK.out; have := HNP.out; omega) (hs7.alloc _).sz ?_; intro v9 w9 ho9 hb9 hgr9; have hs9 := (hs7.alloc _).edge ho9 hb9 hgr9; obtain ⟨A9, c9, hv9, hc9, hr9⟩ := OwnE.open_ ho9; subst hv9; have d9 := hs9.out.cell 3; have f9 := hs9.out.frozen 3))
            | fail)
          have HS9 := Lib.hid hs9
          clear hs9
          go_roundg gk
          case measure => omega
          case rel =>
            refine ⟨k + 1, .slice A9 (P ++ [(⟨rg, sb, false, true, b2, c2⟩ : Edge)]).length c9, P ++ [(⟨rg, sb, false, true, b2, c2⟩ : Edge)], R, by omega, by go_num, ?_, ?_, ?_, ?_, ?_⟩
            · show _ = _
              rw [tick_snoc HX.out, HP.out, HT1.out]
              rfl
            · show _ = _
              rw [alertsOf_snoc HX.out, HT2.out, HR.out]
              simp
            · have := HPK.out; have := HNP.out; simp; omega
            · have := HRK.out; simp; omega
            · have := HS9.out.setOut 3 (.slice A9 (P ++ [(⟨rg, sb, false, true, b2, c2⟩ : Edge)]).length c9)
              show St _ _ _ _ _ _ _ _
              simpa using this
end Go.Proofs.YtihgbadglaogdaaDoor.Pb

/- Structs compared. -/
namespace Go.Proofs.YtihgbadglaogdaaDoor.Pb
set_option linter.unusedVariables false
open Go.RowKit
open Go.Proofs.YtihgbadglaogdaaDoor.W
open Go.Proofs.YtihgbadglaogdaaDoor.V
open Go.Proofs.YtihgbadglaogdaaDoor.O
theorem neq_alr (x y : Alr) (W : World) : (binOp .neq 52 (.agg #[.int .i64 x.view, .int .i64 x.ring, .int .i64 x.obs, .int .i64 x.subj]) (.agg #[.int .i64 y.view, .int .i64 y.ring, .int .i64 y.obs, .int .i64 y.subj])).run Tryd.prog W = .ok (.bool (!(decide (x = y)))) W := by
  obtain ⟨a1, a2, a3, a4⟩ := x
  obtain ⟨b1, b2, b3, b4⟩ := y
  by_cases h1 : a1 = b1 <;> by_cases h2 : a2 = b2 <;> by_cases h3 : a3 = b3 <;> by_cases h4 : a4 = b4 <;> simp [go_sem, h1, h2, h3, h4]
set_option maxHeartbeats 1000000 in
theorem neq_edge (x y : Edge) (W : World) : (binOp .neq 58 (.agg #[.int .i64 x.ring, .int .i64 x.subj, .bool x.heard, .bool x.rep, .int .u32 (x.bits : Int), .int .i64 x.cnt]) (.agg #[.int .i64 y.ring, .int .i64 y.subj, .bool y.heard, .bool y.rep, .int .u32 (y.bits : Int), .int .i64 y.cnt])).run Tryd.prog W = .ok (.bool (!(decide (x = y)))) W := by
  obtain ⟨a1, a2, a3, a4, a5, a6⟩ := x
  obtain ⟨b1, b2, b3, b4, b5, b6⟩ := y
  have e5 : ((a5 : Int) = (b5 : Int)) ↔ a5 = b5 := by omega
  simp only [Edge.mk.injEq]
  simp [go_sem, e5]
  by_cases h1 : a1 = b1
  case neg => simp [h1]
  by_cases h2 : a2 = b2
  case neg => simp [h1, h2]
  by_cases h3 : a3 = b3
  case neg => simp [h1, h2, h3]
  by_cases h4 : a4 = b4
  case neg => simp [h1, h2, h3, h4]
  by_cases h5 : a5 = b5
  case neg => simp [h1, h2, h3, h4, h5]
  by_cases h6 : a6 = b6
  case neg => simp [h1, h2, h3, h4, h5, h6]
  simp [h1, h2, h3, h4, h5, h6]
theorem eql_win (b b' : Nat) (c c' : Int) (W : World) : (binOp .eql 24 (.agg #[.int .u32 (b : Int), .int .i64 c]) (.agg #[.int .u32 (b' : Int), .int .i64 c'])).run Tryd.prog W = .ok (.bool (decide ((b, c) = (b', c')))) W := by
  have e1 : ((b : Int) = (b' : Int)) ↔ b = b' := by omega
  by_cases h1 : b = b' <;> by_cases h2 : c = c' <;> simp [go_sem, e1, h1, h2]
end Go.Proofs.YtihgbadglaogdaaDoor.Pb

/- Layer 5: rows of alerts compared; detectors compared. -/
namespace Go.Proofs.YtihgbadglaogdaaDoor.Pb
set_option linter.unusedVariables false
open Go.RowKit
open Go.Proofs.YtihgbadglaogdaaDoor.W
open Go.Proofs.YtihgbadglaogdaaDoor.V
open Go.Proofs.YtihgbadglaogdaaDoor.O

theorem alr_at {w : World} {B n : Nat} {A : Option Addr} {es : List Alr} {k : Nat} {x : Alr} (h : Reads w B 4 A n (alrsC es)) (hx : es[k]? = some x) :
    ∃ ad, A = some ad ∧ ad.block < B ∧ (ad.add (k * 4)).block = ad.block ∧ w.cell? (ad.add (k * 4)) = some (.int .i64 x.view) ∧ w.cell? ⟨(ad.add (k * 4)).block, (ad.add (k * 4)).off + 1, none⟩ = some (.int .i64 x.ring) ∧
      w.cell? ⟨(ad.add (k * 4)).block, (ad.add (k * 4)).off + 2, none⟩ = some (.int .i64 x.obs) ∧ w.cell? ⟨(ad.add (k * 4)).block, (ad.add (k * 4)).off + 3, none⟩ = some (.int .i64 x.subj) := by
  have hl := h.1
  rw [len_alrsC] at hl
  have hk := (List.getElem?_eq_some_iff.1 hx).1
  obtain ⟨ad, hA, hb, hc⟩ := h.2 (by omega)
  have hj : ∀ j, 0 < j → j < 4 → w.cell? ⟨(ad.add (k * 4)).block, (ad.add (k * 4)).off + j, none⟩ = (alrC x)[j]? := fun j h0 h6 => by
    rw [← add_pos h0, add_of_add]
    have h1 := alrsC_get (j := j) hx h6
    cases hu : (alrsC es)[k * 4 + j]? with
    | none =>
      exfalso
      rw [List.getElem?_eq_none_iff, len_alrsC] at hu
      omega
    | some u => rw [hc _ _ hu, ← h1, hu]
  exact ⟨ad, hA, hb, block_of_add _ _, hc _ _ (alrsC_get (j := 0) hx (by omega)), hj 1 (by omega) (by omega), hj 2 (by omega) (by omega), hj 3 (by omega) (by omega)⟩
theorem ext_take {α : Type} [DecidableEq α] {a b : List α} {k : Nat} (hl : a.length = b.length) (h : a.take k = b.take k) (hk : a.length ≤ k) : a = b := by
  rw [List.take_of_length_le hk, List.take_of_length_le (by omega)] at h
  exact h
theorem take_same {α : Type} {a b : List α} {k : Nat} {x : α} (h : a.take k = b.take k) (ha : a[k]? = some x) (hb : b[k]? = some x) : a.take (k + 1) = b.take (k + 1) := by rw [List.take_add_one, List.take_add_one, h, ha, hb]
set_option maxRecDepth 1000000 in
set_option maxHeartbeats 4000000 in
theorem alerts_any (A A' : Option Addr) (c c' B : Nat) (a b : List Alr) (w : World) (h : Reads w B 4 A a.length (alrsC a)) (h' : Reads w B 4 A' b.length (alrsC b)) (hl : a.length ≤ 1099511627776) (hl' : b.length ≤ 1099511627776) :
    Calls Tryd.prog 26 #[.slice A a.length c, .slice A' b.length c'] w (PB w (decide (a = b))) := by
  have HR := Lib.hid h
  have HR' := Lib.hid h'
  obtain ⟨na, hna⟩ : ∃ n, n = a.length := ⟨_, rfl⟩
  obtain ⟨nb, hnb⟩ : ∃ n, n = b.length := ⟨_, rfl⟩
  have HNA := Lib.hid hna
  have HNB := Lib.hid hnb
  rw [← hna] at HR hl ⊢
  rw [← hnb] at HR' hl' ⊢
  clear h h' hna hnb
  by_cases hlen : na = nb
  case neg =>
    have ht := Lib.hid (show decide (a = b) = false from decide_eq_false fun e => hlen (by rw [HNA.out, HNB.out, e]))
    have hlf : ((na : Int) != (nb : Int)) = true := bneT (by omega)
    generalize decide (a = b) = t at *
    clear hlen
    go_enter Tryd.func26, Tryd.ntmps26
    go_wp2_with fail
    go_ret
    exact ⟨by rw [ht.out]; rfl, Below.refl _ _⟩
  have HLEN := Lib.hid hlen
  have hlf : ((na : Int) != (nb : Int)) = false := bneF (by omega)
  clear hlen
  obtain ⟨t, ht⟩ : ∃ t, t = decide (a = b) := ⟨_, rfl⟩
  have HT := Lib.hid ht
  rw [← ht]
  clear ht
  go_enter Tryd.func26, Tryd.ntmps26
  go_wp2_with fail
  go_loopg [5] na (fun gk s5 wr => ∃ (k n : Nat), k + gk = na ∧ s5 = .int .i64 k ∧ wr = w.drewN n ∧ Hid (a.take k = b.take k))
  case atStart => exact ⟨0, 0, by omega, rfl, rfl, rfl⟩
  case round =>
    obtain ⟨k, n, hkg, rfl, rfl, HTK⟩ := hrel
    cases gk with
    | zero =>
      have hkz : ¬ ((k : Int) < (na : Int)) := by omega
      have ht := Lib.hid (show t = true by
        rw [HT.out]
        exact decide_eq_true (ext_take (by rw [← HNA.out, ← HNB.out]; exact HLEN.out) HTK.out (by rw [← HNA.out]; omega)))
      go_wp2_with fail
      go_ret
      exact ⟨by rw [ht.out]; rfl, below_drewN' (Below.refl _ _) _⟩
    | succ gk =>
      have hkz : (k : Int) < (na : Int) := by omega
      have hkb : (k : Int) < (nb : Int) := by have := HLEN.out; omega
      obtain ⟨x, hx⟩ : ∃ x, a[k]? = some x := ⟨_, List.getElem?_eq_getElem (by have := HNA.out; omega)⟩
      obtain ⟨y, hy⟩ : ∃ x, b[k]? = some x := ⟨_, List.getElem?_eq_getElem (by have := HNB.out; omega)⟩
      obtain ⟨ad, rfl, hb1, hb2, x0, x1, x2, x3⟩ := alr_at HR.out hx
      obtain ⟨bd, rfl, hb3, hb4, y0, y1, y2, y3⟩ := alr_at HR'.out hy
      have HX := Lib.hid hx
      have HY := Lib.hid hy
      clear hx hy hb1 hb2 hb3 hb4
      by_cases hxy : x = y
      · subst hxy
        go_wp2_with fail
        go_quiet (fail)
        go_wp2_with fail
        go_roundg gk
        case measure => omega
        case rel => exact ⟨k + 1, n + nq, by omega, by go_num, (by first | rfl | rw [World.drewN_drewN]), take_same HTK.out HX.out HY.out⟩
      · have ht := Lib.hid (show t = false by
          rw [HT.out]
          exact decide_eq_false fun e => hxy (by have h1 := HX.out; rw [e, HY.out] at h1; exact (Option.some.inj h1).symm))
        have hne := neq_alr x y
        rw [decide_eq_false hxy] at hne
        go_wp2_with fail
        go_quiet (fail)
        go_wp2_with fail
        go_ret
        exact ⟨by rw [ht.out]; rfl, below_drewN' (below_drewN' (Below.refl _ _) _) _⟩
def sameD (me num : Int) (l : List Int) (es : List Edge) (me' num' : Int) (l' : List Int) (es' : List Edge) : Bool := decide (me = me') && (sameW num l num' l' && decide (es = es'))
set_option maxRecDepth 1000000 in
set_option maxHeartbeats 4000000 in
theorem refSameD_any (me num me' num' : Int) (A E A' E' : Option Addr) (c cE c' cE' B : Nat) (l l' : List Int) (es es' : List Edge) (w : World) (h : DW w B me num l A c es E cE) (h' : DW w B me' num' l' A' c' es' E' cE') (hB : B ≤ w.heap.size) :
    Calls Tryd.prog 21 #[detV me num A l.length c (.slice E es.length cE), detV me' num' A' l'.length c' (.slice E' es'.length cE')] w (PB w (sameD me num l es me' num' l' es')) := by
  have h01 : Below w.heap.size w ((w.alloc (.cells #[.int .i64 me, .int .i64 num, .slice A l.length c, .slice E es.length cE] 34)).alloc (.cells #[.int .i64 me', .int .i64 num', .slice A' l'.length c', .slice E' es'.length cE'] 34)) := ((Below.refl w.heap.size w).alloc (Nat.le_refl _) _).alloc (by simp) _
  have hz := two_blk w 34 34 #[.int .i64 me, .int .i64 num, .slice A l.length c, .slice E es.length cE] #[.int .i64 me', .int .i64 num', .slice A' l'.length c', .slice E' es'.length cE']
  have FB := Lib.hid (fun W (hW : Below ((w.alloc (.cells #[.int .i64 me, .int .i64 num, .slice A l.length c, .slice E es.length cE] 34)).alloc (.cells #[.int .i64 me', .int .i64 num', .slice A' l'.length c', .slice E' es'.length cE'] 34)).heap.size ((w.alloc (.cells #[.int .i64 me, .int .i64 num, .slice A l.length c, .slice E es.length cE] 34)).alloc (.cells #[.int .i64 me', .int .i64 num', .slice A' l'.length c', .slice E' es'.length cE'] 34)) W) => h01.trans (hW.mono (by simp; omega)))
  have FV := Lib.hid (fun W (hW : Below ((w.alloc (.cells #[.int .i64 me, .int .i64 num, .slice A l.length c, .slice E es.length cE] 34)).alloc (.cells #[.int .i64 me', .int .i64 num', .slice A' l'.length c', .slice E' es'.length cE'] 34)).heap.size ((w.alloc (.cells #[.int .i64 me, .int .i64 num, .slice A l.length c, .slice E es.length cE] 34)).alloc (.cells #[.int .i64 me', .int .i64 num', .slice A' l'.length c', .slice E' es'.length cE'] 34)) W) => cells44 (hz.1.below hW hz.1.lt) (hz.2.below hW hz.2.lt))
  have r0 := Below.refl ((w.alloc (.cells #[.int .i64 me, .int .i64 num, .slice A l.length c, .slice E es.length cE] 34)).alloc (.cells #[.int .i64 me', .int .i64 num', .slice A' l'.length c', .slice E' es'.length cE'] 34)).heap.size ((w.alloc (.cells #[.int .i64 me, .int .i64 num, .slice A l.length c, .slice E es.length cE] 34)).alloc (.cells #[.int .i64 me', .int .i64 num', .slice A' l'.length c', .slice E' es'.length cE'] 34))
  have KS := Lib.hid (fun W (hW : Below ((w.alloc (.cells #[.int .i64 me, .int .i64 num, .slice A l.length c, .slice E es.length cE] 34)).alloc (.cells #[.int .i64 me', .int .i64 num', .slice A' l'.length c', .slice E' es'.length cE'] 34)).heap.size ((w.alloc (.cells #[.int .i64 me, .int .i64 num, .slice A l.length c, .slice E es.length cE] 34)).alloc (.cells #[.int .i64 me', .int .i64 num', .slice A' l'.length c', .slice E' es'.length cE'] 34)) W) => refSame_any num num' l l' A A' c c' w.heap.size W ((h.vw.more hB).below (FB.out W hW)) ((h'.vw.more hB).below (FB.out W hW)) (FB.out W hW).size)
  have HD := Lib.hid (fun W (hW : Below w.heap.size w W) => ((h.more hB).below hW).rd)
  have HD' := Lib.hid (fun W (hW : Below w.heap.size w W) => ((h'.more hB).below hW).rd)
  have hl40 := h.l40
  have hl40' := h'.l40
  obtain ⟨m0, m1⟩ := h.me64
  obtain ⟨m0', m1'⟩ := h'.me64
  have HT := Lib.hid (show sameD me num l es me' num' l' es' = (decide (me = me') && (sameW num l num' l' && decide (es = es'))) from rfl)
  generalize sameD me num l es me' num' l' es' = t at *
  dsimp only [detV, vwV] at *
  clear h h' hz h01
  by_cases hme : me = me'
  case neg =>
    have ht := Lib.hid (show t = false by rw [HT.out, decide_eq_false hme]; rfl)
    have hmf : (me != me') = true := bneT hme
    clear hme KS
    have ⟨q0, q1, q2, q3, z0, z1, z2, z3, _⟩ := FV.out _ r0
    go_enter Tryd.func21, Tryd.ntmps21
    go_wp2_with fail
    go_ret
    exact ⟨by rw [ht.out]; rfl, FB.out _ r0⟩
  have hmf : (me != me') = false := bneF hme
  have HME := Lib.hid hme
  clear hme
  cases hsw : sameW num l num' l'
  · have ht := Lib.hid (show t = false by rw [HT.out, hsw]; simp)
    rw [hsw] at KS
    clear hsw
    have ⟨q0, q1, q2, q3, z0, z1, z2, z3, _⟩ := FV.out _ r0
    go_enter Tryd.func21, Tryd.ntmps21
    go_wp2_with (go_at_call 37; (with_reducible refine (KS.out _ r0).mono ?_); rintro e w1 ⟨rfl, hq1⟩; (have hb1 := r0.trans hq1); obtain ⟨q0, q1, q2, q3, z0, z1, z2, z3, _⟩ := FV.out _ hb1)
    go_ret
    exact ⟨by rw [ht.out]; rfl, FB.out _ hb1⟩
  have HT2 := Lib.hid (show t = decide (es = es') by rw [HT.out, decide_eq_true HME.out, hsw]; rfl)
  rw [hsw] at KS
  obtain ⟨na, hna⟩ : ∃ n, n = es.length := ⟨_, rfl⟩
  obtain ⟨nb, hnb⟩ : ∃ n, n = es'.length := ⟨_, rfl⟩
  have HNA := Lib.hid hna
  have HNB := Lib.hid hnb
  rw [← hna] at HD hl40
  rw [← hnb] at HD' hl40'
  rw [← hna, ← hnb] at KS FV FB r0 ⊢
  clear hna hnb hsw HT
  by_cases hlen : na = nb
  case neg =>
    have ht := Lib.hid (show t = false by rw [HT2.out]; exact decide_eq_false fun e => hlen (by rw [HNA.out, HNB.out, e]))
    have hlf : ((na : Int) != (nb : Int)) = true := bneT (by omega)
    clear hlen
    have ⟨q0, q1, q2, q3, z0, z1, z2, z3, _⟩ := FV.out _ r0
    go_enter Tryd.func21, Tryd.ntmps21
    go_wp2_with (go_at_call 37; (with_reducible refine (KS.out _ r0).mono ?_); rintro e w1 ⟨rfl, hq1⟩; (have hb1 := r0.trans hq1); obtain ⟨q0, q1, q2, q3, z0, z1, z2, z3, _⟩ := FV.out _ hb1)
    go_ret
    exact ⟨by rw [ht.out]; rfl, FB.out _ hb1⟩
  have HLEN := Lib.hid hlen
  have hlf : ((na : Int) != (nb : Int)) = false := bneF (by omega)
  clear hlen
  have ⟨q0, q1, q2, q3, z0, z1, z2, z3, _⟩ := FV.out _ r0
  go_enter Tryd.func21, Tryd.ntmps21
  go_wp2_with (go_at_call 37; (with_reducible refine (KS.out _ r0).mono ?_); rintro e w1 ⟨rfl, hq1⟩; (have hb1 := r0.trans hq1); obtain ⟨q0, q1, q2, q3, z0, z1, z2, z3, _⟩ := FV.out _ hb1)
  have hw1 := FB.out _ hb1
  clear KS
  go_loopg [5] na (fun gk s5 wr => ∃ (k n : Nat), k + gk = na ∧ s5 = .int .i64 k ∧ wr = w1.drewN n ∧ Hid (es.take k = es'.take k))
  case atStart => exact ⟨0, 0, by omega, rfl, rfl, rfl⟩
  case round =>
    obtain ⟨k, n, hkg, rfl, rfl, HTK⟩ := hrel
    cases gk with
    | zero =>
      have hkz : ¬ ((k : Int) < (na : Int)) := by omega
      have ht := Lib.hid (show t = true by
        rw [HT2.out]
        exact decide_eq_true (ext_take (by rw [← HNA.out, ← HNB.out]; exact HLEN.out) HTK.out (by rw [← HNA.out]; omega)))
      go_wp2_with fail
      go_ret
      exact ⟨by rw [ht.out]; rfl, below_drewN' hw1 _⟩
    | succ gk =>
      have hkz : (k : Int) < (na : Int) := by omega
      have hkb : (k : Int) < (nb : Int) := by have := HLEN.out; omega
      obtain ⟨x, hx⟩ : ∃ x, es[k]? = some x := ⟨_, List.getElem?_eq_getElem (by have := HNA.out; omega)⟩
      obtain ⟨y, hy⟩ : ∃ x, es'[k]? = some x := ⟨_, List.getElem?_eq_getElem (by have := HNB.out; omega)⟩
      obtain ⟨ad, rfl, h1, h2, x0, x1, x2, x3, x4, x5⟩ := edge_at (HD.out _ hw1) hx
      obtain ⟨bd, rfl, h3, h4, y0, y1, y2, y3, y4, y5⟩ := edge_at (HD'.out _ hw1) hy
      have HX := Lib.hid hx
      have HY := Lib.hid hy
      clear hx hy h1 h2 h3 h4
      have hne := neq_edge x y
      by_cases hxy : x = y
      · rw [decide_eq_true hxy] at hne
        have HXY := Lib.hid hxy
        clear hxy
        go_wp2_with fail
        go_quiet (fail)
        go_wp2_with fail
        go_roundg gk
        case measure => omega
        case rel => exact ⟨k + 1, n + nq, by omega, by go_num, (by first | rfl | rw [World.drewN_drewN]), take_same HTK.out HX.out (by rw [HXY.out]; exact HY.out)⟩
      · have ht := Lib.hid (show t = false by
          rw [HT2.out]
          exact decide_eq_false fun e => hxy (by have h1 := HX.out; rw [e, HY.out] at h1; exact (Option.some.inj h1).symm))
        rw [decide_eq_false hxy] at hne
        clear hxy
        go_wp2_with fail
        go_quiet (fail)
        go_wp2_with fail
        go_ret
        exact ⟨by rw [ht.out]; rfl, below_drewN' (below_drewN' hw1 _) _⟩
end Go.Proofs.YtihgbadglaogdaaDoor.Pb
