/- wire.Open. -/
import Derived.Test.YtklihjgmmliejaaDoorWSeal
namespace Go.Proofs.YtklihjgmmliejaaDoor.W
set_option linter.unusedVariables false
open Go.RowKit
open Go.Lib (byteCells byteCells_length byteCells_append byteCells_snoc)

theorem results_tmp4 {fn : Func} {t u v x : Tmp} (h : fn.results = #[.tmp t, .tmp u, .tmp v, .tmp x]) (tmps : Array Value) (P : Program) (w : World) :
    (results fn tmps).run P w = .ok (.tuple #[tmps.getD t undef, tmps.getD u undef, tmps.getD v undef, tmps.getD x undef]) w := by simp [results, h]
theorem quiet_add {P : Program} {f : FuncId} {args : Array Value} {w : World} {a n : Nat} {v : Value}
    (h : Calls P f args (w.drewN (a + n)) fun e w' => e = .returned v ∧ ∃ m, w' = (w.drewN (a + n)).drewN m) :
    Calls P f args (w.drewN (a + n)) fun e w'' => e = .returned v ∧ ∃ m, w'' = w.drewN (a + m) :=
  h.mono fun _ _ ⟨he, m, hm⟩ => ⟨he, n + m, by rw [hm, World.drewN_drewN, Nat.add_assoc]⟩
theorem quiet_left {P : Program} {f : FuncId} {args : Array Value} {w : World} {n : Nat} {v : Value}
    (h : Calls P f args (w.drewN n) fun e w' => e = .returned v ∧ w.drewN n = w') : Calls P f args (w.drewN n) fun e w'' => e = .returned v ∧ ∃ m, w'' = w.drewN m :=
  h.mono fun _ _ ⟨he, hm⟩ => ⟨he, n, hm.symm⟩
theorem slice_to {w : World} {B n c k : Nat} {ki : Int} {A : Option Addr} {bs : List UInt8} (h : Reads w B 1 A n (byteCells bs)) (hn : n ≤ c) (hk : k ≤ n) (hk0 : 0 < n) (hki : ki = (k : Int)) :
    ∀ (W : World), (Instr.slice 22 (.slice A n c) none (some (.int .i64 ki)) none).run Tryd.prog W = .ok (.slice A k c) W := by
  subst hki
  intro W
  rw [run_slice_h W 22 A n c (by simp [go_sem]) .i64 k (by omega) (by omega)]
  simp [go_sem]
theorem slice_mid {w : World} {B n c i j : Nat} {ii ij : Int} {A : Option Addr} {bs : List UInt8} (h : Reads w B 1 A n (byteCells bs)) (hn : n ≤ c) (hij : i ≤ j) (hj : j ≤ n) (hii : ii = (i : Int)) (hjj : ij = (j : Int)) :
    ∃ A', (∀ (W : World), (Instr.slice 22 (.slice A n c) (some (.int .i64 ii)) (some (.int .i64 ij)) none).run Tryd.prog W = .ok (.slice A' (j - i) (c - i)) W) ∧ Reads w B 1 A' (j - i) (byteCells ((bs.drop i).take (j - i))) := by
  subst hii hjj
  refine ⟨if c = i then A else A.map (·.add (i * 1)), fun W => ?_, ?_⟩
  · rw [run_slice_lh W 22 A n c (by simp [go_sem]) .i64 .i64 i j (by omega) (by omega) (by omega)]
    simp [go_sem]
  · have := (h.cut (k := i) (by omega) hn)
    have h2 : Reads w B 1 (if c = i then A else A.map (·.add (i * 1))) (n - i) (byteCells (bs.drop i)) := by simpa [byteCells] using this
    exact h2.takeTo (by omega)

def OpenPost (w : World) (k : Int) (l : List UInt8) (n err : Nat) (en : Ending) (w' : World) : Prop :=
  ∃ A c, en = .returned (.tuple #[.int .i64 k, .slice A l.length c, .int .i64 n, .int .i64 err]) ∧ l.length ≤ c ∧ w'.ownsRow w.heap.size 5 1 (.slice A l.length c) l.length (byteCells l) ∧ Below w.heap.size w w'
theorem openPost_nil {w w' : World} {err : Nat} (hb : Below w.heap.size w w') : OpenPost w 0 [] 0 err (.returned (.tuple #[.int .i64 0, .slice none 0 0, .int .i64 0, .int .i64 err])) w' :=
  ⟨none, 0, rfl, Nat.le_refl _, World.ownsRow_nil _ _ _ _, hb⟩

set_option maxRecDepth 100000 in
set_option maxHeartbeats 400000 in
theorem open_short (A : Option Addr) (c n : Nat) (w : World) (hn : n < 3) :
    Calls Tryd.prog 49 #[.slice A n c] w (OpenPost w 0 [] 0 2) := by
  go_enter Tryd.func49, Tryd.ntmps49
  go_wp2_with fail
  refine bodyPost_ret (results_tmp4 rfl _ _ _) rfl ?_
  exact openPost_nil (Below.refl _ _)

set_option maxRecDepth 100000 in
set_option maxHeartbeats 1000000 in
/-- The head: the first three bytes are not a frame's. -/
theorem open_head (A : Option Addr) (c : Nat) (bs : List UInt8) (w : World) (hr : Reads w w.heap.size 1 A bs.length (byteCells bs)) (hn : 3 ≤ bs.length) (hl : bs.length ≤ 1099511627776) (hbad : bs.getD 0 0 ≠ 65 ∨ bs.getD 1 0 ≠ 71 ∨ bs.getD 2 0 = 0) :
    Calls Tryd.prog 49 #[.slice A bs.length c] w (OpenPost w 0 [] 0 3) := by
  obtain ⟨ad, z0, rfl, _, c0, _, e0, b0⟩ := hr.byte (k := 0) (by omega)
  obtain ⟨ad', z1, hA, _, c1, _, e1, b1⟩ := hr.byte (k := 1) (by omega)
  obtain rfl := Option.some.inj hA
  obtain ⟨ad', z2, hA, _, c2, _, e2, b2⟩ := hr.byte (k := 2) (by omega)
  obtain rfl := Option.some.inj hA
  have c0' : w.cell? ad = some (.int .u8 (z0.toNat : Int)) := by simpa [Addr.add] using c0
  have c1' : w.cell? ⟨ad.block, ad.off + 1, none⟩ = some (.int .u8 (z1.toNat : Int)) := by simpa [Addr.add] using c1
  have c2' : w.cell? ⟨ad.block, ad.off + 2, none⟩ = some (.int .u8 (z2.toNat : Int)) := by simpa [Addr.add] using c2
  simp only [List.getD, e0, e1, e2, Option.getD_some] at hbad
  have hz0 : z0 = 65 ↔ z0.toNat = 65 := UInt8.toNat_inj.symm
  have hz1 : z1 = 71 ↔ z1.toNat = 71 := UInt8.toNat_inj.symm
  have hz2 : z2 = 0 ↔ z2.toNat = 0 := UInt8.toNat_inj.symm
  rw [ne_eq, ne_eq, hz0, hz1, hz2] at hbad
  generalize bs.length = n at *
  have hb0 := Below.refl w.heap.size w
  clear hz0 hz1 hz2 e0 e1 e2 c0 c1 c2
  by_cases g0 : z0.toNat = 65
  · have k0 : ((z0.toNat : Int) != 65) = false := bneF (by omega)
    by_cases g1 : z1.toNat = 71
    · have k1 : ((z1.toNat : Int) != 71) = false := bneF (by omega)
      have k2 : ((z2.toNat : Int) == 0) = true := beqT (by omega)
      clear g0 g1 hbad
      go_enter Tryd.func49, Tryd.ntmps49
      go_wp2_with fail
      refine bodyPost_ret (results_tmp4 rfl _ _ _) rfl ?_
      exact openPost_nil hb0
    · have k1 : ((z1.toNat : Int) != 71) = true := bneT (by omega)
      clear g0 g1 hbad
      go_enter Tryd.func49, Tryd.ntmps49
      go_wp2_with fail
      refine bodyPost_ret (results_tmp4 rfl _ _ _) rfl ?_
      exact openPost_nil hb0
  · have k0 : ((z0.toNat : Int) != 65) = true := bneT (by omega)
    clear g0 hbad
    go_enter Tryd.func49, Tryd.ntmps49
    go_wp2_with fail
    refine bodyPost_ret (results_tmp4 rfl _ _ _) rfl ?_
    exact openPost_nil hb0
/- MAIN -/
theorem ret4 {a a' c c' d d' : Int} {v v' : Value} (h1 : a = a') (h2 : v = v') (h3 : c = c') (h4 : d = d') : Ending.returned (.tuple #[.int .i64 a, v, .int .i64 c, .int .i64 d]) = Ending.returned (.tuple #[.int .i64 a', v', .int .i64 c', .int .i64 d']) := by rw [h1, h2, h3, h4]
theorem below_drewN {B : Nat} {a w : World} (h : Below B a w) (n : Nat) : Below B a (w.drewN n) := ⟨h.os, h.tape, h.output, h.size, h.block⟩
set_option maxRecDepth 100000 in
set_option maxHeartbeats 1000000 in
theorem open_len (ad : Addr) (c n : Nat) (z2 : UInt8) (bs : List UInt8) (w : World) (hr : Reads w w.heap.size 1 (some ad) n (byteCells bs)) (hnl : n = bs.length) (hcap : n ≤ c) (hl : n ≤ 1099511627776) (hn : 3 ≤ n)
    (c0 : w.cell? ad = some (.int .u8 65)) (c1 : w.cell? ⟨ad.block, ad.off + 1, none⟩ = some (.int .u8 71)) (c2 : w.cell? ⟨ad.block, ad.off + 2, none⟩ = some (.int .u8 (z2.toNat : Int))) (k2 : ((z2.toNat : Int) == 0) = false) (v m e : Nat) (hx : rdLen (bs.drop 3) 16777216 = (v, m, e)) (he : e ≠ 0) :
    Calls Tryd.prog 49 #[.slice (some ad) n c] w (OpenPost w 0 [] 0 e) := by
  have b2 := z2.toNat_lt
  have hb0 := Below.refl w.heap.size w
  obtain ⟨A3, hs3, hr3⟩ := slice_from (k := 3) (ki := 3) hr hcap hn rfl
  have hcall := length_any A3 (c - 3) w.heap.size (bs.drop 3) 16777216 w (by rw [List.length_drop, ← hnl]; exact hr3) (by simp; omega) ⟨by omega, by omega⟩
  rw [List.length_drop, ← hnl] at hcall
  rw [hx] at hcall
  have HC := Lib.hid hcall
  have hb : ((e : Int) != 0) = true := bneT (by omega)
  clear hcall hx he hnl hr3
  go_enter Tryd.func49, Tryd.ntmps49
  go_wp2_with (go_at_call 58; refine HC.out.mono ?_; rintro e w' ⟨rfl, rfl⟩)
  refine bodyPost_ret (results_tmp4 rfl _ _ _) rfl ?_
  exact openPost_nil hb0

set_option maxRecDepth 100000 in
set_option maxHeartbeats 1000000 in
theorem open_trunc (ad : Addr) (c n : Nat) (z2 : UInt8) (bs : List UInt8) (w : World) (hr : Reads w w.heap.size 1 (some ad) n (byteCells bs)) (hnl : n = bs.length) (hcap : n ≤ c) (hl : n ≤ 1099511627776) (hn : 3 ≤ n)
    (c0 : w.cell? ad = some (.int .u8 65)) (c1 : w.cell? ⟨ad.block, ad.off + 1, none⟩ = some (.int .u8 71)) (c2 : w.cell? ⟨ad.block, ad.off + 2, none⟩ = some (.int .u8 (z2.toNat : Int))) (k2 : ((z2.toNat : Int) == 0) = false) (v m : Nat) (hx : rdLen (bs.drop 3) 16777216 = (v, m, 0)) (hm : 3 + m ≤ n) (hv : v ≤ 16777216) (hsh : n - (3 + m) < v + 4) :
    Calls Tryd.prog 49 #[.slice (some ad) n c] w (OpenPost w 0 [] 0 2) := by
  have b2 := z2.toNat_lt
  have hb0 := Below.refl w.heap.size w
  obtain ⟨A3, hs3, hr3⟩ := slice_from (k := 3) (ki := 3) hr hcap hn rfl
  have hcall := length_any A3 (c - 3) w.heap.size (bs.drop 3) 16777216 w (by rw [List.length_drop, ← hnl]; exact hr3) (by simp; omega) ⟨by omega, by omega⟩
  rw [List.length_drop, ← hnl] at hcall
  rw [hx] at hcall
  have HC := Lib.hid hcall
  have hsh2 : (n : Int) - (3 + (m : Int)) < (v : Int) + 4 := by omega
  clear hcall hx hnl hr3
  go_enter Tryd.func49, Tryd.ntmps49
  go_wp2_with (go_at_call 58; refine HC.out.mono ?_; rintro e w' ⟨rfl, rfl⟩)
  refine bodyPost_ret (results_tmp4 rfl _ _ _) rfl ?_
  exact openPost_nil hb0

set_option maxRecDepth 100000 in
set_option maxHeartbeats 1000000 in
theorem open_sum (ad : Addr) (c n : Nat) (z2 : UInt8) (bs : List UInt8) (w : World) (hr : Reads w w.heap.size 1 (some ad) n (byteCells bs)) (hnl : n = bs.length) (hcap : n ≤ c) (hl : n ≤ 1099511627776) (hn : 3 ≤ n)
    (c0 : w.cell? ad = some (.int .u8 65)) (c1 : w.cell? ⟨ad.block, ad.off + 1, none⟩ = some (.int .u8 71)) (c2 : w.cell? ⟨ad.block, ad.off + 2, none⟩ = some (.int .u8 (z2.toNat : Int))) (k2 : ((z2.toNat : Int) == 0) = false) (v m : Nat) (hx : rdLen (bs.drop 3) 16777216 = (v, m, 0)) (hm : 3 + m ≤ n) (hsh : ¬ n - (3 + m) < v + 4) (ht : Tab w) (hne : rd4 (bs.drop (3 + m + v)) ≠ (crc (bs.take (3 + m + v))).toNat) :
    Calls Tryd.prog 49 #[.slice (some ad) n c] w (OpenPost w 0 [] 0 4) := by
  have b2 := z2.toNat_lt
  have hb0 := Below.refl w.heap.size w
  obtain ⟨A3, hs3, hr3⟩ := slice_from (k := 3) (ki := 3) hr hcap hn rfl
  have hcall := length_any A3 (c - 3) w.heap.size (bs.drop 3) 16777216 w (by rw [List.length_drop, ← hnl]; exact hr3) (by simp; omega) ⟨by omega, by omega⟩
  rw [List.length_drop, ← hnl] at hcall
  rw [hx] at hcall
  have HC := Lib.hid hcall
  have hsh2 : ¬ (n : Int) - (3 + (m : Int)) < (v : Int) + 4 := by omega
  obtain ⟨A4, hs4, hr4⟩ := slice_from (k := 3 + m + v) (ki := 3 + (m : Int) + (v : Int)) hr hcap (by omega) (by omega)
  have hs5 := slice_to (k := 3 + m + v) (ki := 3 + (m : Int) + (v : Int)) hr hcap (by omega) (by omega) (by omega)
  have HT := Lib.hid ht
  have HRS := Lib.hid (fun N => readSum_any A4 (c - (3 + m + v)) (n - (3 + m + v)) w.heap.size (bs.drop (3 + m + v)) (w.drewN N) (hr4.drewN N) (by omega))
  have HCS := Lib.hid (fun N => checksum_at (some ad) c w.heap.size (3 + m + v) (bs.take (3 + m + v)) (w.drewN N) ((hr.takeTo (by omega)).drewN N) (by simp; omega) HT.out)
  have hbad : (((rd4 (bs.drop (3 + m + v)) : Nat) : Int) != (((crc (bs.take (3 + m + v))).toNat : Nat) : Int)) = true := bneT (by omega)
  have w1 : IntKind.i64.wrap (3 + (m : Int)) = 3 + (m : Int) := IntWalk.i64_in _ (by omega)
  have w2 : IntKind.i64.wrap (3 + (m : Int) + (v : Int)) = 3 + (m : Int) + (v : Int) := IntWalk.i64_in _ (by omega)
  generalize rd4 (bs.drop (3 + m + v)) = R at *
  generalize (crc (bs.take (3 + m + v))).toNat = C at *
  clear hcall hx hnl hr3 hne ht hr4
  go_enter Tryd.func49, Tryd.ntmps49
  go_wp2_with (go_at_call 58; refine HC.out.mono ?_; rintro e w' ⟨rfl, rfl⟩)
  go_quiet (first
    | (go_at_call 70; exact Calls.quiet_of (HRS.out _))
    | (go_at_call 51; exact quiet_left (HCS.out _)))
  go_wp2_with fail
  refine bodyPost_ret (results_tmp4 rfl _ _ _) rfl ?_
  exact openPost_nil (below_drewN hb0 _)

set_option maxRecDepth 100000 in
set_option maxHeartbeats 1000000 in
theorem open_ok (ad : Addr) (c n : Nat) (z2 : UInt8) (bs : List UInt8) (w : World) (hr : Reads w w.heap.size 1 (some ad) n (byteCells bs)) (hnl : n = bs.length) (hcap : n ≤ c) (hl : n ≤ 1099511627776) (hn : 3 ≤ n)
    (c0 : w.cell? ad = some (.int .u8 65)) (c1 : w.cell? ⟨ad.block, ad.off + 1, none⟩ = some (.int .u8 71)) (c2 : w.cell? ⟨ad.block, ad.off + 2, none⟩ = some (.int .u8 (z2.toNat : Int))) (k2 : ((z2.toNat : Int) == 0) = false) (v m : Nat) (hx : rdLen (bs.drop 3) 16777216 = (v, m, 0)) (hm : 3 + m ≤ n) (hsh : ¬ n - (3 + m) < v + 4) (ht : Tab w) (hne : rd4 (bs.drop (3 + m + v)) = (crc (bs.take (3 + m + v))).toNat) :
    Calls Tryd.prog 49 #[.slice (some ad) n c] w (OpenPost w (z2.toNat : Int) ((bs.drop (3 + m)).take v) (3 + m + v + 4) 0) := by
  have b2 := z2.toNat_lt
  have hb0 := Below.refl w.heap.size w
  obtain ⟨A3, hs3, hr3⟩ := slice_from (k := 3) (ki := 3) hr hcap hn rfl
  have hcall := length_any A3 (c - 3) w.heap.size (bs.drop 3) 16777216 w (by rw [List.length_drop, ← hnl]; exact hr3) (by simp; omega) ⟨by omega, by omega⟩
  rw [List.length_drop, ← hnl] at hcall
  rw [hx] at hcall
  have HC := Lib.hid hcall
  have hsh2 : ¬ (n : Int) - (3 + (m : Int)) < (v : Int) + 4 := by omega
  obtain ⟨A4, hs4, hr4⟩ := slice_from (k := 3 + m + v) (ki := 3 + (m : Int) + (v : Int)) hr hcap (by omega) (by omega)
  have hs5 := slice_to (k := 3 + m + v) (ki := 3 + (m : Int) + (v : Int)) hr hcap (by omega) (by omega) (by omega)
  have HT := Lib.hid ht
  have HRS := Lib.hid (fun N => readSum_any A4 (c - (3 + m + v)) (n - (3 + m + v)) w.heap.size (bs.drop (3 + m + v)) (w.drewN N) (hr4.drewN N) (by omega))
  have HCS := Lib.hid (fun N => checksum_at (some ad) c w.heap.size (3 + m + v) (bs.take (3 + m + v)) (w.drewN N) ((hr.takeTo (by omega)).drewN N) (by simp; omega) HT.out)
  have hgood : (((rd4 (bs.drop (3 + m + v)) : Nat) : Int) != (((crc (bs.take (3 + m + v))).toNat : Nat) : Int)) = false := bneF (by omega)
  have w1 : IntKind.i64.wrap (3 + (m : Int)) = 3 + (m : Int) := IntWalk.i64_in _ (by omega)
  have w2 : IntKind.i64.wrap (3 + (m : Int) + (v : Int)) = 3 + (m : Int) + (v : Int) := IntWalk.i64_in _ (by omega)
  obtain ⟨A6, hs6, hr6⟩ := slice_mid (i := 3 + m) (j := 3 + m + v) (ii := 3 + (m : Int)) (ij := 3 + (m : Int) + (v : Int)) hr hcap (by omega) (by omega) (by omega) (by omega)
  have hv6 : 3 + m + v - (3 + m) = v := by omega
  rw [hv6] at hs6 hr6
  have hbl : ((bs.drop (3 + m)).take v).length = v := by rw [List.length_take, List.length_drop]; omega
  have HBL := Lib.hid hbl
  have HG := Lib.hid (fun W (hW : Below w.heap.size w W) => grown_any A6 (c - (3 + m)) 0 ((bs.drop (3 + m)).take v) W (((hr6.below hW).more hW.size).len ▸ (hr6.below hW).more hW.size) (by rw [hbl]; omega) (by omega))
  rw [hbl] at HG
  have w3 : IntKind.i64.wrap (3 + (m : Int) + (v : Int) + 4) = 3 + (m : Int) + (v : Int) + 4 := IntWalk.i64_in _ (by omega)
  have hn2 : (2 : Int) < (n : Int) := by omega
  have hn3 : 2 < n := by omega
  have had : ad.block < w.heap.size := by obtain ⟨ad', hA, hb, _⟩ := hr.2 (by omega); cases hA; exact hb
  have w4 : IntKind.i64.wrap (z2.toNat : Int) = (z2.toNat : Int) := IntWalk.i64_in _ (by omega)
  generalize rd4 (bs.drop (3 + m + v)) = R at *
  generalize (crc (bs.take (3 + m + v))).toNat = C at *
  generalize (bs.drop (3 + m)).take v = body at *
  clear hcall hx hnl hr3 hne ht hr4 hbl hv6
  go_enter Tryd.func49, Tryd.ntmps49
  go_wp2_with (go_at_call 58; refine HC.out.mono ?_; rintro e w' ⟨rfl, rfl⟩)
  go_quiet (first
    | (go_at_call 70; exact Calls.quiet_of (HRS.out _))
    | (go_at_call 51; exact quiet_left (HCS.out _)))
  go_wp2_with fail
  go_region_law (go_simp; go_at_call 55; refine (HG.out _ (by first | exact below_drewN hb0 _ | exact (below_drewN hb0 _).drew)).mono ?_; rintro e w9 ⟨v9, rfl, ho9, hb9⟩; (have q9 : w9.cell? ⟨ad.block, ad.off + 2, none⟩ = some (.int .u8 (z2.toNat : Int)) := (hb9.cell (p := ⟨ad.block, ad.off + 2, none⟩) had).trans c2))
  all_goals
    go_wp2_with fail
    have hbw9 : Below w.heap.size w w9 := by
      first
        | exact (below_drewN hb0 _).drew.trans hb9
        | exact (below_drewN hb0 _).trans hb9
    obtain ⟨A9, c9, hv9, hc9, hr9⟩ := SliceOf.of_own (base := w.heap.size) (e := 5) (by rw [byteCells_length]; exact ho9)
    rw [byteCells_length] at hv9 hc9
    refine bodyPost_ret (results_tmp4 rfl _ _ _) rfl ?_
    refine ⟨A9, c9, ?_, hc9, by rw [← hv9]; exact ho9, hbw9⟩
    rw [← hv9]
    exact ret4 rfl rfl (by omega) rfl


theorem low4_rd (c : BitVec 32) (l : List UInt8) (hl : 4 ≤ l.length) : rd4 l = c.toNat ↔ l.take 4 = low4 c := by
  match l, hl with
  | a :: b :: d :: e :: t, _ =>
    have hc := c.isLt
    have ha := a.toNat_lt
    have hb := b.toNat_lt
    have hd := d.toNat_lt
    have he := e.toNat_lt
    have key : ∀ (x : UInt8) (m : Nat), m < 256 → (x = m.toUInt8 ↔ x.toNat = m) := fun x m hm => by
      constructor
      · intro h; rw [h, u8n hm]
      · intro h; exact UInt8.toNat_inj.1 (by rw [u8n hm]; exact h)
    simp only [rd4, low4, List.take_succ_cons, List.take_zero, List.getD_cons_zero, List.getD_cons_succ, List.cons.injEq, and_true]
    rw [key a _ (by omega), key b _ (by omega), key d _ (by omega), key e _ (by omega)]
    omega

/-- WHAT wire.Open GIVES. -/
theorem open_any (A : Option Addr) (c : Nat) (bs : List UInt8) (w : World) (hr : Reads w w.heap.size 1 A bs.length (byteCells bs)) (hcap : bs.length ≤ c) (hl : bs.length ≤ 1099511627776) (ht : Tab w) :
    Calls Tryd.prog 49 #[.slice A bs.length c] w (OpenPost w (rdOpen bs).1 (rdOpen bs).2.1 (rdOpen bs).2.2.1 (rdOpen bs).2.2.2) := by
  unfold rdOpen
  by_cases h3 : bs.length < 3
  · rw [if_pos h3]
    exact open_short A c bs.length w h3
  rw [if_neg h3]
  by_cases hh : bs.getD 0 0 ≠ 65 ∨ bs.getD 1 0 ≠ 71 ∨ bs.getD 2 0 = 0
  · rw [if_pos hh]
    exact open_head A c bs w hr (by omega) hl hh
  rw [if_neg hh]
  obtain ⟨ad, z0, rfl, _, c0, _, e0, b0⟩ := hr.byte (k := 0) (by omega)
  obtain ⟨ad', z1, hA, _, c1, _, e1, b1⟩ := hr.byte (k := 1) (by omega)
  obtain rfl := Option.some.inj hA
  obtain ⟨ad', z2, hA, _, c2, _, e2, b2⟩ := hr.byte (k := 2) (by omega)
  obtain rfl := Option.some.inj hA
  have g2 : bs.getD 2 0 = z2 := by simp [List.getD, e2]
  have hz : z0 = 65 ∧ z1 = 71 ∧ z2 ≠ 0 := by
    simp only [List.getD, e0, e1, e2, Option.getD_some] at hh
    refine ⟨?_, ?_, ?_⟩
    · exact Classical.byContradiction fun h => hh (.inl h)
    · exact Classical.byContradiction fun h => hh (.inr (.inl h))
    · exact fun h => hh (.inr (.inr h))
  obtain ⟨rfl, rfl, hz2⟩ := hz
  have c0' : w.cell? ad = some (.int .u8 65) := by simpa [Addr.add] using c0
  have c1' : w.cell? ⟨ad.block, ad.off + 1, none⟩ = some (.int .u8 71) := by simpa [Addr.add] using c1
  have c2' : w.cell? ⟨ad.block, ad.off + 2, none⟩ = some (.int .u8 (z2.toNat : Int)) := by simpa [Addr.add] using c2
  have hz3 : z2.toNat ≠ 0 := fun h => hz2 (UInt8.toNat_inj.1 h)
  have k2 : ((z2.toNat : Int) == 0) = false := beqF (by omega)
  rw [g2]
  obtain ⟨⟨v, m, e⟩, hx⟩ : ∃ r, rdLen (bs.drop 3) 16777216 = r := ⟨_, rfl⟩
  rw [hx]
  dsimp only
  by_cases he : e = 0
  · subst he
    obtain ⟨hu, _, hv⟩ := rdLen_ok hx
    obtain ⟨_, hm1, hm2, hm3⟩ := rdU_used hu
    rw [List.length_drop] at hm3
    rw [if_neg (by simp)]
    by_cases hsh : bs.length - (3 + m) < v + 4
    · rw [if_pos hsh]
      exact open_trunc ad c bs.length z2 bs w hr rfl hcap hl (by omega) c0' c1' c2' k2 v m hx (by omega) (by omega) hsh
    · rw [if_neg hsh]
      have hl4 : 4 ≤ (bs.drop (3 + m + v)).length := by rw [List.length_drop]; omega
      by_cases hs : (bs.drop (3 + m + v)).take 4 = low4 (crc (bs.take (3 + m + v)))
      · rw [if_neg (by simpa using hs)]
        exact open_ok ad c bs.length z2 bs w hr rfl hcap hl (by omega) c0' c1' c2' k2 v m hx (by omega) hsh ht ((low4_rd _ _ hl4).2 hs)
      · rw [if_pos hs]
        exact open_sum ad c bs.length z2 bs w hr rfl hcap hl (by omega) c0' c1' c2' k2 v m hx (by omega) hsh ht (fun h => hs ((low4_rd _ _ hl4).1 h))
  · rw [if_pos he]
    exact open_len ad c bs.length z2 bs w hr rfl hcap hl (by omega) c0' c1' c2' k2 v m e hx he
end Go.Proofs.YtklihjgmmliejaaDoor.W
