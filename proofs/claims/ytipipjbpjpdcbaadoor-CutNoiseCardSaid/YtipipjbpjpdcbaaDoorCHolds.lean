/- Layer 7: the walk of CutHolds. -/
import Derived.Test.YtipipjbpjpdcbaaDoorCAw1
namespace Go.Proofs.YtipipjbpjpdcbaaDoor.Ct
set_option linter.unusedVariables false
set_option linter.unusedSimpArgs false
open Go.RowKit
open Go.Proofs.YtipipjbpjpdcbaaDoor.W
open Go.Proofs.YtipipjbpjpdcbaaDoor.V
open Go.Proofs.YtipipjbpjpdcbaaDoor.O
open Go.Proofs.YtipipjbpjpdcbaaDoor.Pb (Alr alrC alrsC len_alrsC step_append_alr reads_blk)
open Go.Proofs.YtipipjbpjpdcbaaDoor.Al

def bet (T : List Tly) : Bool := T.any (isS false)
theorem bet_snoc {T : List Tly} {k : Nat} {x : Tly} (h : T[k]? = some x) : bet (T.take (k + 1)) = (bet (T.take k) || isS false x) := by
  unfold bet
  rw [List.take_add_one, h, List.any_append]
  simp
theorem bet_susp {T : List Tly} : bet T = false ↔ (T.filter (isS false)).map (·.subj) = [] := by
  unfold bet
  rw [List.map_eq_nil_iff, List.filter_eq_nil_iff, List.any_eq_false]
theorem tal_lo {num : Int} {l : List Int} {s : List Alr} {t : Tly} (ht : t ∈ tallies K num l s) (h : ¬ 2 ≤ t.expl) : t.impl = 0 := by
  unfold tallies at ht
  split at ht
  · obtain ⟨x, _, rfl⟩ := List.mem_map.1 ht
    show (if 2 ≤ cntA s x then _ else 0) = 0
    exact if_neg h
  · cases ht
theorem prop_mem {num : Int} {l : List Int} : ∀ {n : Nat} {s c : List Int}, prop num l n s = some c → ∀ x ∈ c, x ∈ s
  | 0, s, c, h => by simp [prop] at h
  | n + 1, s, c, h => by
    unfold prop at h
    split at h
    · cases h; exact fun x hx => hx
    · split at h
      · exact fun x hx => List.mem_of_mem_eraseIdx (prop_mem h x hx)
      · cases h
theorem propA_mem {num : Int} {l : List Int} {s : List Alr} {c : List Int} (h : propA K num l s = some c) : ∀ x ∈ c, x ∈ susp K num l s true := by
  unfold propA at h
  split at h
  · cases h
  · exact prop_mem h
theorem pairO_len {num x : Int} {r : Nat} {o : List Int} : (pairO num x r o).length ≤ 1 := by unfold pairO; split <;> simp
theorem pair1_len {num : Int} {l : List Int} {x : Nat} : (pair1 num l x).length ≤ 1 := by
  unfold pair1
  split
  · exact pairO_len
  · split
    · simp
    · exact pairO_len
theorem pairsF_len {num : Int} {l : List Int} : ∀ {xs : List Nat}, (pairsF num l xs).length ≤ xs.length
  | [] => by simp [pairsF]
  | x :: t => by
    have := pairsF_len (num := num) (l := l) (xs := t)
    have h1 := pair1_len (num := num) (l := l) (x := x)
    unfold pairsF at *
    rw [List.flatMap_cons, List.length_append, List.length_cons]
    omega
set_option maxRecDepth 1000000 in
set_option maxHeartbeats 16000000 in
theorem lawHolds_of (C : CutC) (num : Int) (l : List Int) (A L : Option Addr) (c cL : Nat) (xs : List Nat) (w : World) (h : VW w w.heap.size num l A c) (hs : US w w.heap.size xs L cL) (ht : H.Tab w) :
    Calls Tryd.prog 4 #[.agg #[.int .i64 num, .slice A l.length c], .slice L xs.length cL] w (PB w true) := by
  have hb0 := (Below.refl w.heap.size w).alloc (Nat.le_refl _) (.cells #[.int .i64 num, .slice A l.length c] 24)
  have hz := Blk.new w 24 #[.int .i64 num, .slice A l.length c]
  have HT := Lib.hid (fun W (hW : Below w.heap.size w W) => ht.on hW)
  have AW := Lib.hid (fun W (hW : Below w.heap.size w W) => awake_of C W (HT.out W hW))
  have KV := Lib.hid (fun W (hW : Below w.heap.size w W) => refValid_any num l A c w.heap.size W (h.below hW) hW.size)
  have KS := Lib.hid (fun (hv : validV num l = true) (hm : xs.length ≤ 1000) W (hW : Below w.heap.size w W) => set_any num l A L c cL w.heap.size xs W (h.below hW) (hs.below hW) hW.size hv hm)
  have SL := Lib.hid (show (setF num l xs).length ≤ xs.length from setF_len pairsF_len)
  have VV := Lib.hid (fun W (hW : Below w.heap.size w W) => (h.below hW).more hW.size)
  dsimp only [vwV] at KV
  obtain ⟨n, hn⟩ : ∃ n, n = l.length := ⟨_, rfl⟩
  obtain ⟨nx, hnx⟩ : ∃ n, n = xs.length := ⟨_, rfl⟩
  have HNN := Lib.hid hn
  have HNX := Lib.hid hnx
  rw [← hn] at hb0 hz KV KS ⊢
  rw [← hnx] at KS ⊢
  have B0 := Lib.hid hb0
  have Z1 := Lib.hid hz
  clear hb0 hz hn hnx h hs ht
  go_enter Tryd.func4, Tryd.ntmps4
  go_upto_region 1 with fail
  generalize w.alloc (.cells #[.int .i64 num, .slice A n c] 24) = w0 at *
  have FB := Lib.hid (fun W (hW : Below w0.heap.size w0 W) => (blk2 (Z1.out.below hW Z1.out.lt)))
  go_upto_region 3 with (first
    | (go_at_call 9; (with_reducible refine (AW.out _ B0.out).mono ?_); rintro e w1 ⟨rfl, q1⟩)
    | fail)
  have V1 := Lib.hid q1
  have W1 := Lib.hid (below2 B0.out q1)
  have p1 := FB.out _ V1.out
  clear q1 AW
  cases hv : validV num l
  · rw [hv] at KV
    clear KS hv
    go_wp2_with (first
      | (go_at_call 19; (with_reducible refine (KV.out _ W1.out).mono ?_); rintro e w2 ⟨rfl, q2⟩)
      | fail)
    go_ret
    exact ⟨rfl, below2 W1.out q2⟩
  have HV := Lib.hid hv
  rw [hv] at KV
  clear hv
  by_cases hx : 100 < nx
  · have hxi : (100 : Int) < (nx : Int) := by omega
    clear KS
    go_wp2_with (first
      | (go_at_call 19; (with_reducible refine (KV.out _ W1.out).mono ?_); rintro e w2 ⟨rfl, q2⟩)
      | fail)
    go_ret
    exact ⟨rfl, below2 W1.out q2⟩
  have hxi : decide ((100 : Int) < (nx : Int)) = false := by simp; omega
  have KS1 := Lib.hid (fun W hW => KS.out HV.out (by have := HNX.out; omega) W hW)
  have S1000 := Lib.hid (show (setF num l xs).length ≤ 1000 by have := SL.out; have := HNX.out; omega)
  have KC := Lib.hid (fun E cE W (hW : Below w.heap.size w W) (hE : AS W W.heap.size (setF num l xs) E cE) => C.counts num l A E c cE W.heap.size (setF num l xs) W (VV.out W hW) hE (Nat.le_refl _) S1000.out (HT.out W hW))
  have KP := Lib.hid (fun E cE W (hW : Below w.heap.size w W) (hE : AS W W.heap.size (setF num l xs) E cE) => C.prop num l A E c cE W.heap.size (setF num l xs) W (VV.out W hW) hE (Nat.le_refl _) S1000.out (HT.out W hW))
  have KA := Lib.hid (fun (q : List Int) (Y : Option Addr) (d : Nat) W (hW : Below w.heap.size w W) (hq : LS W W.heap.size q Y d) => refApplicable_any num l q A Y c d W.heap.size W (VV.out W hW) hq (Nat.le_refl _))
  have TLo := Lib.hid (fun t (ht : t ∈ tallies K num l (setF num l xs)) (h2 : ¬ 2 ≤ t.expl) => tal_lo ht h2)
  have TB := Lib.hid (fun t (ht : t ∈ tallies K num l (setF num l xs)) => tal_bd (by have := S1000.out; omega) ht)
  have TL := Lib.hid (tal_len (num := num) (l := l) (s := setF num l xs) (by have := S1000.out; omega))
  have HST := Lib.hid (show susp K num l (setF num l xs) true = ((tallies K num l (setF num l xs)).filter (isS true)).map (·.subj) from rfl)
  have HSF := Lib.hid (show susp K num l (setF num l xs) false = ((tallies K num l (setF num l xs)).filter (isS false)).map (·.subj) from rfl)
  have PA1 := Lib.hid (fun c (hc : propA K num l (setF num l xs) = some c) => propA_some hc)
  have PA2 := Lib.hid (fun h1 h2 h3 => propA_ok (num := num) (l := l) (s := setF num l xs) h1 h2 h3)
  have PA3 := Lib.hid (fun h1 => propA_no (num := num) (l := l) (s := setF num l xs) h1)
  have PA4 := Lib.hid (fun c (hc : propA K num l (setF num l xs) = some c) => propA_mem hc)
  have ELS := Lib.hid (fun (X : Option Addr) (cX B : Nat) (W : World) (hS : AS W B (setF num l xs) X cX) x (hx : x ∈ susp K num l (setF num l xs) true) => show In64 x from by
    obtain ⟨a, ha, rfl⟩ := mem_subsA.1 (susp_mem hx)
    exact (hS.el a ha).2.2.2)
  generalize setF num l xs = S at *
  generalize propA K num l S = R at *
  generalize susp K num l S true = ST at *
  generalize susp K num l S false = SF at *
  generalize tallies K num l S = T at *
  obtain ⟨nS, hnS⟩ : ∃ q, q = S.length := ⟨_, rfl⟩
  obtain ⟨nt, hnt⟩ : ∃ q, q = T.length := ⟨_, rfl⟩
  obtain ⟨nr, hnr⟩ : ∃ q, q = (R.getD []).length := ⟨_, rfl⟩
  have HNT := Lib.hid hnt
  have HNR := Lib.hid hnr
  unfold OutAS at KS1
  rw [← HNN.out, ← hnS] at KC KP
  rw [← hnS] at KS1
  rw [← hnt] at KC
  rw [← hnr] at KP
  rw [← HNN.out] at KA
  have hnt5 : nt ≤ 100000 := by rw [hnt]; exact TL.out
  clear KS hnS hnt hnr
  go_upto_region 7 with (first
    | (go_at_call 19; (with_reducible refine (KV.out _ W1.out).mono ?_); rintro e w2 ⟨rfl, q2⟩; have W2 := below2 W1.out q2; have p2 := FB.out _ (below2 V1.out q2))
    | (go_at_call 20; (with_reducible refine (KS1.out _ W2).mono ?_); rintro e w3 ⟨X3, c3, rfl, as3, q3⟩; have W3 := below2 W2 q3; have p3 := FB.out _ (below2 (below2 V1.out q2) q3))
    | (go_at_call 11; (with_reducible refine (KC.out X3 c3 _ W3 as3).mono ?_); rintro e w4 ⟨X4, c4, rfl, ts4, q4⟩)
    | fail)
  have W4 := Lib.hid (below2 W3 q4)
  have V4 := Lib.hid (below2 (below2 (below2 V1.out q2) q3) q4)
  have A4 := Lib.hid (AS.onC as3 q4)
  have T4 := Lib.hid ts4
  clear p1 p2 p3 as3 ts4 q2 q3 q4 W2 W3 KV KS1 KC
  have RT := Lib.hid (fun W (hW : Below w4.heap.size w4 W) => (T4.out.rd).below hW)
  rw [← HNT.out] at RT
  go_wp2_with fail
  go_loopg [7, 8, 9, 10] nt (fun gk s7 s8 s9 _ wr => ∃ k : Nat, k + gk = nt ∧ s9 = .int .i64 k ∧ s8 = .bool (bet (T.take k)) ∧ Hid (wr.ownsRow w4.heap.size 3 1 s7 (((T.take k).filter (isS true)).map (·.subj)).length ((((T.take k).filter (isS true)).map (·.subj)).map intV)) ∧ Hid (Below w4.heap.size w4 wr))
  case atStart => exact ⟨0, by omega, rfl, rfl, World.ownsRow_nil _ _ _ _, Below.refl _ _⟩
  case round =>
    obtain ⟨k, hkg, rfl, rfl, HO, HW⟩ := hrel
    have hws := HW.out.size
    have WR := Lib.hid (below2 W4.out HW.out)
    have VR := Lib.hid (below2 V4.out HW.out)
    have LO := Lib.hid (show (((T.take k).filter (isS true)).map (·.subj)).length ≤ 100000 from Nat.le_trans sus_len (by have := HNT.out; omega))
    cases gk with
    | zero =>
      have hkz : ¬ ((k : Int) < (nt : Int)) := by omega
      have HK := Lib.hid (show T.take k = T from List.take_of_length_le (by have := HNT.out; omega))
      rw [HK.out, ← HST.out] at HO LO
      rw [HK.out]
      obtain ⟨A5, c5, rfl, hc5, hr5⟩ := own_out HO.out
      have A4r := Lib.hid (AS.onC A4.out HW.out)
      have E64 := Lib.hid (fun x hx => ELS.out X3 c3 _ wr A4r.out x hx)
      obtain ⟨ns, hns⟩ : ∃ q, q = ST.length := ⟨_, rfl⟩
      have HNS := Lib.hid hns
      rw [← hns] at hc5 hr5 LO ⊢
      have hns5 : ns ≤ 100000 := LO.out
      have L5 := Lib.hid (show LS wr wr.heap.size ST A5 c5 from ⟨by rw [← HNS.out]; exact hr5, by rw [← HNS.out]; omega, E64.out, by rw [← HNS.out]; exact hc5⟩)
      have pr := FB.out _ VR.out
      have HBS := Lib.hid (show bet T = false ↔ SF = [] by rw [HSF.out]; exact bet_susp)
      clear hns hr5 hc5 HO HK
      cases hR : R with
      | none =>
        rw [hR] at KP HNR
        have hnr : nr = 0 := HNR.out
        subst hnr
        have KP1 := Lib.hid (KP.out X3 c3 wr WR.out A4r.out)
        clear KP
        cases hbt : bet T
        case true =>
          go_wp2_with (first
            | (go_at_call 13; (with_reducible refine KP1.out.mono ?_); rintro e w6 ⟨A6, c6, rfl, hc6, -, q6⟩)
            | fail)
          go_ret
          exact ⟨rfl, below2 WR.out q6⟩
        case false =>
          by_cases hn0 : ns = 0
          · subst hn0
            go_wp2_with (first
              | (go_at_call 13; (with_reducible refine KP1.out.mono ?_); rintro e w6 ⟨A6, c6, rfl, hc6, -, q6⟩)
              | fail)
            go_ret
            exact ⟨rfl, below2 WR.out q6⟩
          · have hnz : ((ns : Int) == 0) = false := by simp; omega
            have hnx0 : ¬ (next num l ST).2 = 0 := fun h0 => by
              have := PA2.out (fun e => hn0 (by rw [HNS.out, e]; rfl)) (HBS.out.1 hbt) h0
              rw [hR] at this
              cases this
            have KA1 := Lib.hid (fun W (hW : Below wr.heap.size wr W) => KA.out ST A5 c5 W (below2 WR.out hW) ((L5.out.below hW).more hW.size))
            rw [decide_eq_false hnx0, ← HNS.out] at KA1
            clear KA hnx0 hR hbt
            go_wp2_with (first
              | (go_at_call 13; (with_reducible refine KP1.out.mono ?_); rintro e w6 ⟨A6, c6, rfl, hc6, -, q6⟩; have p6 := FB.out _ (below2 VR.out q6))
              | (go_at_call 21; (with_reducible refine (KA1.out _ q6).mono ?_); rintro e w7 ⟨rfl, q7⟩)
              | fail)
            go_ret
            exact ⟨rfl, below2 (below2 WR.out q6) q7⟩
      | some cc =>
        rw [hR] at KP HNR
        have HNC := Lib.hid (show nr = cc.length from HNR.out)
        have KP1 := Lib.hid (show Calls Tryd.prog 13 _ wr (OutLB wr cc nr true) from KP.out X3 c3 wr WR.out A4r.out)
        obtain ⟨hc0, hcs⟩ := PA1.out cc hR
        have hmem := PA4.out cc hR
        have hSF : bet T = false := by
          cases h : bet T
          · rfl
          · exfalso
            have h1 : SF ≠ [] := fun e => by rw [HBS.out.2 e] at h; cases h
            have := PA3.out (.inr h1)
            rw [hR] at this
            cases this
        have hn0 : ¬ ns = 0 := fun e => by
          have h1 : ST = [] := List.eq_nil_of_length_eq_zero (by rw [← HNS.out]; exact e)
          have := PA3.out (.inl h1)
          rw [hR] at this
          cases this
        have hnz : ((ns : Int) == 0) = false := by simp; omega
        rw [hSF]
        have KA1 := Lib.hid (fun W (hW : Below wr.heap.size wr W) => KA.out ST A5 c5 W (below2 WR.out hW) ((L5.out.below hW).more hW.size))
        rw [← HNS.out] at KA1
        by_cases h0 : (next num l ST).2 = 0
        · have hcc : cc = ST := by
            have := PA2.out (fun e => hn0 (by rw [HNS.out, e]; rfl)) (HBS.out.1 hSF) h0
            rw [hR] at this
            exact Option.some.inj this
          subst hcc
          have hnr : nr = ns := by rw [HNC.out, HNS.out]
          subst hnr
          rw [decide_eq_true h0] at KA1
          have KQ := Lib.hid (fun (Y : Option Addr) (d : Nat) W (hW : Below wr.heap.size wr W) (hr : Reads W W.heap.size 1 Y cc.length (cc.map intV)) => law7same_any Y A5 d c5 _ _ cc cc W hr (((L5.out.below hW).more hW.size).rd) L5.out.l40 L5.out.l40)
          rw [← HNS.out] at KQ
          clear KA KP hR h0 hSF hcs hc0 hmem
          go_wp2_with (first
            | (go_at_call 13; (with_reducible refine KP1.out.mono ?_); rintro e w6 ⟨A6, c6, rfl, hc6, hr6, q6⟩; have p6 := FB.out _ (below2 VR.out q6))
            | (go_at_call 21; (with_reducible refine (KA1.out _ q6).mono ?_); rintro e w7 ⟨rfl, q7⟩; have hr7 := (hr6.below q7).more q7.size)
            | (go_at_call 15; (with_reducible refine (KQ.out A6 c6 _ (below2 q6 q7) hr7).mono ?_); rintro e w8 ⟨rfl, m8, rfl⟩)
            | fail)
          go_ret
          exact ⟨by simp, below_drewN' (below2 (below2 WR.out q6) q7) _⟩
        · have hlt : cc.length < ST.length := by
            rcases hcs with e | e
            · exact absurd (by rw [← e]; exact hc0) h0
            · exact e
          have hlt2 : (nr : Int) < (ns : Int) := by rw [HNC.out, HNS.out]; omega
          rw [decide_eq_false h0] at KA1
          have KA2 := Lib.hid (fun (Y : Option Addr) (d : Nat) W (hW : Below wr.heap.size wr W) (hq : LS W W.heap.size cc Y d) => KA.out cc Y d W (below2 WR.out hW) hq)
          rw [decide_eq_true hc0, ← HNC.out] at KA2
          have hnr5 : nr ≤ 100000 := by omega
          have LC := Lib.hid (fun (Y : Option Addr) (d : Nat) W (hr : Reads W W.heap.size 1 Y nr (cc.map intV)) (hd : nr ≤ d) => show LS W W.heap.size cc Y d from ⟨by rw [← HNC.out]; exact hr, by rw [← HNC.out]; omega, fun x hx => E64.out x (hmem x hx), by rw [← HNC.out]; exact hd⟩)
          clear KA KP hR h0 hSF hcs hc0 hmem
          go_wp2_with (first
            | (go_at_call 13; (with_reducible refine KP1.out.mono ?_); rintro e w6 ⟨A6, c6, rfl, hc6, hr6, q6⟩; have p6 := FB.out _ (below2 VR.out q6))
            | (go_at_call 21; (with_reducible refine (KA1.out _ q6).mono ?_); rintro e w7 ⟨rfl, q7⟩; have p7 := FB.out _ (below2 (below2 VR.out q6) q7); have hr7 := (hr6.below q7).more q7.size)
            | (go_at_call 21; (with_reducible refine (KA2.out A6 c6 _ (below2 q6 q7) (LC.out A6 c6 _ hr7 hc6)).mono ?_); rintro e w8 ⟨rfl, q8⟩)
            | fail)
          go_ret
          exact ⟨rfl, below2 (below2 (below2 WR.out q6) q7) q8⟩
    | succ gi =>
      have hkz : (k : Int) < (nt : Int) := by omega
      have hk0 : ¬ (k : Int) < 0 := by omega
      obtain ⟨x, hx⟩ : ∃ x, T[k]? = some x := ⟨_, List.getElem?_eq_getElem (by have := HNT.out; omega)⟩
      obtain ⟨ad, rfl, hadb, hab, x0, x1, x2⟩ := tly_at (RT.out _ HW.out) hx
      rw [hab] at x1 x2
      have hxm := List.mem_of_getElem? hx
      obtain ⟨hb1, hb2⟩ := TB.out x hxm
      have HLo := Lib.hid (TLo.out x hxm)
      have HSN := Lib.hid (sus_snoc (high := true) hx)
      have HBN := Lib.hid (bet_snoc hx)
      have wv : IntKind.i64.wrap ((x.expl : Int) + (x.impl : Int)) = ((x.expl + x.impl : Nat) : Int) := by rw [IntWalk.i64_in _ (by omega)]; omega
      clear hx hxm
      have HI1 := Lib.hid (show isS true x = (decide (2 ≤ x.expl) && (decide (4 ≤ x.expl + x.impl) == true)) from rfl)
      have HI0 := Lib.hid (show isS false x = (decide (2 ≤ x.expl) && (decide (4 ≤ x.expl + x.impl) == false)) from rfl)
      generalize ((T.take k).filter (isS true)).map (·.subj) = O at *
      generalize bet (T.take k) = bt at *
      by_cases h2 : 2 ≤ x.expl
      · have hd : ¬ (x.expl : Int) < 2 := by omega
        generalize x.expl + x.impl = z at *
        by_cases h4 : 4 ≤ z
        · have hz : (4 : Int) ≤ (z : Int) := by omega
          have HY := Lib.hid (show ((T.take (k + 1)).filter (isS true)).map (·.subj) = O ++ [x.subj] by rw [HSN.out, HI1.out]; simp [h2, h4])
          have HBY := Lib.hid (show bet (T.take (k + 1)) = bt by rw [HBN.out, HI0.out]; simp [h2, h4])
          go_wp2_with fail
          go_quiet (fail)
          go_wp2_with (first
            | (at_builtin; refine wp_append_intsO _ rfl (.tmp 60) (.tmp 66) rfl w4.heap.size _ O [x.subj] _ _ _ _ rfl (World.ownsRow.alloc (show (wr.drewN nq).ownsRow _ _ _ _ _ _ from HO.out) _) rfl (reads_one _ _) (by have := LO.out; simp; omega) (by simp; omega) ?_; intro v6 w6 ho6 hb6)
            | fail)
          have HO6 := Lib.hid ho6
          have V6 := Lib.hid ((show Below w4.heap.size w4 (wr.drewN nq) from below_drewN' HW.out _).alloc hws _ |>.trans hb6)
          clear ho6 hb6
          go_roundg gi
          case measure => omega
          case rel =>
            refine ⟨k + 1, by omega, by go_num, by rw [HBY.out], ?_, V6.out⟩
            rw [HY.out]; exact HO6.out
        · have hz : ¬ (4 : Int) ≤ (z : Int) := by omega
          have HN := Lib.hid (show ((T.take (k + 1)).filter (isS true)).map (·.subj) = O by rw [HSN.out, HI1.out]; simp [h2, h4])
          have HBY := Lib.hid (show bet (T.take (k + 1)) = true by rw [HBN.out, HI0.out]; simp [h2, h4])
          go_wp2_with fail
          go_quiet (fail)
          go_wp2_with fail
          go_roundg gi
          case measure => omega
          case rel =>
            refine ⟨k + 1, by omega, by go_num, by rw [HBY.out], ?_, below_drewN' HW.out _⟩
            rw [HN.out]; exact HO.out
      · have hd : (x.expl : Int) < 2 := by omega
        have him := HLo.out h2
        have HN := Lib.hid (show ((T.take (k + 1)).filter (isS true)).map (·.subj) = O by rw [HSN.out, HI1.out]; simp [h2])
        have HBY := Lib.hid (show bet (T.take (k + 1)) = bt by rw [HBN.out, HI0.out]; simp [h2])
        rw [him] at x2 wv
        generalize x.expl + 0 = z at *
        go_wp2_with fail
        go_quiet (fail)
        go_wp2_with fail
        go_roundg gi
        case measure => omega
        case rel =>
          refine ⟨k + 1, by omega, by go_num, by rw [HBY.out], ?_, below_drewN' HW.out _⟩
          rw [HN.out]; exact HO.out
end Go.Proofs.YtipipjbpjpdcbaaDoor.Ct
