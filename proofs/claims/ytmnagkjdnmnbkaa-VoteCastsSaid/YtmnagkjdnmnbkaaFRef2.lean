/- The reference of layer 8: Of, Votes, Winner. -/
import Derived.Test.YtmnagkjdnmnbkaaFRef1
namespace Go.Proofs.Ytmnagkjdnmnbkaa.Fv
set_option linter.unusedVariables false
set_option linter.unusedSimpArgs false
open Go.RowKit
open Go.Proofs.Ytmnagkjdnmnbkaa.W
open Go.Proofs.Ytmnagkjdnmnbkaa.V

def ofI (m : Int) : Nat → List Bal → Int
  | _, [] => -1
  | i, x :: t => if x.mem = m then (i : Int) else ofI m (i + 1) t
theorem ofI_iff {m : Int} : ∀ {s : List Bal} {i : Nat}, (0 ≤ ofI m i s ↔ hasM s m = true) ∧ -1 ≤ ofI m i s ∧ ofI m i s ≤ ((i + s.length : Nat) : Int)
  | [], i => by simp [ofI, hasM]
  | x :: t, i => by
    obtain ⟨h1, h2, h3⟩ := ofI_iff (m := m) (s := t) (i := i + 1)
    unfold ofI
    by_cases h : x.mem = m
    · rw [if_pos h]
      refine ⟨⟨fun _ => hasM_iff.2 ⟨x, by simp, h⟩, fun _ => by omega⟩, by omega, by rw [List.length_cons]; omega⟩
    · rw [if_neg h, h1]
      refine ⟨?_, h2, by rw [List.length_cons]; omega⟩
      unfold hasM
      rw [List.any_cons, decide_eq_false h, Bool.false_or]
theorem ofI_drop {m : Int} {s : List Bal} {k : Nat} {x : Bal} (h : s[k]? = some x) : ofI m k (s.drop k) = if x.mem = m then (k : Int) else ofI m (k + 1) (s.drop (k + 1)) := by
  rw [List.drop_eq_getElem_cons (List.getElem?_eq_some_iff.1 h).1, (List.getElem?_eq_some_iff.1 h).2]; rfl
set_option maxRecDepth 1000000 in
set_option maxHeartbeats 4000000 in
theorem ref8Of_any (E : Option Addr) (cE B : Nat) (ps : List Pbl) (m : Int) (w : World) (hs : BS w B ps E cE) :
    Calls Try.prog 32 #[.slice E ps.length cE, .int .i64 m] w fun e w' => e = .returned (.int .i64 (ofI m 0 (ps.map Pbl.bal))) ∧ w = w' := by
  have HR := Lib.hid hs.rd
  have hl40 := hs.l40
  obtain ⟨t, ht⟩ : ∃ t, t = ofI m 0 (ps.map Pbl.bal) := ⟨_, rfl⟩
  have HT := Lib.hid ht
  rw [← ht]
  obtain ⟨ns, hns⟩ : ∃ n, n = ps.length := ⟨_, rfl⟩
  have HN := Lib.hid hns
  rw [← hns] at HR hl40 ⊢
  clear hs hns ht
  go_enter Try.func32, Try.ntmps32
  go_wp2_with fail
  go_loopg [5] ns (fun gk s5 wr => ∃ k : Nat, k + gk = ns ∧ s5 = .int .i64 k ∧ w = wr ∧ Hid (ofI m k ((ps.map Pbl.bal).drop k) = t))
  case atStart => exact ⟨0, by omega, rfl, rfl, by have := HT.out; show ofI m 0 ((ps.map Pbl.bal).drop 0) = t; rw [this]; rfl⟩
  case round =>
    obtain ⟨k, hkg, rfl, rfl, HD⟩ := hrel
    cases gk with
    | zero =>
      have hkz : ¬ ((k : Int) < (ns : Int)) := by omega
      have HF := Lib.hid (show t = -1 by rw [← HD.out, List.drop_eq_nil_of_le (by rw [List.length_map]; have := HN.out; omega)]; rfl)
      go_wp2_with fail
      go_ret
      exact ⟨by rw [HF.out]; rfl, rfl⟩
    | succ gk =>
      have hkz : (k : Int) < (ns : Int) := by omega
      have hk0 : ¬ (k : Int) < 0 := by omega
      obtain ⟨x, hx⟩ : ∃ x, ps[k]? = some x := ⟨_, List.getElem?_eq_getElem (by have := HN.out; omega)⟩
      obtain ⟨ad, rfl, -, -, x0, x1⟩ := bal_at HR.out hx
      have HDN := Lib.hid (ofI_drop (m := m) (bal_get hx))
      clear hx
      by_cases h : x.mem = m
      · have e1 : (x.mem == m) = true := beqT h
        have HF := Lib.hid (show t = (k : Int) by rw [← HD.out, HDN.out, show x.bal.mem = x.mem from rfl, if_pos h])
        clear h
        go_wp2_with fail
        go_ret
        exact ⟨by rw [HF.out]; rfl, rfl⟩
      · have e1 : (x.mem == m) = false := beqF h
        have HF := Lib.hid (show ofI m (k + 1) ((ps.map Pbl.bal).drop (k + 1)) = t by rw [← HD.out, HDN.out, show x.bal.mem = x.mem from rfl, if_neg h])
        clear h
        go_wp2_with fail
        go_roundg gk
        case measure => omega
        case rel => exact ⟨k + 1, by omega, by go_num, rfl, HF.out⟩
theorem votes_take {s : List Bal} {k : Nat} {x : Bal} {cut : List Int} (h : s[k]? = some x) : votesF (s.take (k + 1)) cut = votesF (s.take k) cut + if x.cut = cut then 1 else 0 := by
  unfold votesF
  rw [List.take_add_one, h, List.countP_append]
  by_cases hx : x.cut = cut <;> simp [hx]
theorem votes_le {s : List Bal} {cut : List Int} : votesF s cut ≤ s.length := List.countP_le_length
set_option maxRecDepth 1000000 in
set_option maxHeartbeats 4000000 in
theorem ref8Votes_any (E C : Option Addr) (cE cC B : Nat) (ps : List Pbl) (cut : List Int) (w : World) (hs : BS w B ps E cE) (hc : LS w B cut C cC) (hB : B ≤ w.heap.size) (hm : ps.length ≤ 1000000) :
    Calls Try.prog 19 #[.slice E ps.length cE, .slice C cut.length cC] w (PI w (votesF (ps.map Pbl.bal) cut : Nat)) := by
  have RS := Lib.hid (fun W (hW : Below w.heap.size w W) => (hs.more hB).below hW)
  have RC := Lib.hid (fun W (hW : Below w.heap.size w W) => (hc.more hB).below hW)
  obtain ⟨t, ht⟩ : ∃ t, t = votesF (ps.map Pbl.bal) cut := ⟨_, rfl⟩
  have HT := Lib.hid ht
  rw [← ht]
  obtain ⟨ns, hns⟩ : ∃ n, n = ps.length := ⟨_, rfl⟩
  have HN := Lib.hid hns
  obtain ⟨nc, hnc⟩ : ∃ n, n = cut.length := ⟨_, rfl⟩
  have HNC := Lib.hid hnc
  rw [← hns] at hm ⊢
  rw [← hnc]
  clear hs hc hB hns hnc ht
  go_enter Try.func19, Try.ntmps19
  go_wp2_with fail
  go_loopg [5, 6] ns (fun gk s5 s6 wr => ∃ k m : Nat, k + gk = ns ∧ s6 = .int .i64 k ∧ s5 = .int .i64 m ∧ m ≤ k ∧ Hid (m = votesF ((ps.map Pbl.bal).take k) cut) ∧ Hid (Below w.heap.size w wr))
  case atStart => exact ⟨0, 0, by omega, rfl, rfl, by omega, rfl, Below.refl _ _⟩
  case round =>
    obtain ⟨k, m, hkg, rfl, rfl, hmk, HM, HW⟩ := hrel
    cases gk with
    | zero =>
      have hkz : ¬ ((k : Int) < (ns : Int)) := by omega
      have HF := Lib.hid (show t = m by rw [HM.out, List.take_of_length_le (by rw [List.length_map]; have := HN.out; omega)]; exact HT.out)
      go_wp2_with fail
      go_ret
      exact ⟨by rw [HF.out]; rfl, HW.out⟩
    | succ gk =>
      have hkz : (k : Int) < (ns : Int) := by omega
      have hk0 : ¬ (k : Int) < 0 := by omega
      obtain ⟨x, hx⟩ : ∃ x, ps[k]? = some x := ⟨_, List.getElem?_eq_getElem (by have := HN.out; omega)⟩
      have R1 := (RS.out wr HW.out).rd
      rw [← HN.out] at R1
      obtain ⟨ad, rfl, -, -, x0, x1⟩ := bal_at R1 hx
      have HDN := Lib.hid (votes_take (cut := cut) (bal_get hx))
      have PX := Lib.hid ((RS.out wr HW.out).el x (List.mem_of_getElem? hx))
      have KS := Lib.hid (show Calls Try.prog 33 #[.slice x.ptr x.cut.length x.cap, .slice C nc cC] wr (PB wr (decide (x.cut = cut))) by
        have := refSameInts_any x.ptr C x.cap cC _ _ x.cut cut wr PX.out.ls.rd (RC.out wr HW.out).rd PX.out.ls.l40 (RC.out wr HW.out).l40
        rw [← HNC.out] at this
        exact this.mono fun e w' h => by
          obtain ⟨h1, q, rfl⟩ := h
          exact ⟨h1, below_drewN' (Below.refl _ _) q⟩)
      clear R1
      cases h : decide (x.cut = cut)
      · rw [h] at KS
        have HF := Lib.hid (show m = votesF ((ps.map Pbl.bal).take (k + 1)) cut by rw [HDN.out, show x.bal.cut = x.cut from rfl, if_neg (of_decide_eq_false h), HM.out]; rfl)
        clear h hx
        go_wp2_with (first
          | (go_at_call 33; (with_reducible refine KS.out.mono ?_); rintro e w3 ⟨rfl, q3⟩)
          | fail)
        go_roundg gk
        case measure => omega
        case rel => exact ⟨k + 1, m, by omega, by go_num, rfl, by omega, HF.out, below2 HW.out q3⟩
      · rw [h] at KS
        have HF := Lib.hid (show m + 1 = votesF ((ps.map Pbl.bal).take (k + 1)) cut by rw [HDN.out, show x.bal.cut = x.cut from rfl, if_pos (of_decide_eq_true h), HM.out])
        clear h hx
        go_wp2_with (first
          | (go_at_call 33; (with_reducible refine KS.out.mono ?_); rintro e w3 ⟨rfl, q3⟩)
          | fail)
        go_roundg gk
        case measure => omega
        case rel => exact ⟨k + 1, m + 1, by omega, by go_num, by go_num, by omega, HF.out, below2 HW.out q3⟩
theorem winI_drop {l : List Int} {s : List Bal} {k : Nat} {x : Bal} (h : s[k]? = some x) : winI l s (s.drop k) = if fastQ (l.length : Int) ≤ (votesF s x.cut : Int) then some x.cut else winI l s (s.drop (k + 1)) := by
  rw [List.drop_eq_getElem_cons (List.getElem?_eq_some_iff.1 h).1, (List.getElem?_eq_some_iff.1 h).2]; rfl
theorem outWn_no {w w' : World} {R : Option (List Int)} {e : Ending} (hR : R = none) (he : e = .returned (.tuple #[.slice none 0 0, .bool false])) (hb : Below w.heap.size w w') : OutWn w (R.getD []) (R.getD []).length R.isSome e w' := by
  subst hR
  exact ⟨none, 0, he, rfl, ⟨Reads.none_, by show 0 ≤ _; omega, (fun x hx => by cases hx), Nat.le_refl _⟩, hb⟩
theorem outWn_yes {w w' : World} {R : Option (List Int)} {S : List Int} {e : Ending} {X : Option Addr} {cX k : Nat} (hR : R = some S) (hk : k = S.length) (he : e = .returned (.tuple #[.slice X k cX, .bool true])) (ho : LS w' w'.heap.size S X cX) (hb : Below w.heap.size w w') : OutWn w (R.getD []) (R.getD []).length R.isSome e w' := by
  subst hR hk
  exact ⟨X, cX, he, rfl, ho, hb⟩
theorem fast_64 (n : Nat) (h : n ≤ 1099511627776) : In64 (fastQ (n : Int)) ∧ 0 ≤ fastQ (n : Int) ∧ fastQ (n : Int) ≤ 16 := by
  unfold fastQ
  split
  · exact ⟨⟨by omega, by omega⟩, by omega, by omega⟩
  · exact ⟨⟨by omega, by omega⟩, by omega, by omega⟩
set_option maxRecDepth 1000000 in
set_option maxHeartbeats 8000000 in
theorem ref8Winner_any (num : Int) (l : List Int) (A E : Option Addr) (c cE B : Nat) (ps : List Pbl) (w : World) (h : VW w B num l A c) (hs : BS w B ps E cE) (hB : B ≤ w.heap.size) (hm : ps.length ≤ 1000000) :
    Calls Try.prog 17 #[.agg #[.int .i64 num, .slice A l.length c], .slice E ps.length cE] w (OutWn w ((winF num l (ps.map Pbl.bal)).getD []) ((winF num l (ps.map Pbl.bal)).getD []).length (winF num l (ps.map Pbl.bal)).isSome) := by
  have hb0 := (Below.refl w.heap.size w).alloc (Nat.le_refl _) (.cells #[.int .i64 num, .slice A l.length c] 24)
  have hz := Blk.new w 24 #[.int .i64 num, .slice A l.length c]
  have KV := Lib.hid (fun W (hW : Below w.heap.size w W) => ref8Valid_any num l A E c cE w.heap.size ps W ((h.more hB).below hW) ((hs.more hB).below hW) hW.size)
  have KO := Lib.hid (fun (cut : List Int) (C : Option Addr) (cC : Nat) W (hW : Below w.heap.size w W) (hc : LS W W.heap.size cut C cC) => ref8Votes_any E C cE cC W.heap.size ps cut W (((hs.more hB).below hW).more hW.size) hc (Nat.le_refl _) hm)
  have KF := Lib.hid (fun W => refFast_any (l.length : Int) W ⟨by omega, by have := h.l40; omega⟩)
  have RS := Lib.hid (fun W (hW : Below w.heap.size w W) => (hs.more hB).below hW)
  have HR := Lib.hid (show winF num l (ps.map Pbl.bal) = if okB num l (ps.map Pbl.bal) then winI l (ps.map Pbl.bal) (ps.map Pbl.bal) else none from rfl)
  have HF64 := fast_64 l.length h.l40
  obtain ⟨R, hR⟩ : ∃ R, R = winF num l (ps.map Pbl.bal) := ⟨_, rfl⟩
  rw [← hR] at HR ⊢
  have ND := Lib.hid (fun w' e hR he hb => outWn_no (w := w) (w' := w') (R := R) (e := e) hR he hb)
  have YD := Lib.hid (fun S X cX k w' e hR hk he ho hb => outWn_yes (w := w) (w' := w') (R := R) (S := S) (X := X) (cX := cX) (k := k) (e := e) hR hk he ho hb)
  obtain ⟨Q, hQ⟩ : ∃ Q, Q = OutWn w (R.getD []) (R.getD []).length R.isSome := ⟨_, rfl⟩
  rw [← hQ] at ND YD ⊢
  obtain ⟨fq, hfq⟩ : ∃ q, q = fastQ (l.length : Int) := ⟨_, rfl⟩
  have HFQ := Lib.hid hfq
  rw [← hfq] at KF HF64
  obtain ⟨⟨f1, f2⟩, f3, f4⟩ := HF64
  obtain ⟨n, hn⟩ : ∃ n, n = l.length := ⟨_, rfl⟩
  obtain ⟨ns, hns⟩ : ∃ n, n = ps.length := ⟨_, rfl⟩
  have HNS := Lib.hid hns
  rw [← hn] at hb0 hz KV KF ⊢
  rw [← hns] at KV KO hm ⊢
  have B0 := Lib.hid hb0
  have Z1 := Lib.hid hz
  clear hb0 hz hn hns hR hQ hfq h hs hB
  go_enter Try.func17, Try.ntmps17
  go_upto_region 1 with fail
  generalize w.alloc (.cells #[.int .i64 num, .slice A n c] 24) = w0 at *
  have FB := Lib.hid (fun W (hW : Below w0.heap.size w0 W) => (blk2 (Z1.out.below hW Z1.out.lt)))
  go_wp2_with fail
  go_loopg [6] ns (fun gk s6 wr => ∃ k : Nat, k + gk = ns ∧ s6 = .int .i64 k ∧ Hid (R = if okB num l (ps.map Pbl.bal) then winI l (ps.map Pbl.bal) ((ps.map Pbl.bal).drop k) else none) ∧ Hid (Below w0.heap.size w0 wr))
  case atStart => exact ⟨0, by omega, rfl, HR.out, Below.refl _ _⟩
  case round =>
    obtain ⟨k, hkg, rfl, HRK, HW⟩ := hrel
    have BW := Lib.hid (below2 B0.out HW.out)
    have p0 := FB.out _ HW.out
    cases gk with
    | zero =>
      have hkz : ¬ ((k : Int) < (ns : Int)) := by omega
      have HN := Lib.hid (show R = none by
        rw [HRK.out, List.drop_eq_nil_of_le (by rw [List.length_map]; have := HNS.out; omega)]
        split <;> rfl)
      go_wp2_with fail
      exact ND.out _ _ HN.out rfl BW.out
    | succ gi =>
      have hkz : (k : Int) < (ns : Int) := by omega
      have hk0 : ¬ (k : Int) < 0 := by omega
      cases hv : okB num l (ps.map Pbl.bal)
      · have HN := Lib.hid (show R = none by rw [HRK.out, hv]; rfl)
        rw [hv] at KV
        clear hv HRK
        go_wp2_with (first
          | (go_at_call 13; (with_reducible refine (KV.out _ BW.out).mono ?_); rintro e w3 ⟨rfl, q3⟩)
          | fail)
        exact ND.out _ _ HN.out rfl (below2 BW.out q3)
      have HRK2 := Lib.hid (show R = winI l (ps.map Pbl.bal) ((ps.map Pbl.bal).drop k) by rw [HRK.out, hv]; rfl)
      have HOK := Lib.hid hv
      rw [hv] at KV
      clear hv HRK
      obtain ⟨x, hx⟩ : ∃ x, ps[k]? = some x := ⟨_, List.getElem?_eq_getElem (by have := HNS.out; omega)⟩
      have RD := Lib.hid (fun W (hW : Below wr.heap.size wr W) => by
        have q := (RS.out W (below2 BW.out hW)).rd
        rw [← HNS.out] at q
        exact q)
      obtain ⟨ad, rfl, -, -, -, -⟩ := bal_at (RD.out wr (Below.refl _ _)) hx
      have HX := Lib.hid hx
      have HDN := Lib.hid (winI_drop (l := l) (bal_get hx))
      have GX := Lib.hid (fun W (hW : Below wr.heap.size wr W) => ((RS.out W (below2 BW.out hW)).el x (List.mem_of_getElem? HX.out)).more (below2 BW.out hW).size)
      have F1 := Lib.hid (fun W (hW : Below wr.heap.size wr W) => And.intro (FB.out W (below2 HW.out hW)) (bal_at2 (RD.out W hW) HX.out))
      have KY := Lib.hid (fun W (hW : Below wr.heap.size wr W) => KO.out x.cut x.ptr x.cap W (below2 BW.out hW) (GX.out W hW).ls)
      obtain ⟨vt, hvt⟩ : ∃ q, q = votesF (ps.map Pbl.bal) x.cut := ⟨_, rfl⟩
      have hvt5 : vt ≤ 1000000 := by rw [hvt]; exact Nat.le_trans votes_le (by rw [List.length_map, ← HNS.out]; exact hm)
      rw [← hvt] at KY
      have HD2 := Lib.hid (show R = if fq ≤ (vt : Int) then some x.cut else winI l (ps.map Pbl.bal) ((ps.map Pbl.bal).drop (k + 1)) by rw [HRK2.out, HDN.out, HFQ.out, hvt]; rfl)
      obtain ⟨xm, xp, xc, xl⟩ := x
      dsimp only at *
      obtain ⟨nq, hnq⟩ : ∃ q, q = xl.length := ⟨_, rfl⟩
      have HNQ := Lib.hid hnq
      rw [← hnq] at KY F1
      clear hx hnq hvt KO HDN
      go_upto_region 4 with (first
        | (go_at_call 13; (with_reducible refine (KV.out _ BW.out).mono ?_); rintro e w3 ⟨rfl, q3⟩)
        | fail)
      have Q3 := Lib.hid q3
      have p3 := F1.out _ q3
      have i3 : Below w3.heap.size w3 w3 := Below.refl _ _
      have d3 : Below w3.heap.size w3 w3.drew := i3.drew
      clear q3 p0 KV
      go_cut [29] from 18 to 29 (fun s29 wx => s29 = .bool (decide (fq ≤ (vt : Int))) ∧ Hid (Below w3.heap.size w3 wx))
      case first =>
        go_region_held3 (fun W' => ((W'.cell? ⟨w.heap.size, 0, none⟩ = some (.int .i64 num) ∧ W'.cell? ⟨w.heap.size, 1, none⟩ = some (.slice A n c)) ∧ W'.cell? (ad.add (k * 2)) = some (.int .i64 xm) ∧ W'.cell? ⟨(ad.add (k * 2)).block, (ad.add (k * 2)).off + 1, none⟩ = some (.slice xp nq xc))) (first | exact s4 | exact F1.out _ (below2 Q3.out d3) | exact F1.out _ Q3.out) (first
          | (go_at_call 19; (with_reducible refine (KY.out _ (by first | exact below2 Q3.out d3 | exact Q3.out)).mono ?_); rintro e w4 ⟨rfl, q4⟩; have b4 : Below w3.heap.size w3 w4 := (by first | exact q4 | exact bdrew q4); have s4 := F1.out _ (below2 Q3.out b4))
          | (go_at_call 38; (with_reducible refine (KF.out _).mono ?_); rintro e w5 ⟨rfl, rfl⟩)
          | fail)
        all_goals
          go_wp2_with fail
          go_meet
          exact ⟨rfl, by first | exact b4 | exact b4.drew⟩
      case rest =>
        obtain ⟨rfl, HB⟩ := hcut
        obtain ⟨w5, rfl⟩ : ∃ q, q = wc := ⟨_, rfl⟩
        have Q5 := Lib.hid (below2 Q3.out HB.out)
        have p5 := F1.out _ Q5.out
        have W5 := Lib.hid (below2 BW.out Q5.out)
        have L5 := Lib.hid (GX.out _ Q5.out).ls
        clear p3 KY KF d3 i3
        cases hd : decide (fq ≤ (vt : Int))
        · have HN := Lib.hid (show R = winI l (ps.map Pbl.bal) ((ps.map Pbl.bal).drop (k + 1)) by rw [HD2.out, if_neg (of_decide_eq_false hd)])
          clear hd
          go_wp2_with fail
          go_roundg gi
          case measure => omega
          case rel => exact ⟨k + 1, by omega, by go_num, by rw [HOK.out]; exact HN.out, below2 HW.out Q5.out⟩
        · have HN := Lib.hid (show R = some xl by rw [HD2.out, if_pos (of_decide_eq_true hd)])
          clear hd
          go_wp2_with fail
          exact YD.out xl xp xc nq _ _ HN.out HNQ.out rfl L5.out W5.out
end Go.Proofs.Ytmnagkjdnmnbkaa.Fv
