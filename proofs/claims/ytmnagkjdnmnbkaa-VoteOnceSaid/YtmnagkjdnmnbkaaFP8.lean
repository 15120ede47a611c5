/- Package fastvote: Cast. -/
import Derived.Test.YtmnagkjdnmnbkaaFP7
namespace Go.Proofs.Ytmnagkjdnmnbkaa.Fv
set_option linter.unusedVariables false
set_option linter.unusedSimpArgs false
open Go.RowKit
open Go.Proofs.Ytmnagkjdnmnbkaa.W
open Go.Proofs.Ytmnagkjdnmnbkaa.V

set_option maxRecDepth 1000000 in
set_option maxHeartbeats 16000000 in
theorem fvCast_any (num : Int) (l : List Int) (A E : Option Addr) (c cE B : Nat) (ps : List Pbl) (b : Pbl) (w : World) (h : VW w B num l A c) (hs : BS w B ps E cE) (hb : PG w B b) (hB : B ≤ w.heap.size) (hm : ps.length ≤ 1000) :
    Calls Try.prog 9 #[.agg #[.int .i64 num, .slice A l.length c], .slice E ps.length cE, .agg #[.int .i64 b.mem, .slice b.ptr b.cut.length b.cap]] w (OutBx w (castB num l (ps.map Pbl.bal) b.bal) (castB num l (ps.map Pbl.bal) b.bal).length (castE num l (ps.map Pbl.bal) b.bal)) := by
  have hb0 := boxes2 w #[.int .i64 num, .slice A l.length c] #[.int .i64 b.mem, .slice b.ptr b.cut.length b.cap] 24 27
  have hz := two_blk w 24 27 #[.int .i64 num, .slice A l.length c] #[.int .i64 b.mem, .slice b.ptr b.cut.length b.cap]
  have KV := Lib.hid (fun W (hW : Below w.heap.size w W) => fvValid_any num l A E c cE w.heap.size ps W ((h.more hB).below hW) ((hs.more hB).below hW) hW.size)
  have KA := Lib.hid (fun W (hW : Below w.heap.size w W) => show Calls Try.prog 24 #[.agg #[.int .i64 num, .slice A l.length c], .slice b.ptr b.cut.length b.cap] W (PB W (applF num l b.cut)) from fvApplicable_any num l b.cut A b.ptr c b.cap W.heap.size W (((h.more hB).below hW).more hW.size) (((hb.more hB).below hW).more hW.size).ls (Nat.le_refl _))
  have KC := Lib.hid (fun W (hW : Below w.heap.size w W) => viewContains_any A c w.heap.size l b.mem W ((h.more hB).below hW).ls hW.size)
  have KO := Lib.hid (fun (ha : AscM (ps.map Pbl.bal)) W (hW : Below w.heap.size w W) => fvSearch_any E cE w.heap.size ps.length ps b.mem W ((hs.more hB).below hW).rd rfl hs.l40 hW.size ha)
  have hcapE := hs.cap
  have RS := Lib.hid (fun W (hW : Below w.heap.size w W) => (hs.more hB).below hW)
  have RB := Lib.hid (fun W (hW : Below w.heap.size w W) => ((hb.more hB).below hW).more hW.size)
  have HB := Lib.hid (show castB num l (ps.map Pbl.bal) b.bal = if castE num l (ps.map Pbl.bal) b.bal = 0 then insF b.bal (ps.map Pbl.bal) else [] from rfl)
  have HE := Lib.hid (show castE num l (ps.map Pbl.bal) b.bal = if (okB num l (ps.map Pbl.bal) && applF num l b.cut) = false then 1 else if hasB l b.mem = false then 6 else if hasM (ps.map Pbl.bal) b.mem then 7 else 0 from rfl)
  obtain ⟨er, her⟩ : ∃ q, q = castE num l (ps.map Pbl.bal) b.bal := ⟨_, rfl⟩
  obtain ⟨R, hR⟩ : ∃ q, q = castB num l (ps.map Pbl.bal) b.bal := ⟨_, rfl⟩
  rw [← her] at HB HE ⊢
  rw [← hR] at HB ⊢
  have ND := Lib.hid (fun w' e er' h1 h2 h3 h4 => outBx_no (w := w) (w' := w') (R := R) (err := er) (er := er') (e := e) h1 h2 h3 h4)
  have YD := Lib.hid (fun ps' X cX n' w' e h1 h2 h3 h4 h5 h6 => outBx_yes (w := w) (w' := w') (R := R) (err := er) (n := n') (e := e) (ps := ps') (X := X) (cX := cX) h1 h2 h3 h4 h5 h6)
  obtain ⟨Q, hQ⟩ : ∃ Q, Q = OutBx w R R.length er := ⟨_, rfl⟩
  rw [← hQ] at ND YD ⊢
  obtain ⟨n, hn⟩ : ∃ n, n = l.length := ⟨_, rfl⟩
  obtain ⟨ns, hns⟩ : ∃ n, n = ps.length := ⟨_, rfl⟩
  have HNS := Lib.hid hns
  rw [← hn] at hb0 hz KV KA KC ⊢
  rw [← hns] at KV KO hm hcapE ⊢
  obtain ⟨bm, bp, bc, bl⟩ := b
  dsimp only [Pbl.bal] at *
  obtain ⟨nb, hnb⟩ : ∃ q, q = bl.length := ⟨_, rfl⟩
  have HNB := Lib.hid hnb
  rw [← hnb] at hb0 hz KA ⊢
  have B0 := Lib.hid hb0
  have Z1 := Lib.hid hz.1
  have Z2 := Lib.hid hz.2
  clear hb0 hz hn hns her hR hQ hnb h hs hb hB
  go_enter Try.func9, Try.ntmps9
  go_upto_region 1 with fail
  generalize (w.alloc (.cells #[.int .i64 num, .slice A n c] 24)).alloc (.cells #[.int .i64 bm, .slice bp nb bc] 27) = w0 at *
  have FB := Lib.hid (fun W (hW : Below w0.heap.size w0 W) => And.intro (blk2 (Z1.out.below hW Z1.out.lt)) (blk2 (Z2.out.below hW Z2.out.lt)))
  have p0 := FB.out _ (Below.refl _ _)
  cases hv : okB num l (ps.map Pbl.bal)
  · have HN := Lib.hid (show er = 1 by rw [HE.out, hv]; rfl)
    have HRN := Lib.hid (show R = [] by rw [HB.out, HN.out]; rfl)
    rw [hv] at KV
    clear hv HE HB
    go_wp2_with (first
      | (go_at_call 12; (with_reducible refine (KV.out _ B0.out).mono ?_); rintro e w1 ⟨rfl, q1⟩)
      | fail)
    exact ND.out _ _ 1 HRN.out HN.out rfl (below2 B0.out q1)
  rw [hv] at KV HE
  cases ha : applF num l bl
  · have HN := Lib.hid (show er = 1 by rw [HE.out, ha]; rfl)
    have HRN := Lib.hid (show R = [] by rw [HB.out, HN.out]; rfl)
    rw [ha] at KA
    clear hv ha HE HB
    go_wp2_with (first
      | (go_at_call 12; (with_reducible refine (KV.out _ B0.out).mono ?_); rintro e w1 ⟨rfl, q1⟩; (have p1 := FB.out _ q1); (have c1 := below2 B0.out q1))
      | (go_at_call 24; (with_reducible refine (KA.out _ c1).mono ?_); rintro e w2 ⟨rfl, q2⟩)
      | fail)
    exact ND.out _ _ 1 HRN.out HN.out rfl (below2 c1 q2)
  rw [ha] at KA HE
  have HV := Lib.hid hv
  have HA := Lib.hid ha
  have KO := Lib.hid (KO.out (okB_iff.1 hv).2.2)
  have HPH := Lib.hid (fun p f (h : PlaceM ps bm p f) => h.has (okB_iff.1 hv).2.2)
  go_upto_region 3 with (first
    | (go_at_call 12; (with_reducible refine (KV.out _ B0.out).mono ?_); rintro e w1 ⟨rfl, q1⟩; (have p1 := FB.out _ q1); (have c1 := below2 B0.out q1))
    | (go_at_call 24; (with_reducible refine (KA.out _ c1).mono ?_); rintro e w2 ⟨rfl, q2⟩)
    | fail)
  have V2 := Lib.hid (below2 q1 q2)
  have W2 := Lib.hid (below2 c1 q2)
  have p2 := FB.out _ V2.out
  clear p0 p1 c1 q1 q2 hv ha KV KA
  cases hc : hasB l bm
  · have HN := Lib.hid (show er = 6 by rw [HE.out, hc]; rfl)
    have HRN := Lib.hid (show R = [] by rw [HB.out, HN.out]; rfl)
    rw [hc] at KC
    clear hc HE HB
    go_wp2_with (first
      | (go_at_call 25; (with_reducible refine (KC.out _ W2.out).mono ?_); rintro e w3 ⟨rfl, q3⟩)
      | fail)
    exact ND.out _ _ 6 HRN.out HN.out rfl (below2 W2.out q3)
  rw [hc] at KC HE
  clear hc
  go_upto_region 6 with (first
    | (go_at_call 25; (with_reducible refine (KC.out _ W2.out).mono ?_); rintro e w3 ⟨rfl, q3⟩; (have c3 := below2 W2.out q3); (have p3 := FB.out _ (below2 V2.out q3)))
    | (go_at_call 26; (with_reducible refine (KO.out _ c3).mono ?_); rintro e w4 ⟨p, f, rfl, hp, q4⟩)
    | fail)
  have V4 := Lib.hid (below2 (below2 V2.out q3) q4)
  have W4 := Lib.hid (below2 c3 q4)
  have p4 := FB.out _ V4.out
  have HP := Lib.hid hp
  have HH := Lib.hid (HPH.out p f hp)
  clear p2 p3 c3 q3 q4 hp KC KO HPH
  cases f
  rotate_left 1
  · have HN := Lib.hid (show er = 7 by rw [HE.out, HH.out]; rfl)
    have HRN := Lib.hid (show R = [] by rw [HB.out, HN.out]; rfl)
    clear HE HB
    go_wp2_with fail
    exact ND.out _ _ 7 HRN.out HN.out rfl W4.out
  have HN := Lib.hid (show er = 0 by rw [HE.out, HH.out]; rfl)
  have HRN := Lib.hid (show R = insF ⟨bm, bl⟩ (ps.map Pbl.bal) by rw [HB.out, HN.out]; rfl)
  clear HE HB HH
  obtain ⟨bb, hbb⟩ : ∃ q : Pbl, q = ⟨bm, bp, bc, bl⟩ := ⟨_, rfl⟩
  have EB := Lib.hid (fun W (hW : Below w.heap.size w W) => show PG W W.heap.size bb by rw [hbb]; exact RB.out W hW)
  have HCB := Lib.hid (show balsC [bb] = [.int .i64 bm, .slice bp nb bc] by rw [balsC_one, hbb, HNB.out]; rfl)
  obtain ⟨P, hP⟩ : ∃ P, P = ps.take p ++ [bb] ++ ps.drop p := ⟨_, rfl⟩
  have HIP := Lib.hid (show R = P.map Pbl.bal by
    rw [HRN.out, hP, ← PlaceM.put (b := bb) (by rw [show bb.mem = bm by rw [hbb]]; exact HP.out), insP_bal, hbb]; rfl)
  have HLB := Lib.hid (show bb.cut = bl by rw [hbb])
  have hpn : p ≤ ns := by have := HP.out.le; have := HNS.out; omega
  have HPL := Lib.hid (show P.length = ns + 1 by rw [hP]; simp; have := HNS.out; omega)
  have HPM := Lib.hid (fun q (hq : q ∈ P) => show q = bb ∨ q ∈ ps by
    rw [hP] at hq
    rcases List.mem_append.1 hq with h | h
    · rcases List.mem_append.1 h with h | h
      · exact .inr (List.mem_of_mem_take h)
      · exact .inl (by simpa using h)
    · exact .inr (List.mem_of_mem_drop h))
  have HPE := Lib.hid hP
  clear hbb RB HRN hP
  have PF0 := Lib.hid (fun g W (hW : Below w.heap.size w W) (hg : w.heap.size ≤ g) q (hq : q ∈ P) => show PF W g q by
    rcases HPM.out q hq with rfl | h
    · exact PF.of (EB.out w (Below.refl _ _)) hW hg (by rw [HLB.out]; exact appl_ne HA.out) hW.size
    · exact PF.of ((RS.out w (Below.refl _ _)).el q h) hW hg (appl_ne (okBal_iff.1 ((okB_iff.1 HV.out).2.1 q.bal (List.mem_map.2 ⟨q, h, rfl⟩))).2) hW.size)
  have hrd := (RS.out w4 W4.out).rd
  rw [← HNS.out] at hrd
  obtain ⟨Z, hs2, rz⟩ := slice_fromB (c := cE) (k := p) (ki := (p : Int)) hrd HNS.out.symm hcapE hpn rfl
  have hs1 := slice_toB (c := cE) (k := p) (ki := (p : Int)) hrd hcapE hpn rfl
  have rt := readsB_take (k := p) hrd hpn HNS.out.symm
  have RT := Lib.hid (fun W (hW : Below w4.heap.size w4 W) => (rt.more W4.out.size).below hW)
  have RZ := Lib.hid (fun W (hW : Below w4.heap.size w4 W) => (rz.more W4.out.size).below hW)
  obtain ⟨n3, hn3⟩ : ∃ q, q = ns - p := ⟨_, rfl⟩
  obtain ⟨c3, hc3⟩ : ∃ q, q = cE - p := ⟨_, rfl⟩
  rw [← hn3] at hs2 RZ
  rw [← hc3] at hs2
  have LT := Lib.hid (show p = (ps.take p).length by rw [List.length_take, ← HNS.out]; omega)
  have LD := Lib.hid (show n3 = (ps.drop p).length by rw [List.length_drop, ← HNS.out, hn3])
  have hp3 : p ≤ 10000 := by omega
  have hn35 : n3 ≤ 10000 := by omega
  have k0 : (0 : Int) ≤ (p : Int) := by omega
  have kn : (p : Int) ≤ (ns : Int) := by omega
  have kc : (p : Int) ≤ (cE : Int) := by omega
  clear hrd rt rz hn3 hc3
  have KN := Lib.hid (fun g gb W (hg : Blk W g 25 #[.slice E p cE, .slice (some ⟨gb, 0, none⟩) 1 1, .slice Z n3 c3]) (hgb : Blk W gb 27 #[.int .i64 bm, .slice bp nb bc]) (hW : Below w4.heap.size w4 W) =>
    concat3_any (ps.take p) [bb] (ps.drop p) E (some ⟨gb, 0, none⟩) Z p 1 n3 cE 1 c3 3 g W hg ((RT.out W hW).more hW.size) (by rw [HCB.out]; exact reads_ofblk hgb rfl) ((RZ.out W hW).more hW.size) LT.out rfl LD.out hp3 (by omega) hn35 (by omega))
  rw [← HPE.out] at KN
  obtain ⟨nn, hnn⟩ : ∃ q, q = ns + 1 := ⟨_, rfl⟩
  have HNN := Lib.hid hnn
  rw [← hnn] at HPL
  have hnn5 : nn ≤ 1001 := by omega
  have hnn1 : 1 ≤ nn := by omega
  clear hnn
  go_upto_region 8 with fail
  go_cut [10] from 37 to 46 (fun s10 wx => ∃ v : Value, s10 = v ∧ Hid (wx.ownsRow w4.heap.size 27 2 v nn (balsC P)) ∧ Hid (Below w4.heap.size w4 wx))
  case first =>
    go_region_law (first
      | ((try go_simp); go_at_call 28; go_loud ((with_reducible refine (KN.out _ _ _ (by first | exact (two_blk _ _ _ _ _).2 | exact (two_blk _ _ _ _ _).2.drew) (by first | exact (two_blk _ _ _ _ _).1 | exact (two_blk _ _ _ _ _).1.drew) (by repeat (first | exact Below.refl _ _ | refine Below.drew ?_ | refine Below.alloc ?_ (by first | exact Nat.le_refl _ | simp | (simp; omega)) _))).mono ?_); rintro e w5 ⟨v5, rfl, ho5, hb5⟩))
      | fail)
    all_goals
      have q5 : Below w4.heap.size w4 w5 := by
        refine below2 ?_ hb5
        repeat (first | exact Below.refl _ _ | refine Below.drew ?_ | refine Below.alloc ?_ (by first | exact Nat.le_refl _ | simp | (simp; omega)) _)
      rw [HPL.out] at ho5
      go_wp2_with fail
      go_meet
      exact ⟨_, rfl, own_base ho5 (by first | (simp; omega) | simp), q5⟩
  case rest =>
  obtain ⟨v, rfl, HO5, HB5⟩ := hcut
  generalize wc = w5 at *
  obtain ⟨ad, cn, rfl, hnc, hr⟩ := rowB_open HO5.out HPL.out hnn1
  have HR := Lib.hid hr
  have W5 := Lib.hid (below2 W4.out HB5.out)
  have V5 := Lib.hid (below2 V4.out HB5.out)
  have HAB := Lib.hid (Nat.le_trans W4.out.size hr.in_.1)
  clear hr HO5 hs1 hs2 p4
  go_wp2_with fail
  go_loopg [11, 49] nn (fun gk _ s49 wr => ∃ (k : Nat) (qs : List Pbl), k + gk = nn ∧ s49 = .int .i64 k ∧ Hid (RowB wr w4.heap.size ad nn cn qs) ∧ Hid (qs.map Pbl.bal = P.map Pbl.bal) ∧ Hid (∀ q ∈ qs, PF wr ad.block q) ∧ Hid (Below w.heap.size w wr))
  case atStart => exact ⟨0, P, by omega, rfl, HR.out, rfl, PF0.out ad.block w5 W5.out HAB.out, W5.out⟩
  case round =>
    obtain ⟨k, qs, hkg, rfl, HRW, HQM, HPF, HW⟩ := hrel
    cases gk with
    | zero =>
      have hkz : ¬ ((k : Int) < (nn : Int)) := by omega
      have HQ := Lib.hid (show nn = qs.length from HRW.out.len.symm)
      go_wp2_with fail
      refine YD.out qs (some ad) cn nn _ _ (by rw [HIP.out, HQM.out]) HN.out HQ.out rfl ⟨?_, by rw [← HQ.out]; omega, fun q hq => (HPF.out q hq).pg, by rw [← HQ.out]; exact hnc⟩ HW.out
      rw [← HQ.out]
      exact HRW.out.reads
    | succ gi =>
      have hkz : (k : Int) < (nn : Int) := by omega
      have hk0 : ¬ (k : Int) < 0 := by omega
      obtain ⟨x, hx⟩ : ∃ x, qs[k]? = some x := ⟨_, List.getElem?_eq_getElem (by have := HRW.out.len; omega)⟩
      obtain ⟨y0, y1, -⟩ := HRW.out.at_ hx
      have HX := Lib.hid hx
      have HPX := Lib.hid (HPF.out x (List.mem_of_getElem? hx))
      obtain ⟨xm, xp, xc, xl⟩ := x
      dsimp only at *
      obtain ⟨nx, hnx⟩ : ∃ q, q = xl.length := ⟨_, rfl⟩
      have HNX := Lib.hid hnx
      rw [← hnx] at y1
      have KCL := Lib.hid (clone_any xp xc wr.heap.size nx xl wr hnx HPX.out.pg.ls (Nat.le_refl _) (by rw [hnx]; exact HPX.out.one))
      clear hx hnx
      go_wp2_with (first
        | (go_at_call 29; (with_reducible refine KCL.out.mono ?_); rintro e w6 ⟨A6, c6, rfl, h6, f6, q6⟩; (have HR6 := Lib.hid (HRW.out.on q6)); obtain ⟨z0, z1, zf⟩ := HR6.out.at_ HX.out; (have zf2 := zf ((ad.add (k * 2)).off + 1)); (have H6 := Lib.hid h6); (have F6 := Lib.hid f6); clear h6 f6)
        | fail)
      go_roundg gi
      case measure => omega
      case rel =>
        refine ⟨k + 1, qs.set k ⟨xm, A6, c6, xl⟩, by omega, by go_num, HR6.out.set_ (j := 1) HX.out (by omega) (by rw [HNX.out]; rfl), (bal_set (x' := ⟨xm, A6, c6, xl⟩) HX.out rfl).trans HQM.out, fun q hq => ?_, HR6.out.bel (below2 HW.out q6) W4.out.size⟩
        have hbk : (ad.add (k * 2)).block = ad.block := block_of_add _ _
        refine PF.set ?_ hbk
        rcases mem_set hq with rfl | hq
        · exact ⟨⟨H6.out, HPX.out.pg.m64⟩, fun a e => by
            have h1 := F6.out a e
            have h2 := HRW.out.in_.2
            omega, HPX.out.one⟩
        · exact (HPF.out q hq).on q6
end Go.Proofs.Ytmnagkjdnmnbkaa.Fv
