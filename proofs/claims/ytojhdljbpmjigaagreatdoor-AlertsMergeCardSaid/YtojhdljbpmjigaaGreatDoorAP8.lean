/- Package alerts: Add. -/
import Derived.Test.YtojhdljbpmjigaaGreatDoorAP7
import Derived.Test.YtojhdljbpmjigaaGreatDoorASli
namespace Go.Proofs.YtojhdljbpmjigaaGreatDoor.Al
set_option linter.unusedVariables false
set_option linter.unusedSimpArgs false
open Go.RowKit
open Go.Proofs.YtojhdljbpmjigaaGreatDoor.W
open Go.Proofs.YtojhdljbpmjigaaGreatDoor.V
open Go.Proofs.YtojhdljbpmjigaaGreatDoor.O
open Go.Proofs.YtojhdljbpmjigaaGreatDoor.Pb (Alr alrC alrsC len_alrsC alrsC_app alrsC_one alrsC_get alrsC_cell alrInfo step_append_alr reads_blk two_blk)

set_option maxRecDepth 1000000 in
set_option maxHeartbeats 8000000 in
theorem alAdd_any (num : Int) (l : List Int) (A E : Option Addr) (c cE B : Nat) (s : List Alr) (a : Alr) (w : World) (h : VW w B num l A c) (hs : AS w B s E cE) (hB : B ≤ w.heap.size) (ha : El a) (hm : s.length ≤ 1000000) (ht : H.Tab w) :
    Calls Tryz.prog 13 #[.agg #[.int .i64 num, .slice A l.length c], .slice E s.length cE, alrV a] w (OutAdd w (addS K num l s a) (addB K num l s a) (addE K num l s a)) := by
  have hb0 := boxes2 w #[.int .i64 num, .slice A l.length c] #[.int .i64 a.view, .int .i64 a.ring, .int .i64 a.obs, .int .i64 a.subj] 24 38
  have hz := two_blk w 24 38 #[.int .i64 num, .slice A l.length c] #[.int .i64 a.view, .int .i64 a.ring, .int .i64 a.obs, .int .i64 a.subj]
  have KV := Lib.hid (fun W (hW : Below w.heap.size w W) => alValid_any num l A E c cE w.heap.size s W ((h.more hB).below hW) ((hs.more hB).below hW) hW.size (ht.on hW))
  have KR := Lib.hid (fun W => alInRange_any a W ha)
  have KA := Lib.hid (fun W (hW : Below w.heap.size w W) => alValidAlert_any num l A c w.heap.size a W ((h.more hB).below hW) hW.size ha (ht.on hW))
  have KS := Lib.hid (fun (q : AscA s) W (hW : Below w.heap.size w W) => alSearch_any E cE w.heap.size s.length s a W ((hs.more hB).below hW).rd rfl hs.l40 hW.size q)
  have RS := Lib.hid (fun W (hW : Below w.heap.size w W) => ((hs.more hB).below hW).rd)
  have hcap := hs.cap
  have HNO := Lib.hid (show E = none → s.length = 0 from fun e => by
    rcases Nat.eq_zero_or_pos s.length with h0 | h0
    · exact h0
    · obtain ⟨ad, h1, _⟩ := hs.rd.2 h0
      rw [e] at h1; cases h1)
  have LP := Lib.hid (show (putA s a).length ≤ 1099511627776 from by have := (putA_len (s := s) (a := a)).2; omega)
  have EP := Lib.hid (El.putA ha hs.el)
  have A1 := Lib.hid (fun h w' e he hb => outAdd_no (w := w) (w' := w') (e := e) (num := num) (l := l) (s := s) (a := a) (addE_1 h) (by decide) he hb)
  have A8 := Lib.hid (fun h hv w' e he hb => outAdd_no (w := w) (w' := w') (e := e) (num := num) (l := l) (s := s) (a := a) (addE_8 h hv) (by decide) he hb)
  have A6 := Lib.hid (fun h hv ho w' e he hb => outAdd_no (w := w) (w' := w') (e := e) (num := num) (l := l) (s := s) (a := a) (addE_6 h hv ho) (by decide) he hb)
  have A0 := Lib.hid (fun h hv ho v w' e B he hw hb => outAdd_yes (w := w) (w' := w') (e := e) (v := v) (num := num) (l := l) (s := s) (a := a) (addE_0 h hv ho) he B hw LP.out EP.out hb)
  have HOS := Lib.hid (fun (q : okS K num l s = true) => q)
  have HPU := Lib.hid (fun (q : okS K num l s = true) (q2 : okA K num l a = true) p f (hp : Place s a p f) => And.intro (hp.put q q2) (hp.has (okS_iff.1 q).2.2))
  clear LP EP
  obtain ⟨Q, hQ⟩ : ∃ Q, Q = OutAdd w (addS K num l s a) (addB K num l s a) (addE K num l s a) := ⟨_, rfl⟩
  rw [← hQ] at A1 A8 A6 A0 ⊢
  clear hQ
  obtain ⟨av, ar, ao, as'⟩ := a
  obtain ⟨n, hn⟩ : ∃ n, n = l.length := ⟨_, rfl⟩
  obtain ⟨m, hm'⟩ : ∃ m, m = s.length := ⟨_, rfl⟩
  have HM := Lib.hid hm'
  rw [← hn] at hb0 hz KV KA ⊢
  rw [← hm'] at KV KS RS hcap HNO hm ⊢
  dsimp only [alrV] at *
  have B0 := Lib.hid hb0
  have Z1 := Lib.hid hz.1
  have Z2 := Lib.hid hz.2
  clear hb0 hz hn hm' h hs
  go_enter Tryz.func13, Tryz.ntmps13
  go_upto_region 1 with fail
  generalize (w.alloc (.cells #[.int .i64 num, .slice A n c] 24)).alloc (.cells #[.int .i64 av, .int .i64 ar, .int .i64 ao, .int .i64 as'] 38) = w0 at *
  have FB := Lib.hid (fun W (hW : Below w0.heap.size w0 W) => And.intro (blk2 (Z1.out.below hW Z1.out.lt)) (blk4 (Z2.out.below hW Z2.out.lt)))
  have p0 := FB.out _ (Below.refl _ _)
  cases hv : okS K num l s
  · have HN := Lib.hid (A1.out (by rw [hv]; rfl))
    rw [hv] at KV
    clear A1 A8 A6 A0 hv
    go_wp2_with (go_at_call 16; (with_reducible refine (KV.out _ B0.out).mono ?_); rintro e w1 ⟨rfl, b1⟩)
    go_ret3
    exact HN.out _ _ rfl (B0.out.trans (b1.mono B0.out.size))
  have HOK := Lib.hid hv
  rw [hv] at KV A1 A8 A6 A0
  simp only [Bool.true_and] at A1 A8 A6 A0
  clear hv
  cases hi : inA ⟨av, ar, ao, as'⟩
  · have HN := Lib.hid (A1.out hi)
    rw [hi] at KR
    clear A1 A8 A6 A0 hi
    go_wp2_with (first
      | (go_at_call 16; (with_reducible refine (KV.out _ B0.out).mono ?_); rintro e w1 ⟨rfl, b1⟩; (have p1 := FB.out _ b1))
      | (go_at_call 24; (with_reducible refine (KR.out _).mono ?_); rintro e w2 ⟨rfl, b2⟩)
      | fail)
    go_ret3
    exact HN.out _ _ rfl (B0.out.trans ((W.bstep b1 b2).mono B0.out.size))
  have A8 := Lib.hid (A8.out hi)
  have A6 := Lib.hid (A6.out hi)
  have A0 := Lib.hid (A0.out hi)
  rw [hi] at KR
  clear A1 hi
  by_cases hvn : av = num
  case neg =>
    have HN := Lib.hid (A8.out hvn)
    have f4 : (av != num) = true := bneT hvn
    clear A8 A6 A0 hvn
    go_wp2_with (first
      | (go_at_call 16; (with_reducible refine (KV.out _ B0.out).mono ?_); rintro e w1 ⟨rfl, b1⟩; (have p1 := FB.out _ b1))
      | (go_at_call 24; (with_reducible refine (KR.out _).mono ?_); rintro e w2 ⟨rfl, b2⟩; (have b12 := W.bstep b1 b2); (have p2 := FB.out _ b12))
      | fail)
    go_ret3
    exact HN.out _ _ rfl (B0.out.trans (b12.mono B0.out.size))
  have f4 : (av != num) = false := bneF hvn
  cases hoa : okA K num l ⟨av, ar, ao, as'⟩
  · have HN := Lib.hid (A6.out hvn hoa)
    rw [hoa] at KA
    clear A8 A6 A0 hoa
    clear hvn
    go_wp2_with (first
      | (go_at_call 16; (with_reducible refine (KV.out _ B0.out).mono ?_); rintro e w1 ⟨rfl, b1⟩; (have p1 := FB.out _ b1))
      | (go_at_call 24; (with_reducible refine (KR.out _).mono ?_); rintro e w2 ⟨rfl, b2⟩; (have b12 := W.bstep b1 b2); (have p2 := FB.out _ b12))
      | (go_at_call 25; (with_reducible refine (KA.out _ (B0.out.trans (b12.mono B0.out.size))).mono ?_); rintro e w3 ⟨rfl, b3⟩)
      | fail)
    go_ret3
    exact HN.out _ _ rfl (B0.out.trans ((W.bstep b12 b3).mono B0.out.size))
  have HN := Lib.hid (A0.out hvn hoa)
  have KS := Lib.hid (KS.out (okS_iff.1 HOK.out).2.2)
  have HPU := Lib.hid (HPU.out HOK.out hoa)
  rw [hoa] at KA
  clear A8 A6 A0 hoa hvn HOS
  go_upto_region 8 with (first
      | (go_at_call 16; (with_reducible refine (KV.out _ B0.out).mono ?_); rintro e w1 ⟨rfl, b1⟩; (have p1 := FB.out _ b1))
      | (go_at_call 24; (with_reducible refine (KR.out _).mono ?_); rintro e w2 ⟨rfl, b2⟩; (have b12 := W.bstep b1 b2); (have p2 := FB.out _ b12))
      | (go_at_call 25; (with_reducible refine (KA.out _ (B0.out.trans (b12.mono B0.out.size))).mono ?_); rintro e w3 ⟨rfl, b3⟩; (have b13 := W.bstep b12 b3); (have p3 := FB.out _ b13))
      | (go_at_call 26; (with_reducible refine (KS.out _ (B0.out.trans (b13.mono B0.out.size))).mono ?_); rintro e w4 ⟨p, f, rfl, hpl, b4⟩; (have HPL := Lib.hid hpl); clear hpl)
      | fail)
  have B4 := Lib.hid (W.bstep b13 b4)
  have W4 := Lib.hid (B0.out.trans (B4.out.mono B0.out.size))
  have HPP := Lib.hid (HPU.out p f HPL.out)
  have hpm : p ≤ m := by have := HPL.out.le; have := HM.out; omega
  have HFP := Lib.hid (fun (q : f = true) => show p < m by
    obtain ⟨x, hx, _⟩ := HPL.out.hit q
    have := (List.getElem?_eq_some_iff.1 hx).1
    have := HM.out
    omega)
  clear p0 p1 p2 p3 b1 b2 b12 b3 b13 b4 KV KR KA KS HPU
  obtain ⟨A1, hs1, hr1⟩ := slice_fromA (k := p) (ki := (p : Int)) (RS.out w4 W4.out) HM.out.symm hcap hpm rfl
  have R1 := Lib.hid hr1
  have hs3 := slice_hmA (ki := (p : Int)) E hcap hpm rfl
  have R3 := Lib.hid (fun W (hW : Below w4.heap.size w4 W) => (readsA_take (RS.out W (below2 W4.out hW)) hpm HM.out.symm).more (below2 W4.out hW).size)
  have L3 := Lib.hid (show (s.take p).length = p by rw [List.length_take]; have := HM.out; omega)
  have N3 := Lib.hid (fun (e : E = none) => show p = 0 by have := HNO.out e; omega)
  have p4 := FB.out _ B4.out
  have hp0 : ¬ (p : Int) < 0 := by omega
  have hpm' : (p : Int) ≤ (m : Int) := by omega
  have hpc' : (p : Int) ≤ (cE : Int) := by omega
  clear hr1 RS HNO
  cases f
  · have HP := Lib.hid (show putA s ⟨av, ar, ao, as'⟩ = s.take p ++ [(⟨av, ar, ao, as'⟩ : Alr)] ++ s.drop p from HPP.out.1)
    have hh : hasA s as' ar = false := HPP.out.2
    have HN2 := HN.out
    rw [hh] at HN2
    have HN2 := Lib.hid HN2
    have LD := Lib.hid (show (s.drop p).length = m - p by rw [List.length_drop]; have := HM.out; omega)
    have RD := Lib.hid (fun W (hW : Below w4.heap.size w4 W) => R1.out.below (hW.mono W4.out.size))
    clear HPP HPL HN hh
    generalize hmp : m - p = mp at *
    generalize cE - p = cp at *
    have hmp1 : mp ≤ 1000000 := by omega
    clear hmp
    go_upto_region 11 with fail
    go_region_law (first
      | (refine step_append_fresh _ rfl (.tmp 45) (.tmp 47) rfl _ p _ E _ (s.take p) ⟨av, ar, ao, as'⟩ rfl (R3.out _ (by first | exact ((Below.refl _ _).drew).alloc (by simp) _ | exact ((Below.refl _ _).alloc (Nat.le_refl _) _).drew | exact (Below.refl _ _).alloc (Nat.le_refl _) _)) L3.out N3.out rfl _ (by first | exact reads_blk _ _ _ | exact (reads_blk w4 _ _).below (Below.refl _ _).drew) (by omega) ?_; intro v6 w6 ho6 hb6)
      | fail)
    all_goals
      have z6 : w4.heap.size ≤ w6.heap.size ∧ Below w4.heap.size w4 w6 ∧ w6.ownsRow w4.heap.size 38 4 v6 (s.take p ++ [(⟨av, ar, ao, as'⟩ : Alr)]).length (alrsC (s.take p ++ [(⟨av, ar, ao, as'⟩ : Alr)])) := by
        first
          | (have k1 := ((Below.refl w4.heap.size w4).alloc (Nat.le_refl _) (.cells #[.int .i64 av, .int .i64 ar, .int .i64 ao, .int .i64 as'] 38)).drew
             have k2 := k1.trans (hb6.mono k1.size)
             exact ⟨k2.size, k2, own_base ho6 k1.size⟩)
          | (have k1 := ((Below.refl w4.heap.size w4).drew).alloc (by simp) (.cells #[.int .i64 av, .int .i64 ar, .int .i64 ao, .int .i64 as'] 38)
             have k2 := k1.trans (hb6.mono k1.size)
             exact ⟨k2.size, k2, own_base ho6 k1.size⟩)
      have Z6 := Lib.hid z6
      clear z6 ho6 hb6
      go_wp2_with (first
        | (at_builtin; refine wp_append_alrs _ rfl (.tmp 49) (.tmp 50) rfl w4.heap.size _ (s.take p ++ [(⟨av, ar, ao, as'⟩ : Alr)]) (s.drop p) _ mp cp A1 rfl Z6.out.2.2 rfl (RD.out _ Z6.out.2.1) LD.out (by have := L3.out; simp; omega) Z6.out.1 ?_; intro v7 w7 ho7 hb7 hg7)
        | fail)
      go_ret3
      exact HN2.out _ _ _ w4.heap.size rfl (by rw [HP.out]; exact ho7) (W4.out.trans ((Z6.out.2.1.trans hb7).mono W4.out.size))
  · have hpm2 := HFP.out rfl
    have HP := Lib.hid (show putA s ⟨av, ar, ao, as'⟩ = s.take p ++ [(⟨av, ar, ao, as'⟩ : Alr)] ++ s.drop (p + 1) from HPP.out.1)
    have hh : hasA s as' ar = true := HPP.out.2
    have HN2 := HN.out
    rw [hh] at HN2
    have HN2 := Lib.hid HN2
    obtain ⟨A2, hs2, hr2⟩ := slice_fromA (n := m - p) (c := cE - p) (k := 1) (ki := 1) R1.out (by rw [List.length_drop]; have := HM.out; omega) (by omega) (by omega) rfl
    have R2 := Lib.hid hr2
    have LD := Lib.hid (show (s.drop (p + 1)).length = m - p - 1 by rw [List.length_drop]; have := HM.out; omega)
    have RD := Lib.hid (fun W (hW : Below w4.heap.size w4 W) => show Reads W w.heap.size 4 A2 (m - p - 1) (alrsC (s.drop (p + 1))) by
      have := R2.out.below (hW.mono W4.out.size)
      rw [List.drop_drop] at this
      exact this)
    clear HPP HPL HN hh hr2 R2 hpm2
    generalize hmq : m - p - 1 = mq at *
    generalize hcq : cE - p - 1 = cq at *
    have hmq1 : mq ≤ 1000000 := by omega
    clear hmq hcq
    generalize m - p = mp at *
    generalize cE - p = cp at *
    go_upto_region 11 with fail
    go_region_law (first
      | (refine step_append_fresh _ rfl (.tmp 45) (.tmp 47) rfl _ p _ E _ (s.take p) ⟨av, ar, ao, as'⟩ rfl (R3.out _ (by first | exact ((Below.refl _ _).drew).alloc (by simp) _ | exact ((Below.refl _ _).alloc (Nat.le_refl _) _).drew | exact (Below.refl _ _).alloc (Nat.le_refl _) _)) L3.out N3.out rfl _ (by first | exact reads_blk _ _ _ | exact (reads_blk w4 _ _).below (Below.refl _ _).drew) (by omega) ?_; intro v6 w6 ho6 hb6)
      | fail)
    all_goals
      have z6 : w4.heap.size ≤ w6.heap.size ∧ Below w4.heap.size w4 w6 ∧ w6.ownsRow w4.heap.size 38 4 v6 (s.take p ++ [(⟨av, ar, ao, as'⟩ : Alr)]).length (alrsC (s.take p ++ [(⟨av, ar, ao, as'⟩ : Alr)])) := by
        first
          | (have k1 := ((Below.refl w4.heap.size w4).alloc (Nat.le_refl _) (.cells #[.int .i64 av, .int .i64 ar, .int .i64 ao, .int .i64 as'] 38)).drew
             have k2 := k1.trans (hb6.mono k1.size)
             exact ⟨k2.size, k2, own_base ho6 k1.size⟩)
          | (have k1 := ((Below.refl w4.heap.size w4).drew).alloc (by simp) (.cells #[.int .i64 av, .int .i64 ar, .int .i64 ao, .int .i64 as'] 38)
             have k2 := k1.trans (hb6.mono k1.size)
             exact ⟨k2.size, k2, own_base ho6 k1.size⟩)
      have Z6 := Lib.hid z6
      clear z6 ho6 hb6
      go_wp2_with (first
        | (at_builtin; refine wp_append_alrs _ rfl (.tmp 49) (.tmp 50) rfl w4.heap.size _ (s.take p ++ [(⟨av, ar, ao, as'⟩ : Alr)]) (s.drop (p + 1)) _ mq cq A2 rfl Z6.out.2.2 rfl (RD.out _ Z6.out.2.1) LD.out (by have := L3.out; simp; omega) Z6.out.1 ?_; intro v7 w7 ho7 hb7 hg7)
        | fail)
      go_ret3
      exact HN2.out _ _ _ w4.heap.size rfl (by rw [HP.out]; exact ho7) (W4.out.trans ((Z6.out.2.1.trans hb7).mono W4.out.size))
end Go.Proofs.YtojhdljbpmjigaaGreatDoor.Al
