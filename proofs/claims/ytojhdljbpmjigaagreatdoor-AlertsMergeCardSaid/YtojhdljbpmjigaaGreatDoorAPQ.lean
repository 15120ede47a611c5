/- Package alerts: Decode. -/
import Derived.Test.YtojhdljbpmjigaaGreatDoorAPD
import Derived.Test.YtojhdljbpmjigaaGreatDoorAPL
namespace Go.Proofs.YtojhdljbpmjigaaGreatDoor.Al
set_option linter.unusedVariables false
set_option linter.unusedSimpArgs false
open Go.RowKit
open Go.Proofs.YtojhdljbpmjigaaGreatDoor.W
open Go.Proofs.YtojhdljbpmjigaaGreatDoor.V
open Go.Proofs.YtojhdljbpmjigaaGreatDoor.O
open Go.Proofs.YtojhdljbpmjigaaGreatDoor.Pb (Alr alrC alrsC len_alrsC alrsC_app alrsC_one alrsC_get alrsC_cell alrInfo step_append_alr reads_blk two_blk)
open Go.Lib (byteCells byteCells_length byteCells_append)

theorem alr_zeroD {w : World} {B n : Nat} {ad : Addr} {es : List Alr} {x : Alr} (h : Reads w B 4 (some ad) n (alrsC es)) (hx : es[0]? = some x) :
    w.cell? ad = some (.int .i64 x.view) ∧ w.cell? ⟨ad.block, ad.off + 1, none⟩ = some (.int .i64 x.ring) ∧ w.cell? ⟨ad.block, ad.off + 2, none⟩ = some (.int .i64 x.obs) ∧ w.cell? ⟨ad.block, ad.off + 3, none⟩ = some (.int .i64 x.subj) := by
  have := alr_at2 (k := 0) h hx
  have e : ad.add (0 * 4) = ad := by unfold Addr.add; rfl
  rw [e] at this
  exact this
/-- A new list of alerts comes back. -/
theorem OwnS.outF {w w' : World} {s : List Alr} {e : Ending} (h : OwnS w s e w') (n : Nat) (hn : n = s.length) (hl : n ≤ 1099511627776) (hel : ∀ x ∈ s, El x) : ∃ A c, e = .returned (.slice A n c) ∧ AS w' w'.heap.size s A c ∧ (∀ ad : Addr, A = some ad → w.heap.size ≤ ad.block) ∧ Below w.heap.size w w' := by
  subst hn
  obtain ⟨v, rfl, ho, hb⟩ := h
  obtain ⟨A, c, rfl, h⟩ := AS.of_own ho hl hel
  exact ⟨A, c, rfl, h, fun ad e => (ho.lt ad.block (by rw [e]; rfl)).1, hb⟩
theorem AS.kept {W w' : World} {v v' : Value} {s : List Alr} {A : Option Addr} {c : Nat} (h : AS W W.heap.size s A c) (hk : Kept W w' v v') (hs : W.heap.size ≤ w'.heap.size) (hne : ∀ ad : Addr, A = some ad → v.ownBlock ≠ some ad.block) : AS w' w'.heap.size s A c where
  rd := by
    refine ⟨h.rd.1, fun h0 => ?_⟩
    obtain ⟨ad, hA, hb, hc⟩ := h.rd.2 h0
    refine ⟨ad, hA, by omega, fun j u hu => ?_⟩
    rw [World.cell?_of_block (hk.k0 (ad.add j).block (by rw [block_of_add]; exact hb) (by rw [block_of_add]; exact hne ad hA))]
    exact hc j u hu
  l40 := h.l40
  el := h.el
  cap := h.cap
set_option maxRecDepth 1000000 in
set_option maxHeartbeats 8000000 in
theorem alDecode_any (num : Int) (l : List Int) (A F : Option Addr) (c cF B : Nat) (bs : List UInt8) (w : World) (h : VW w B num l A c) (hr : Reads w B 1 F bs.length (byteCells bs)) (hcap : bs.length ≤ cF) (hB : B ≤ w.heap.size) (hn : bs.length ≤ 1099511627776) (ht : H.Tab w) :
    Calls Tryz.prog 14 #[.agg #[.int .i64 num, .slice A l.length c], .slice F bs.length cF] w (OutDec w (rdSet K num l bs)) := by
  have hb0 := (Below.refl w.heap.size w).alloc (Nat.le_refl _) (.cells #[.int .i64 num, .slice A l.length c] 24)
  have hz := Blk.new w 24 #[.int .i64 num, .slice A l.length c]
  have KV := Lib.hid (fun W (hW : Below w.heap.size w W) => viewValid_any num l A c w.heap.size W ((h.more hB).below hW) hW.size)
  have KN := Lib.hid (fun (x : Nat) W (hW : Below w.heap.size w W) => alAboutN_any num l A c w.heap.size x W ((h.more hB).below hW) hW.size (ht.on hW))
  have RB := Lib.hid (fun W (hW : Below w.heap.size w W) => (hr.more hB).below hW)
  have n64 := h.num64
  have HR := Lib.hid (show rdSet K num l bs = (if !(validV num l) then ([], 0, 1) else if (rdU bs).2.2 ≠ 0 then ([], 0, (rdU bs).2.2) else if 5000 < (rdU bs).1 then ([], 0, 5) else rdItems K num l (rdU bs).1 [] (rdU bs).2.1 (bs.drop (rdU bs).2.1)) from rfl)
  obtain ⟨R, hR⟩ : ∃ R, R = rdSet K num l bs := ⟨_, rfl⟩
  rw [← hR] at HR ⊢
  clear hR
  have ND := Lib.hid (fun k w' e hR he hb => outDec_no (w := w) (w' := w') (R := R) (k := k) (e := e) hR he hb)
  have YD := Lib.hid (fun O n X cX w' e hR he ho hb => outDec_yes (w := w) (w' := w') (R := R) (O := O) (n := n) (X := X) (cX := cX) (e := e) hR he ho hb)
  obtain ⟨Q, hQ⟩ : ∃ Q, Q = OutDec w R := ⟨_, rfl⟩
  rw [← hQ] at ND YD ⊢
  clear hQ
  obtain ⟨nl, hnl⟩ : ∃ n, n = l.length := ⟨_, rfl⟩
  rw [← hnl] at hb0 hz KN ⊢
  dsimp only [vwV] at KV
  rw [← hnl] at KV
  obtain ⟨⟨u, n0, e0⟩, hu⟩ : ∃ r, rdU bs = r := ⟨_, rfl⟩
  have KU := Lib.hid (fun W (hW : Below w.heap.size w W) => by
    have := uint_any F cF w.heap.size bs W (RB.out W hW) hn
    rw [hu] at this
    exact this)
  rw [hu] at HR
  obtain ⟨nb, hnb⟩ : ∃ n, n = bs.length := ⟨_, rfl⟩
  have HNB := Lib.hid hnb
  rw [← hnb] at KU RB hcap hn ⊢
  have B0 := Lib.hid hb0
  have Z1 := Lib.hid hz
  clear hb0 hz hnl h hr ht
  go_enter Tryz.func14, Tryz.ntmps14
  go_upto_region 1 with fail
  generalize w.alloc (.cells #[.int .i64 num, .slice A nl c] 24) = w0 at *
  have FB := Lib.hid (fun W (hW : Below w0.heap.size w0 W) => (blk2 (Z1.out.below hW Z1.out.lt)))
  have p0 := FB.out _ (Below.refl _ _)
  cases hv : validV num l
  · have HR1 := Lib.hid (show R = ([], 0, 1) by rw [HR.out, hv]; rfl)
    rw [hv] at KV
    clear HR hv hu hnb
    go_wp2_with (go_at_call 28; (with_reducible refine (KV.out _ B0.out).mono ?_); rintro e w1 ⟨rfl, b1⟩)
    go_ret3
    exact ND.out _ _ _ HR1.out rfl (B0.out.trans (b1.mono B0.out.size))
  rw [hv] at KV
  by_cases he0 : e0 = 0
  case neg =>
    have HR1 := Lib.hid (show R = ([], 0, e0) by rw [HR.out, hv]; simp [he0])
    have hb : ((e0 : Int) != 0) = true := bneT (by omega)
    clear HR hv hu hnb he0
    go_wp2_with (first
      | (go_at_call 28; (with_reducible refine (KV.out _ B0.out).mono ?_); rintro e w1 ⟨rfl, b1⟩; (have W1 := B0.out.trans (b1.mono B0.out.size)))
      | (go_at_call 29; (with_reducible refine (KU.out _ W1).mono ?_); rintro e w2 ⟨rfl, rfl⟩)
      | fail)
    go_ret3
    exact ND.out _ _ _ HR1.out rfl W1
  subst he0
  by_cases h5 : 5000 < u
  · have HR1 := Lib.hid (show R = ([], 0, 5) by rw [HR.out, hv]; simp [h5])
    have h5i : (5000 : Int) < (u : Int) := by omega
    clear HR hv hu hnb h5
    go_wp2_with (first
      | (go_at_call 28; (with_reducible refine (KV.out _ B0.out).mono ?_); rintro e w1 ⟨rfl, b1⟩; (have W1 := B0.out.trans (b1.mono B0.out.size)))
      | (go_at_call 29; (with_reducible refine (KU.out _ W1).mono ?_); rintro e w2 ⟨rfl, rfl⟩)
      | fail)
    go_ret3
    exact ND.out _ _ _ HR1.out rfl W1
  have h5i : ¬ (5000 : Int) < (u : Int) := by omega
  have HR1 := Lib.hid (show R = rdItems K num l u [] n0 (bs.drop n0) by rw [HR.out, hv]; simp [h5])
  obtain ⟨hv1, hn1, hn2, hnl0⟩ := rdU_used hu
  rw [← hnb] at hnl0
  have HV := Lib.hid hv
  clear HR hv hu hnb
  go_wp2_with (first
      | (go_at_call 28; (with_reducible refine (KV.out _ B0.out).mono ?_); rintro e w1 ⟨rfl, b1⟩; (have W1 := B0.out.trans (b1.mono B0.out.size)))
      | (go_at_call 29; (with_reducible refine (KU.out _ W1).mono ?_); rintro e w2 ⟨rfl, rfl⟩)
      | fail)
  have V1 := Lib.hid b1
  clear p0 b1 W1 KV KU
  go_loopg [4, 5, 8, 9, 10, 11, 12, 28] u (fun gk s4 s5 s8 _ _ _ _ s28 wr => ∃ (k at_ np c8 : Nat) (O P : List Alr) (X8 : Option Addr), k + gk = u ∧ s28 = .int .u64 k ∧ s5 = .int .i64 at_ ∧ at_ ≤ nb ∧ O.length = k ∧ s8 = .slice X8 np c8 ∧ Hid (np = P.length) ∧ Hid (AS wr wr.heap.size P X8 c8) ∧ Hid (P = [] ∨ ∃ sp : Nat, sp ≤ 1000 ∧ P = aboL K num l (sp : Int)) ∧ Hid (R = rdItems K num l gk O at_ (bs.drop at_)) ∧ Hid (wr.ownsRow w0.heap.size 38 4 s4 O.length (alrsC O)) ∧ Hid (∀ x ∈ O, El x) ∧ Hid (Below w0.heap.size w0 wr) ∧ Hid (∀ (ad : Addr), X8 = some ad → s4.ownBlock ≠ some ad.block))
  case atStart => exact ⟨0, n0, 0, 0, [], [], none, by omega, rfl, rfl, hnl0, rfl, rfl, rfl, AS.nil, .inl rfl, HR1.out, World.ownsRow_nil _ _ _ _, (fun x hx => by cases hx), V1.out, (fun ad h => by cases h)⟩
  case round =>
    obtain ⟨k, at_, np, c8, O, P, X8, hkg, rfl, rfl, hat, hOk, rfl, HNP, HAS, HPS, HRR, HO, HE, HW, HAP⟩ := hrel
    have HOK := Lib.hid hOk
    have hO40 : O.length ≤ 1099511627776 := by omega
    clear hOk
    have hws := HW.out.size
    have BW := Lib.hid (B0.out.trans (HW.out.mono B0.out.size))
    cases gk with
    | zero =>
      have hkz : ¬ ((k : Int) < (u : Int)) := by omega
      obtain ⟨X, cX, rfl, has⟩ := AS.of_own HO.out hO40 HE.out
      have HAX := Lib.hid has
      have HRE := Lib.hid (show R = (O, at_, 0) from HRR.out)
      clear has
      go_wp2_with fail
      go_ret3
      exact YD.out _ _ _ _ _ _ HRE.out rfl HAX.out BW.out
    | succ gk =>
      have hkz : (k : Int) < (u : Int) := by omega
      have p1 := FB.out _ HW.out
      obtain ⟨A1, hs1, hrr1⟩ := slice_from (k := at_) (ki := (at_ : Int)) (RB.out wr BW.out) hcap hat rfl
      obtain ⟨⟨x, y, m, e1⟩, hq⟩ : ∃ r, rdP (bs.drop at_) = r := ⟨_, rfl⟩
      have hdl : (bs.drop at_).length = nb - at_ := by rw [List.length_drop, HNB.out]
      have K1 := Lib.hid (alPair_any A1 (cF - at_) w.heap.size (nb - at_) (bs.drop at_) wr hrr1 hdl.symm (by omega) (by omega) x y m e1 hq)
      have HQ := Lib.hid hq
      clear hrr1 hdl hq
      by_cases he1 : e1 = 0
      case neg =>
        have HR2 := Lib.hid (show R = ([], 0, e1) by rw [HRR.out]; exact items_err HQ.out he1)
        have hb : ((e1 : Int) != 0) = true := bneT (by omega)
        clear he1 HRR
        go_wp2_with (first
          | (go_at_call 30; (with_reducible refine K1.out.mono ?_); rintro e w3 ⟨rfl, rfl⟩)
          | fail)
        go_ret3
        exact ND.out _ _ _ HR2.out rfl BW.out
      subst he1
      obtain ⟨n1, n2, hx, hy, hm⟩ := rdP_ok HQ.out
      rw [List.drop_drop] at hy
      obtain ⟨hx1, hx2, hx3, hx4⟩ := rdU_used hx
      obtain ⟨hy1, hy2, hy3, hy4⟩ := rdU_used hy
      rw [List.length_drop, ← HNB.out] at hx4 hy4
      have hat3 : at_ + m ≤ nb := by omega
      have wn : IntKind.i64.wrap ((at_ : Int) + (m : Int)) = (at_ : Int) + (m : Int) := IntWalk.i64_in _ (by omega)
      have HIN := Lib.hid (fun (q : (abN num l x)[y]? = none) => show R = ([], 0, 3) by rw [HRR.out]; exact items_none HV.out hx hy q)
      have HIS := Lib.hid (fun (a : Alr) (q : (abN num l x)[y]? = some a) => show R = if folA O a then rdItems K num l gk (O ++ [a]) (at_ + m) (bs.drop (at_ + m)) else ([], 0, 3) by
        rw [HRR.out, items_some HV.out hx hy q, show at_ + n1 + n2 = at_ + m by omega])
      have HPX := Lib.hid (fun (a : Alr) (q : P[0]? = some a) (q2 : a.subj = (x : Int)) => show P = abN num l x by
        rcases HPS.out with h0 | ⟨sp, h0, h1⟩
        · rw [h0] at q; cases q
        · have h2 := abo_subj (x := a) (subj := (sp : Int)) (num := num) (l := l) (by rw [← h1]; exact List.mem_of_getElem? q)
          have h3 : sp = x := by rw [q2] at h2; omega
          rw [h1, ← h3]
          unfold abN
          rw [if_neg (by omega)])
      have HPZ := Lib.hid (fun (a : Alr) (q : P[0]? = some a) => show ∃ sp : Nat, sp ≤ 1000 ∧ a.subj = (sp : Int) by
        rcases HPS.out with h0 | ⟨sp, h0, h1⟩
        · rw [h0] at q; cases q
        · exact ⟨sp, h0, abo_subj (x := a) (subj := (sp : Int)) (num := num) (l := l) (by rw [← h1]; exact List.mem_of_getElem? q)⟩)
      have KX := Lib.hid (fun W (hW : Below wr.heap.size wr W) => KN.out x W (below2 BW.out hW))
      clear hx hy HRR HQ hx2 hx3 hx4 hy2 hy3 hy4 hm
      go_upto_region 14 with (first
        | (go_at_call 30; (with_reducible refine K1.out.mono ?_); rintro e w3 ⟨rfl, rfl⟩)
        | fail)
      clear K1 hs1
      go_cut [53] from 42 to 52 (fun s53 wx => ∃ (f : Bool), s53 = .bool f ∧ wx = wr ∧ Hid (f = false → P = abN num l x))
      case first =>
        rcases Nat.eq_zero_or_pos np with h0 | h0
        · have hz0 : ((np : Int) == 0) = true := beqT (by omega)
          clear h0
          go_wp2_with fail
          go_meet
          exact ⟨true, rfl, rfl, fun h => absurd h (by decide)⟩
        · have hz0 : ((np : Int) == 0) = false := beqF (by omega)
          obtain ⟨a, ha⟩ : ∃ a, P[0]? = some a := ⟨_, List.getElem?_eq_getElem (by have := HNP.out; omega)⟩
          have hrp := HAS.out.rd
          rw [← HNP.out] at hrp
          obtain ⟨bd, rfl, _⟩ := hrp.2 h0
          obtain ⟨f0, f1, f2, f3⟩ := alr_zeroD hrp ha
          obtain ⟨sp, hsp, hsj⟩ := HPZ.out a ha
          rw [hsj] at f3
          have ws : IntKind.u64.wrap (sp : Int) = (sp : Int) := by rw [IntKind.wrap_u64]; omega
          have HPQ := Lib.hid (fun (q : sp = x) => HPX.out a ha (by rw [hsj, q]))
          have h0' : 0 < np := h0
          clear ha hrp hsj
          by_cases hsx : sp = x
          · have HP2 := Lib.hid (HPQ.out hsx)
            have e1 : ((sp : Int) != (x : Int)) = false := bneF (by omega)
            clear hsx
            go_wp2_with fail
            go_meet
            exact ⟨false, rfl, rfl, fun _ => HP2.out⟩
          · have e1 : ((sp : Int) != (x : Int)) = true := bneT (by omega)
            clear hsx
            go_wp2_with fail
            go_meet
            exact ⟨true, rfl, rfl, fun h => absurd h (by decide)⟩
      case rest =>
      obtain ⟨f, rfl, hwc, HF⟩ := hcut
      subst hwc
      obtain ⟨w3, rfl⟩ : ∃ z : World, z = wc := ⟨_, rfl⟩
      obtain ⟨np6, hnp6⟩ : ∃ q, q = (abN num l x).length := ⟨_, rfl⟩
      have HN6 := Lib.hid hnp6
      have hn65 : np6 ≤ 5 := by rw [hnp6]; exact abN_len
      have KX := Lib.hid (fun W (hW : Below w3.heap.size w3 W) => (KX.out W hW).mono fun _ _ q => q.outF np6 hnp6 (by omega) (abN_el n64))
      clear hnp6
      go_upto_if 53 with fail
      go_cut [8] from 54 to 56 (fun s8 wx => ∃ (A6 : Option Addr) (c6 : Nat), s8 = .slice A6 np6 c6 ∧ Hid (AS wx wx.heap.size (abN num l x) A6 c6) ∧ Hid (∀ (ad : Addr), A6 = some ad → u4.ownBlock ≠ some ad.block) ∧ Hid (Below w3.heap.size w3 wx))
      case first =>
        cases f
        · have HP2 := Lib.hid (HF.out rfl)
          have hnn : np6 = np := by rw [HN6.out, HNP.out, HP2.out]
          go_wp2_with fail
          go_meet
          exact ⟨X8, c8, by rw [hnn], by rw [← HP2.out]; exact HAS.out, HAP.out, Below.refl _ _⟩
        · go_wp2_with (go_at_call 31; (with_reducible refine (KX.out _ (Below.refl _ _)).mono ?_); rintro e w6 ⟨A6, c6, rfl, as6, fr6, b6⟩)
          go_meet
          exact ⟨A6, c6, rfl, as6, (fun ad e h => by have := fr6 ad e; have := (HO.out.lt _ h).2; omega), b6⟩
      case rest =>
      obtain ⟨A6, c6, rfl, HA6, HAP6, HB6⟩ := hcut
      obtain ⟨w6, rfl⟩ : ∃ z : World, z = wc := ⟨_, rfl⟩
      have V6 := Lib.hid (below2 HW.out HB6.out)
      have W6 := Lib.hid (below2 BW.out HB6.out)
      have ho6 := own_below HO.out HB6.out
      obtain ⟨X4, c4, hv4, hc4, hr4⟩ := own_openS ho6
      subst hv4
      have R4 := Lib.hid hr4
      have HO6 := Lib.hid ho6
      have HPS6 := Lib.hid (show abN num l x = [] ∨ ∃ sp : Nat, sp ≤ 1000 ∧ abN num l x = aboL K num l (sp : Int) by
        unfold abN
        split
        · exact .inl rfl
        · exact .inr ⟨x, by omega, rfl⟩)
      have HEL := Lib.hid (abN_el (num := num) (l := l) (x := x) n64)
      obtain ⟨no, hno⟩ : ∃ q, q = O.length := ⟨_, rfl⟩
      have HNO := Lib.hid hno
      have hs6 : w0.heap.size ≤ w6.heap.size := V6.out.size
      clear hr4 ho6 hc4 KX KN HF HPX HPZ HAS HNP p1
      have w64 : IntKind.u64.wrap (np6 : Int) = (np6 : Int) := by rw [IntKind.wrap_u64]; omega
      generalize abN num l x = P6 at *
      rcases Nat.lt_or_ge y np6 with hlt | hge
      case inr =>
        have HR2 := Lib.hid (HIN.out (List.getElem?_eq_none (by have := HN6.out; omega)))
        have hgi : decide ((np6 : Int) ≤ (y : Int)) = true := by simp; omega
        clear HIN HIS
        go_wp2_with fail
        all_goals try (exfalso; omega)
        go_ret3
        exact ND.out _ _ _ HR2.out rfl W6.out
      have hgi : decide ((np6 : Int) ≤ (y : Int)) = false := by simp; omega
      have hy0 : ¬ (y : Int) < 0 := by omega
      have hyn : (y : Int) < (np6 : Int) := by omega
      obtain ⟨a, ha⟩ : ∃ a, P6[y]? = some a := ⟨_, List.getElem?_eq_getElem (by have := HN6.out; omega)⟩
      have HSS := Lib.hid (HIS.out a ha)
      have EA := Lib.hid (HEL.out a (List.mem_of_getElem? ha))
      have hrp := HA6.out.rd
      rw [← HN6.out] at hrp
      obtain ⟨ad, rfl, hadb, hbk, f0, f1, f2, f3⟩ := alr_at hrp ha
      have RP := Lib.hid (fun W (hW : Below w6.heap.size w6 W) => alr_at2 (hrp.below hW) ha)
      have KF := Lib.hid (alFollows_any X4 c4 w6.heap.size no O a w6 (by rw [hno]; exact R4.out) hno (by omega) (Nat.le_refl _))
      rw [← hno] at HO6 ⊢
      clear ha hrp hbk HIN HIS HEL R4 hno
      dsimp only [alrV] at KF
      cases hfo : folA O a
      · have HR2 := Lib.hid (show R = ([], 0, 3) by rw [HSS.out, hfo]; rfl)
        rw [hfo] at KF
        clear hfo HSS
        go_wp2_with (go_at_call 32; (with_reducible refine KF.out.mono ?_); rintro e w7 ⟨rfl, b7⟩)
        go_ret3
        exact ND.out _ _ _ HR2.out rfl (below2 W6.out b7)
      · have HR2 := Lib.hid (show R = rdItems K num l gk (O ++ [a]) (at_ + m) (bs.drop (at_ + m)) by rw [HSS.out, hfo]; rfl)
        rw [hfo] at KF
        clear hfo HSS
        go_wp2_with (first
          | (go_at_call 32; (with_reducible refine KF.out.mono ?_); rintro e w7 ⟨rfl, b7⟩; (obtain ⟨g0, g1, g2, g3⟩ := RP.out _ b7); (have HO7 := own_below HO6.out b7); (have V7 := below2 V6.out b7))
          | (at_builtin; go_loud (refine wp_append_un1 _ rfl (.tmp 71) (.tmp 76) rfl w0.heap.size _ O a _ _ _ rfl (.inl (by rw [← HNO.out]; exact (World.ownsRow.alloc HO7 _))) rfl (reads_blk _ _ _) (by have := HOK.out; omega) (by have := V7.size; simp; omega) ?_; intro v8 w8 ho8 hb8 hk8))
          | fail)
        all_goals try (exfalso; omega)
        have hk8 : Kept _ w8 (.slice X4 no c4) v8 := hk8
        have HAPn := Lib.hid (show ∀ (bd : Addr), some ad = some bd → (Value.slice X4 no c4).ownBlock ≠ some bd.block from fun bd e q => HAP6.out bd e (by rw [← HNO.out]; exact q))
        have V8 := Lib.hid ((V7.alloc V7.size _).trans hb8)
        have A8 := Lib.hid (show AS w8 w8.heap.size P6 (some ad) c6 from ((HA6.out.step b7).step ((Below.refl w7.heap.size w7).alloc (Nat.le_refl _) _)).kept hk8 hk8.sz HAPn.out)
        have hno8 : UN w8 w0.heap.size v8 (O ++ [a]) := ho8
        have HOW8 := Lib.hid (show w8.ownsRow w0.heap.size 38 4 v8 (O ++ [a]).length (alrsC (O ++ [a])) from hno8.resolve_right fun q => by simp at q)
        have HAP8 := Lib.hid (fun (bd : Addr) (e : some ad = some bd) (q : v8.ownBlock = some bd.block) => by
          rcases hk8.k2 _ q with h1 | h1
          · exact HAPn.out bd e h1
          · cases e
            have := b7.size
            simp at h1
            omega)
        clear ho8 hb8
        go_roundg gk
        case measure => omega
        case rel =>
          refine ⟨k + 1, at_ + m, np6, c6, O ++ [a], P6, some ad, by omega, by go_num, ?_, hat3, ?_, rfl, HN6.out, A8.out, HPS6.out, HR2.out, HOW8.out, el_snoc HE.out EA.out, V8.out, HAP8.out⟩
          · first | rfl | go_num | simp
          · have := HOK.out; simp; omega
end Go.Proofs.YtojhdljbpmjigaaGreatDoor.Al
