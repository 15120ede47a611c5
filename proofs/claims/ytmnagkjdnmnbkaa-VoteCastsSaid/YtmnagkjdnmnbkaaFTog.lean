/- Layer 8: the walk of VoteTogether. -/
import Derived.Test.YtmnagkjdnmnbkaaFTog0
namespace Go.Proofs.Ytmnagkjdnmnbkaa.Fv
set_option linter.unusedVariables false
set_option linter.unusedSimpArgs false
open Go.RowKit
open Go.Proofs.Ytmnagkjdnmnbkaa.W
open Go.Proofs.Ytmnagkjdnmnbkaa.V

theorem mod_idx8 (s n : Nat) (hn : 0 < n) : ∃ a : Nat, a < n ∧ a = s % n ∧ (s : Int).tmod (n : Int) = (a : Int) :=
  ⟨s % n, Nat.mod_lt _ hn, rfl, by rw [IntWalk.rem_in _ _ (by omega), Int.natCast_emod]⟩
theorem slc_at {W : World} {B n k : Nat} {A : Option Addr} {cs : List Plc} {p : Plc} (h : Reads W B 1 A n (cs.map slcV)) (hp : cs[k]? = some p) (hk : k < n) : ∃ ad, A = some ad ∧ ad.block < B ∧ W.cell? (ad.add k) = some (.slice p.ptr p.lst.length p.cap) := by
  obtain ⟨ad, u, hA, hb, hu, hc⟩ := h.at_ hk
  have hux : u = slcV p := by simp [hp] at hu; exact hu.symm
  rw [hux] at hc
  exact ⟨ad, hA, hb, hc⟩
set_option maxRecDepth 1000000 in
set_option maxHeartbeats 16000000 in
theorem lawTog_of (C : VoteC) (num : Int) (l : List Int) (A : Option Addr) (c wh : Nat) (w : World) (h : VL w w.heap.size num l A c) (hwh : wh < 256) :
    Calls Try.prog 6 #[.agg #[.int .i64 num, .slice A l.length c], .int .u8 (wh : Int)] w (PB w true) := by
  have hb0 := (Below.refl w.heap.size w).alloc (Nat.le_refl _) (.cells #[.int .i64 num, .slice A l.length c] 24)
  have hz := Blk.new w 24 #[.int .i64 num, .slice A l.length c]
  have AW := Lib.hid (fun W => awake_of C W)
  have KT := Lib.hid (fun W (hW : Below w.heap.size w W) => cuts8_any num l A c w.heap.size W (h.below hW) hW.size)
  have KV := Lib.hid (fun W (hW : Below w.heap.size w W) => refValid_all num l A c w.heap.size W h.num64 (h.below hW).rd h.el h.cap hW.size)
  have RD := Lib.hid (fun W (hW : Below w.heap.size w W) => (h.below hW).rd)
  have EL := Lib.hid h.el
  have VV := Lib.hid (fun (hl : l.length ≤ 16) W (hW : Below w.heap.size w W) => show VW W W.heap.size num l A c from ⟨h.num64, (h.rd.below hW).more hW.size, by omega, h.el, h.cap⟩)
  obtain ⟨n, hn⟩ : ∃ n, n = l.length := ⟨_, rfl⟩
  have HN := Lib.hid hn
  rw [← hn] at hb0 hz KT KV RD ⊢
  have B0 := Lib.hid hb0
  have Z1 := Lib.hid hz
  clear hb0 hz hn h
  go_enter Try.func6, Try.ntmps6
  go_upto_region 1 with fail
  generalize w.alloc (.cells #[.int .i64 num, .slice A n c] 24) = w0 at *
  have FB := Lib.hid (fun W (hW : Below w0.heap.size w0 W) => (blk2 (Z1.out.below hW Z1.out.lt)))
  go_upto_region 4 with (first
    | (go_at_call 7; (with_reducible refine (AW.out _).mono ?_); rintro e w1 ⟨rfl, q1⟩; (have c1 := below2 B0.out q1); (have p1 := FB.out _ q1))
    | (go_at_call 22; (with_reducible refine (KT.out _ c1).mono ?_); rintro e w2 ⟨A2, c2, n2, cs, rfl, hn2, hcs, q2⟩; (have HN2 := Lib.hid hn2); (have HCS := Lib.hid hcs); clear hn2 hcs; (have u2 := below2 c1 q2); (have v2 := below2 q1 q2); (have p2 := FB.out _ v2))
    | fail)
  have V2 := Lib.hid v2
  have W2 := Lib.hid u2
  have hn23 : n2 ≤ 3 := by rw [HN2.out]; exact HCS.out.len
  clear p1 q1 c1 q2 u2 v2 AW KT
  cases hv : validV num l
  · rw [hv] at KV
    clear hv
    go_wp2_with (first
      | (go_at_call 23; (with_reducible refine (KV.out _ W2.out).mono ?_); rintro e w3 ⟨rfl, q3⟩)
      | fail)
    go_ret
    exact ⟨rfl, below2 W2.out q3⟩
  rw [hv] at KV
  have HV := Lib.hid hv
  rcases Nat.eq_zero_or_pos n2 with h0 | h0
  · have e0 : ((n2 : Int) == 0) = true := beqT (by omega)
    clear hv h0
    go_wp2_with (first
      | (go_at_call 23; (with_reducible refine (KV.out _ W2.out).mono ?_); rintro e w3 ⟨rfl, q3⟩)
      | fail)
    go_ret
    exact ⟨rfl, below2 W2.out q3⟩
  have e0 : ((n2 : Int) == 0) = false := beqF (by omega)
  obtain ⟨hM1, hM2, hMA, -⟩ := validM_iff.1 (validV_iff.1 hv).2.2
  obtain ⟨hfq1, hfq2, hfq3⟩ := fast_bd hM1 hM2
  rw [← HN.out] at hM1 hM2 hfq1 hfq2 hfq3
  obtain ⟨i, hi, -, hmi⟩ := mod_idx8 wh n2 h0
  obtain ⟨p, hp⟩ : ∃ p, cs[i]? = some p := ⟨_, List.getElem?_eq_getElem (by have := HN2.out; omega)⟩
  have GP := Lib.hid (HCS.out.el p (List.mem_of_getElem? hp))
  have wwh : IntKind.i64.wrap (wh : Int) = (wh : Int) := IntWalk.i64_in _ (by omega)
  have hi' : (i : Int) < (n2 : Int) := by omega
  have hi0 : ¬ (i : Int) < 0 := by omega
  have R3 := Lib.hid (fun W (hW : Below w2.heap.size w2 W) => show Reads W W.heap.size 1 A2 n2 (cs.map slcV) by
    have := ((HCS.out.rd.below hW).more hW.size)
    rwa [← HN2.out] at this)
  obtain ⟨ad, rfl, -, -⟩ := slc_at (R3.out w2 (Below.refl _ _)) hp hi
  have SC := Lib.hid (fun W (hW : Below w2.heap.size w2 W) => show W.cell? (ad.add i) = some (.slice p.ptr p.lst.length p.cap) from by
    obtain ⟨ad', e, _, hc⟩ := slc_at (R3.out W hW) hp hi
    cases e
    exact hc)
  have HX1 := Lib.hid GP.out.one
  rw [HX1.out] at SC
  clear hv hp
  go_upto_region 10 with (first
    | (go_at_call 23; (with_reducible refine (KV.out _ W2.out).mono ?_); rintro e w3 ⟨rfl, q3⟩; (have p3 := FB.out _ (below2 V2.out q3)); (have s3 := SC.out _ q3))
    | fail)
  have V3 := Lib.hid (below2 V2.out q3)
  have W3 := Lib.hid (below2 W2.out q3)
  have LP := Lib.hid (fun W (hW : Below w3.heap.size w3 W) => (GP.out.step (below2 q3 hW)).ls)
  have HAP := Lib.hid GP.out.ok
  clear p2 p3 s3 KV R3 SC hmi
  obtain ⟨xp, xc, xl⟩ := p
  dsimp only at *
  have hl16 : l.length ≤ 16 := by rw [← HN.out]; exact hM2
  have UW := Lib.hid (fun W (hW : Below w3.heap.size w3 W) => below2 W3.out hW)
  have cutsT := Lib.hid (fun (k : Nat) (ps : List Pbl) (hp : ps.map Pbl.bal = boxT l wh xl k) => show ∀ q ∈ ps, q.cut.length ≤ 1000 from fun q hq => by
    have h1 : q.bal ∈ boxT l wh xl k := by rw [← hp]; exact List.mem_map.2 ⟨q, hq, rfl⟩
    have h2 : q.cut = xl := (in_boxT h1).1
    rw [h2, HX1.out]; decide)
  have KC := Lib.hid (fun (k : Nat) (hk : k < n) (ps : List Pbl) (hp : ps.map Pbl.bal = boxT l wh xl k) X cX W (hW : Below w3.heap.size w3 W) (hE : BS W W.heap.size ps X cX) => show Calls Try.prog 9 #[.agg #[.int .i64 num, .slice A n c], .slice X k cX, .agg #[.int .i64 (memT l wh k), .slice xp 1 xc]] W (OutBx W (boxT l wh xl (k + 1)) (k + 1) 0) by
    have hl := len_map_eq hp
    rw [lenT] at hl
    have e1 := castT (wh := wh) HV.out HAP.out (k := k) (by rw [← HN.out]; exact hk)
    have r := (C.cast num l A X c cX W.heap.size ps ⟨memT l wh k, xp, xc, xl⟩ W (VV.out hl16 W (UW.out W hW)) hE ⟨(LP.out W hW), EL.out _ (memT_in (by rw [← HN.out]; omega))⟩ (Nat.le_refl _) (by omega)).mono fun _ _ h => h.to (boxT l wh xl (k + 1)) (k + 1) 0 (by rw [hp, show (⟨memT l wh k, xp, xc, xl⟩ : Pbl).bal = ⟨memT l wh k, xl⟩ from rfl, castB_ok e1]; rfl) (by rw [hp, show (⟨memT l wh k, xp, xc, xl⟩ : Pbl).bal = ⟨memT l wh k, xl⟩ from rfl, castB_ok e1, len_insF, lenT]) (by rw [hp]; exact e1)
    dsimp only at r
    rw [hl, ← HN.out, HX1.out] at r
    exact r)
  have KWN := Lib.hid (fun (k : Nat) (h0 : 0 < k) (hk : k ≤ n) (ps : List Pbl) (hp : ps.map Pbl.bal = boxT l wh xl k) X cX W (hW : Below w3.heap.size w3 W) (hE : BS W W.heap.size ps X cX) => by
    have hl := len_map_eq hp
    rw [lenT] at hl
    have r := C.win num l A X c cX W.heap.size ps W (VV.out hl16 W (UW.out W hW)) hE (Nat.le_refl _) (by omega) (by omega) (cutsT.out k ps hp)
    rw [hl, ← HN.out, hp, winT HV.out HAP.out (by rw [← HN.out]; exact hk) h0, ← HN.out] at r
    exact r)
  have KW1 := Lib.hid (fun (k : Nat) (h0 : 0 < k) (hk : k ≤ n) (hf : fastQ (n : Int) ≤ (k : Int)) (ps : List Pbl) (hp : ps.map Pbl.bal = boxT l wh xl k) X cX W (hW : Below w3.heap.size w3 W) (hE : BS W W.heap.size ps X cX) => show Calls Try.prog 16 #[.agg #[.int .i64 num, .slice A n c], .slice X k cX] W (OutWn W xl 1 true) by
    have r := KWN.out k h0 hk ps hp X cX W hW hE
    rw [if_pos hf] at r
    exact r.mono fun _ _ h => h.to xl 1 true rfl HX1.out rfl)
  have KW0 := Lib.hid (fun (k : Nat) (h0 : 0 < k) (hk : k ≤ n) (hf : ¬ fastQ (n : Int) ≤ (k : Int)) (ps : List Pbl) (hp : ps.map Pbl.bal = boxT l wh xl k) X cX W (hW : Below w3.heap.size w3 W) (hE : BS W W.heap.size ps X cX) => show Calls Try.prog 16 #[.agg #[.int .i64 num, .slice A n c], .slice X k cX] W (OutWn W [] 0 false) by
    have r := KWN.out k h0 hk ps hp X cX W hW hE
    rw [if_neg hf] at r
    exact r.mono fun _ _ h => h.to [] 0 false rfl rfl rfl)
  have KU := Lib.hid (fun (k : Nat) (h0 : 0 < k) (hk : k ≤ n) (ps : List Pbl) (hp : ps.map Pbl.bal = boxT l wh xl k) X cX W (hW : Below w3.heap.size w3 W) (hE : BS W W.heap.size ps X cX) => show Calls Try.prog 20 #[.agg #[.int .i64 num, .slice A n c], .slice X k cX] W (PB W false) by
    have hl := len_map_eq hp
    rw [lenT] at hl
    have r := C.und num l A X c cX W.heap.size ps W (VV.out hl16 W (UW.out W hW)) hE (Nat.le_refl _) (by omega) (by omega) (cutsT.out k ps hp)
    rw [hl, ← HN.out, hp, undT HV.out h0] at r
    exact r)
  have KO := Lib.hid (fun (ps : List Pbl) (hp : ps.map Pbl.bal = boxT l wh xl n) X cX W (hW : Below w3.heap.size w3 W) (hE : BS W W.heap.size ps X cX) => show Calls Try.prog 18 #[.slice X n cX, .slice xp 1 xc] W (PI W (n : Nat)) by
    have hl := len_map_eq hp
    rw [lenT] at hl
    have r := C.votes X xp cX xc W.heap.size ps xl W hE (LP.out W hW) (Nat.le_refl _) (by omega) (by rw [HX1.out]; decide) (cutsT.out n ps hp)
    rw [hl, hp, votesT, HX1.out] at r
    exact r)
  have KS := Lib.hid (fun Y cY W (hW : Below w3.heap.size w3 W) (hY : LS W W.heap.size xl Y cY) => by
    have r := same8_at W xl xl Y xp 1 1 cY xc HX1.out.symm HX1.out.symm hY (LP.out W hW)
    rwa [decide_eq_true rfl] at r)
  clear q3 KWN
  go_loopg [8, 9, 10, 11, 12] n (fun gk s8 s9 _ _ _ wr => ∃ (k : Nat) (ps : List Pbl) (X : Option Addr) (cX : Nat), k + gk = n ∧ s9 = .int .i64 k ∧ s8 = .slice X k cX ∧ Hid (ps.map Pbl.bal = boxT l wh xl k) ∧ Hid (BS wr wr.heap.size ps X cX) ∧ Hid (Below w3.heap.size w3 wr))
  case atStart => exact ⟨0, [], none, 0, by omega, rfl, rfl, rfl, BS.nil, Below.refl _ _⟩
  case round =>
    obtain ⟨k, ps, X, cX, hkg, rfl, rfl, HPS, HE, HW⟩ := hrel
    have BW := Lib.hid (below2 W3.out HW.out)
    have FV := Lib.hid (fun W (hW : Below wr.heap.size wr W) => FB.out W (below2 V3.out (below2 HW.out hW)))
    cases gk with
    | zero =>
      obtain rfl : k = n := by omega
      have hkz : ¬ ((k : Int) < (k : Int)) := by omega
      have e1 : ((k : Int) == (k : Int)) = true := beqT rfl
      go_wp2_with (first
        | (go_at_call 18; (with_reducible refine (KO.out ps HPS.out X cX _ HW.out HE.out).mono ?_); rintro e w4 ⟨rfl, q4⟩)
        | fail)
      go_ret
      exact ⟨rfl, below2 BW.out q4⟩
    | succ gi =>
      have hkz : (k : Int) < (n : Int) := by omega
      have hk0 : ¬ (k : Int) < 0 := by omega
      obtain ⟨sk, hsk⟩ : ∃ q, q = k + wh := ⟨_, rfl⟩
      obtain ⟨mi, hmi, hme, hmt⟩ := mod_idx8 sk n (by omega)
      have wkw : IntKind.i64.wrap ((k : Int) + (wh : Int)) = (sk : Int) := by rw [IntWalk.i64_in _ (by omega)]; omega
      rw [hsk] at hme
      have hmi' : (mi : Int) < (n : Int) := by omega
      have hmi0 : ¬ (mi : Int) < 0 := by omega
      have en : ((n : Int) == 0) = false := beqF (by omega)
      have en2 : ¬ n = 0 := by omega
      have en3 : ¬ (n : Int) = 0 := by omega
      have wmi : IntKind.i64.wrap (mi : Int) = (mi : Int) := IntWalk.i64_in _ (by omega)
      have SM := Lib.hid (fun W (hW : Below wr.heap.size wr W) => show ∃ ad, A = some ad ∧ W.cell? (ad.add mi) = some (.int .i64 (memT l wh k)) from by
        obtain ⟨ad, u, hA, _, hu, hc⟩ := (RD.out W (below2 BW.out hW)).at_ hmi
        have hg : l[mi]? = some (memT l wh k) := by
          unfold memT
          rw [← HN.out, ← hme, List.getD_eq_getElem?_getD, List.getElem?_eq_getElem (by rw [← HN.out]; exact hmi)]
          rfl
        have hux : u = .int .i64 (memT l wh k) := by simp [hg, intV] at hu; exact hu.symm
        rw [hux] at hc
        exact ⟨ad, hA, hc⟩)
      obtain ⟨am, hAm, -⟩ := SM.out wr (Below.refl _ _)
      subst hAm
      have FM := Lib.hid (fun W (hW : Below wr.heap.size wr W) => And.intro (FV.out W hW) (show W.cell? (am.add mi) = some (.int .i64 (memT l wh k)) from by
        obtain ⟨a', e, hc⟩ := SM.out W hW
        cases e
        exact hc))
      have KCX := Lib.hid (fun W (hW : Below wr.heap.size wr W) => KC.out k (by omega) ps HPS.out X cX W (below2 HW.out hW) (HE.out.step hW))
      generalize memT l wh k = mm at *
      clear hsk hme SM KC
      have i3 : Below wr.heap.size wr wr := Below.refl _ _
      have d3 : Below wr.heap.size wr wr.drew := i3.drew
      go_upto_region 13 with fail
      go_cut [8, 10] from 42 to 58 (fun s8 s10 wx => ∃ (qs : List Pbl) (Y : Option Addr) (cY : Nat), s8 = .slice Y (k + 1) cY ∧ s10 = .int .i64 0 ∧ Hid (qs.map Pbl.bal = boxT l wh xl (k + 1)) ∧ Hid (BS wx wx.heap.size qs Y cY) ∧ Hid (Below wr.heap.size wr wx))
      case first =>
        go_region_held3 (fun W' => ((W'.cell? ⟨w.heap.size, 0, none⟩ = some (.int .i64 num) ∧ W'.cell? ⟨w.heap.size, 1, none⟩ = some (.slice (some am) n c)) ∧ W'.cell? (am.add mi) = some (.int .i64 mm))) (first | exact s4 | exact FM.out _ d3 | exact FM.out _ i3) (first
          | (go_at_call 9; (with_reducible refine (KCX.out _ (by first | exact d3 | exact i3)).mono ?_); rintro e w4 ⟨A4, c4, qs, rfl, -, hq4, b4s, q4⟩; have b4 : Below wr.heap.size wr w4 := (by first | exact q4 | exact bdrew q4); have s4 := FM.out _ b4)
          | fail)
        all_goals
          go_wp2_with fail
          go_meet
          exact ⟨qs, A4, c4, rfl, rfl, hq4, b4s, b4⟩
      case rest =>
      obtain ⟨qs, Y, cY, rfl, rfl, HQS, HEQ, HB5⟩ := hcut
      generalize wc = w5 at *
      have V5 := Lib.hid (below2 HW.out HB5.out)
      have W5 := Lib.hid (below2 BW.out HB5.out)
      have p5 := FV.out _ HB5.out
      have FV5 := Lib.hid (fun W (hW : Below w5.heap.size w5 W) => FV.out W (below2 HB5.out hW))
      obtain ⟨q, hq⟩ : ∃ q, q = (n - 1) / 4 := ⟨_, rfl⟩
      rw [← hq] at hfq1
      have wk1 : IntKind.i64.wrap ((k : Int) + 1) = (k : Int) + 1 := IntWalk.i64_in _ (by omega)
      have wn1 : IntKind.i64.wrap ((n : Int) - 1) = (n : Int) - 1 := IntWalk.i64_in _ (by omega)
      have q4e : ((4 : Int) == 0) = false := rfl
      have ht4 : ((n : Int) - 1).tdiv 4 = (q : Int) := by rw [Int.tdiv_eq_ediv_of_nonneg (by omega)]; omega
      have wq : IntKind.i64.wrap (q : Int) = (q : Int) := IntWalk.i64_in _ (by omega)
      have wnq : IntKind.i64.wrap ((n : Int) - (q : Int)) = (n : Int) - (q : Int) := IntWalk.i64_in _ (by omega)
      have KUX := Lib.hid (fun W (hW : Below w5.heap.size w5 W) => KU.out (k + 1) (by omega) (by omega) qs HQS.out Y cY W (below2 V5.out hW) (HEQ.out.step hW))
      have b1 : (true != true) = false := rfl
      have b2 : (false != false) = false := rfl
      have ed : ((n : Int) - 1) / 4 = (q : Int) := by omega
      by_cases hf : fastQ (n : Int) ≤ ((k + 1 : Nat) : Int)
      · have KWX := Lib.hid (KW1.out (k + 1) (by omega) (by omega) hf qs HQS.out Y cY w5 V5.out HEQ.out)
        have g : decide ((n : Int) - (q : Int) ≤ (k : Int) + 1) = true := decide_eq_true (by omega)
        clear hf KW1 KW0 KU hq hfq1 hfq2 hfq3 FM FV KCX
        go_wp2_with (first
          | (go_at_call 16; (with_reducible refine KWX.out.mono ?_); rintro e w6 ⟨A6, c6, rfl, -, l6, q6⟩; (have v6 := q6); (have p6 := FV5.out _ q6))
          | (go_at_call 15; (with_reducible refine (KS.out _ _ _ (below2 V5.out q6) l6).mono ?_); rintro e w7 ⟨rfl, q7⟩; (have p7 := FV5.out _ (below2 q6 q7)))
          | (go_at_call 20; (with_reducible refine (KUX.out _ (below2 q6 q7)).mono ?_); rintro e w8 ⟨rfl, q8⟩)
          | fail)
        go_roundg gi
        case measure => omega
        case rel => exact ⟨k + 1, qs, Y, cY, by omega, by go_num, rfl, HQS.out, HEQ.out.step (below2 (below2 q6 q7) q8), below2 V5.out (below2 (below2 q6 q7) q8)⟩
      · have KWX := Lib.hid (KW0.out (k + 1) (by omega) (by omega) hf qs HQS.out Y cY w5 V5.out HEQ.out)
        have g : decide ((n : Int) - (q : Int) ≤ (k : Int) + 1) = false := decide_eq_false (by omega)
        clear hf KW1 KW0 KU hq hfq1 hfq2 hfq3 FM FV KCX
        go_wp2_with (first
          | (go_at_call 16; (with_reducible refine KWX.out.mono ?_); rintro e w6 ⟨A6, c6, rfl, -, l6, q6⟩; (have v6 := q6); (have p6 := FV5.out _ q6))
          | (go_at_call 20; (with_reducible refine (KUX.out _ q6).mono ?_); rintro e w8 ⟨rfl, q8⟩)
          | fail)
        go_roundg gi
        case measure => omega
        case rel => exact ⟨k + 1, qs, Y, cY, by omega, by go_num, rfl, HQS.out, HEQ.out.step (below2 q6 q8), below2 V5.out (below2 q6 q8)⟩
end Go.Proofs.Ytmnagkjdnmnbkaa.Fv
