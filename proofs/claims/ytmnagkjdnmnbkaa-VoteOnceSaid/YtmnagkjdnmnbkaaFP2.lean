/- Package fastvote: Valid, Votes. -/
import Derived.Test.YtmnagkjdnmnbkaaFP1
namespace Go.Proofs.Ytmnagkjdnmnbkaa.Fv
set_option linter.unusedVariables false
set_option linter.unusedSimpArgs false
open Go.RowKit
open Go.Proofs.Ytmnagkjdnmnbkaa.W
open Go.Proofs.Ytmnagkjdnmnbkaa.V

/-- The ballot ahead of k is not of a lesser member. -/
def prevG (ps : List Pbl) (k : Nat) (m : Int) : Bool := decide (0 < k) && (ps[k - 1]?).any fun p => decide (m ≤ p.mem)
theorem prev_true {num : Int} {l : List Int} {ps : List Pbl} {k : Nat} {x : Pbl} (hx : ps[k]? = some x) (h : prevG ps k x.mem = true) : okB num l (ps.map Pbl.bal) = false := by
  rw [← Bool.not_eq_true]
  intro ho
  unfold prevG at h
  rw [Bool.and_eq_true, decide_eq_true_iff] at h
  obtain ⟨h0, h1⟩ := h
  obtain ⟨y, hy⟩ : ∃ y, ps[k - 1]? = some y := ⟨_, List.getElem?_eq_getElem (by have := (List.getElem?_eq_some_iff.1 hx).1; omega)⟩
  rw [hy] at h1
  simp at h1
  have := (okB_at ho (bal_get hx)).2 y.bal h0 (bal_get hy)
  simp [Pbl.bal] at this
  omega
theorem prev_false {num : Int} {l : List Int} {ps : List Pbl} {k : Nat} {x : Pbl} (hx : ps[k]? = some x) (hs : Seen num l (ps.map Pbl.bal) k) (h : prevG ps k x.mem = false) (ho : okBal num l x.bal = true) : Seen num l (ps.map Pbl.bal) (k + 1) := by
  refine hs.next (bal_get hx) ho fun p h0 hp => ?_
  rw [List.getElem?_map] at hp
  obtain ⟨y, hy, rfl⟩ := Option.map_eq_some_iff.1 hp
  unfold prevG at h
  rw [hy, decide_eq_true h0] at h
  simp at h
  exact h
set_option maxRecDepth 1000000 in
set_option maxHeartbeats 8000000 in
theorem fvValid_any (num : Int) (l : List Int) (A E : Option Addr) (c cE B : Nat) (ps : List Pbl) (w : World) (h : VW w B num l A c) (hs : BS w B ps E cE) (hB : B ≤ w.heap.size) :
    Calls Try.prog 12 #[.agg #[.int .i64 num, .slice A l.length c], .slice E ps.length cE] w (PB w (okB num l (ps.map Pbl.bal))) := by
  have hb0 := (Below.refl w.heap.size w).alloc (Nat.le_refl _) (.cells #[.int .i64 num, .slice A l.length c] 24)
  have hz := Blk.new w 24 #[.int .i64 num, .slice A l.length c]
  have KV := Lib.hid (fun W (hW : Below w.heap.size w W) => viewValid_any num l A c w.heap.size W ((h.more hB).below hW) hW.size)
  have KC := Lib.hid (fun (x : Int) W (hW : Below w.heap.size w W) => viewContains_any A c w.heap.size l x W ((h.more hB).below hW).ls hW.size)
  have KA := Lib.hid (fun (q : List Int) (Y : Option Addr) (d : Nat) W (hW : Below w.heap.size w W) (hq : LS W W.heap.size q Y d) => fvApplicable_any num l q A Y c d W.heap.size W (((h.more hB).below hW).more hW.size) hq (Nat.le_refl _))
  have RS := Lib.hid (fun W (hW : Below w.heap.size w W) => (hs.more hB).below hW)
  have hn40 := hs.l40
  have hcap := hs.cap
  obtain ⟨t, ht⟩ : ∃ t, t = okB num l (ps.map Pbl.bal) := ⟨_, rfl⟩
  have HT := Lib.hid ht
  rw [← ht]
  obtain ⟨n, hn⟩ : ∃ n, n = l.length := ⟨_, rfl⟩
  obtain ⟨ns, hns⟩ : ∃ n, n = ps.length := ⟨_, rfl⟩
  have HNS := Lib.hid hns
  dsimp only [vwV] at KV
  rw [← hn] at hb0 hz KV KC KA ⊢
  rw [← hns] at hn40 hcap ⊢
  have B0 := Lib.hid hb0
  have Z1 := Lib.hid hz
  clear hb0 hz hn hns ht h hs hB
  go_enter Try.func12, Try.ntmps12
  go_upto_region 1 with fail
  generalize w.alloc (.cells #[.int .i64 num, .slice A n c] 24) = w0 at *
  have FB := Lib.hid (fun W (hW : Below w0.heap.size w0 W) => (blk2 (Z1.out.below hW Z1.out.lt)))
  have p0 := FB.out _ (Below.refl _ _)
  cases hv : validV num l
  · have HF := Lib.hid (show t = false by rw [HT.out]; unfold okB; rw [hv]; rfl)
    rw [hv] at KV
    clear hv HT KC KA
    go_wp2_with (first
      | (go_at_call 34; (with_reducible refine (KV.out _ B0.out).mono ?_); rintro e w1 ⟨rfl, q1⟩)
      | fail)
    go_ret
    exact ⟨by rw [HF.out]; rfl, below2 B0.out q1⟩
  have HV := Lib.hid hv
  rw [hv] at KV
  clear hv
  go_wp2_with (first
    | (go_at_call 34; (with_reducible refine (KV.out _ B0.out).mono ?_); rintro e w1 ⟨rfl, q1⟩)
    | fail)
  have V1 := Lib.hid q1
  clear q1 p0 KV
  go_loopg [5, 6, 12] ns (fun gk _ _ s12 wr => ∃ k : Nat, k + gk = ns ∧ s12 = .int .i64 k ∧ Hid (Seen num l (ps.map Pbl.bal) k) ∧ Hid (Below w0.heap.size w0 wr))
  case atStart => exact ⟨0, by omega, rfl, Seen.zero, V1.out⟩
  case round =>
    obtain ⟨k, hkg, rfl, HSE, HW⟩ := hrel
    have BW := Lib.hid (below2 B0.out HW.out)
    cases gk with
    | zero =>
      have hkz : ¬ ((k : Int) < (ns : Int)) := by omega
      have HF := Lib.hid (show t = true by
        rw [HT.out]
        refine Seen.done ?_ HV.out
        rw [List.length_map, ← HNS.out, show ns = k by omega]
        exact HSE.out)
      go_wp2_with fail
      go_ret
      exact ⟨by rw [HF.out]; rfl, BW.out⟩
    | succ gi =>
      have hkz : (k : Int) < (ns : Int) := by omega
      have hk0 : ¬ (k : Int) < 0 := by omega
      obtain ⟨x, hx⟩ : ∃ x, ps[k]? = some x := ⟨_, List.getElem?_eq_getElem (by have := HNS.out; omega)⟩
      have RD := Lib.hid (fun W (hW : Below wr.heap.size wr W) => by
        have q := (RS.out W (below2 BW.out hW)).rd
        rw [← HNS.out] at q
        exact q)
      obtain ⟨ad, rfl, -, -, x0, x1⟩ := bal_at (RD.out wr (Below.refl _ _)) hx
      have HX := Lib.hid hx
      have GX := Lib.hid (fun W (hW : Below wr.heap.size wr W) => ((RS.out W (below2 BW.out hW)).el x (List.mem_of_getElem? HX.out)).more (below2 BW.out hW).size)
      have HPT := Lib.hid (fun (q : prevG ps k x.mem = true) => show t = false by rw [HT.out]; exact prev_true HX.out q)
      have HNO := Lib.hid (fun (q : okBal num l x.bal = false) => show t = false by
        rw [HT.out, ← Bool.not_eq_true]
        intro h
        rw [(okB_at h (bal_get HX.out)).1] at q
        cases q)
      have HPF := Lib.hid (fun (q : prevG ps k x.mem = false) (ho : okBal num l x.bal = true) => prev_false HX.out HSE.out q ho)
      have HOB := Lib.hid (show okBal num l x.bal = (hasB l x.mem && applF num l x.cut) from rfl)
      have KX := Lib.hid (fun W (hW : Below wr.heap.size wr W) => KC.out x.mem W (below2 BW.out hW))
      have KY := Lib.hid (fun W (hW : Below wr.heap.size wr W) => KA.out x.cut x.ptr x.cap W (below2 BW.out hW) (GX.out W hW).ls)
      obtain ⟨xm, xp, xc, xl⟩ := x
      dsimp only at *
      obtain ⟨nq, hnq⟩ : ∃ q, q = xl.length := ⟨_, rfl⟩
      rw [← hnq] at KY x1
      have hbb := (Below.refl wr.heap.size wr).alloc (Nat.le_refl _) (.cells #[.int .i64 xm, .slice xp nq xc] 27)
      have hzb := Blk.new wr 27 #[.int .i64 xm, .slice xp nq xc]
      clear hx hnq HSE HT KC KA
      go_upto_region 6 with fail
      generalize wr.alloc (.cells #[.int .i64 xm, .slice xp nq xc] 27) = wb at *
      have BB := Lib.hid hbb
      have ZB := Lib.hid hzb
      have F2 := Lib.hid (fun W (hW : Below wb.heap.size wb W) => (blk2 (ZB.out.below hW ZB.out.lt)))
      have F1 := Lib.hid (fun W (hW : Below wb.heap.size wb W) => FB.out W (below2 HW.out (below2 BB.out hW)))
      clear hbb hzb x0 x1
      obtain ⟨g, hg⟩ : ∃ g, g = prevG ps k xm := ⟨_, rfl⟩
      have HG := Lib.hid hg
      clear hg
      go_cut [29] from 17 to 29 (fun s29 wx => s29 = .bool g ∧ Hid (Below wb.heap.size wb wx))
      case first =>
        obtain ⟨z0, z1⟩ := F2.out _ (Below.refl _ _)
        rcases Nat.eq_zero_or_pos k with h0 | h0
        · have hg := Lib.hid (show g = false by rw [HG.out]; unfold prevG; rw [h0]; rfl)
          have kg : decide (0 < k) = false := decide_eq_false (by omega)
          clear h0
          go_quiet (fail)
          go_wp2_with fail
          go_meet
          exact ⟨by rw [hg.out], below_drewN' (Below.refl _ _) _⟩
        · obtain ⟨j, hj⟩ : ∃ j, k = j + 1 := ⟨k - 1, by omega⟩
          have wk : IntKind.i64.wrap ((k : Int) - 1) = (j : Int) := by rw [IntWalk.i64_in _ (by omega)]; omega
          have hj0 : ¬ (j : Int) < 0 := by omega
          have hjn : (j : Int) < (ns : Int) := by omega
          obtain ⟨y, hy⟩ : ∃ y, ps[j]? = some y := ⟨_, List.getElem?_eq_getElem (by have := HNS.out; omega)⟩
          obtain ⟨y0, y1⟩ := bal_at2 (RD.out wb BB.out) hy
          have hg := Lib.hid (show g = decide (xm ≤ y.mem) by rw [HG.out]; unfold prevG; rw [decide_eq_true h0, show k - 1 = j by omega, hy]; rfl)
          have kg : decide (0 < k) = true := decide_eq_true h0
          obtain ⟨ym, yp, yc, yl⟩ := y
          dsimp only at *
          clear h0 hj hy
          cases hgm : decide (xm ≤ ym)
          all_goals
            rw [hgm] at hg
            go_quiet (fail)
            go_wp2_with fail
            go_meet
            exact ⟨by rw [hg.out], below_drewN' (Below.refl _ _) _⟩
      case rest =>
      obtain ⟨rfl, HB5⟩ := hcut
      generalize wc = w5 at *
      obtain ⟨z0, z1⟩ := F2.out _ HB5.out
      obtain ⟨v0, v1⟩ := F1.out _ HB5.out
      have W5 := Lib.hid (below2 BB.out HB5.out)
      have C5 := Lib.hid (below2 BW.out W5.out)
      cases g
      rotate_left 1
      · have HF := Lib.hid (HPT.out HG.out.symm)
        clear HG HPF HNO HOB HPT
        go_wp2_with fail
        go_ret
        exact ⟨by rw [HF.out]; rfl, C5.out⟩
      cases h1 : hasB l xm
      · have HF := Lib.hid (HNO.out (by rw [HOB.out, h1]; rfl))
        rw [h1] at KX
        clear h1 HNO HOB KY HPF HPT HG
        go_wp2_with (first
          | (go_at_call 25; (with_reducible refine (KX.out _ W5.out).mono ?_); rintro e w6 ⟨rfl, q6⟩)
          | fail)
        go_ret
        exact ⟨by rw [HF.out]; rfl, below2 C5.out q6⟩
      rw [h1] at KX HOB
      clear h1
      cases h2 : applF num l xl
      · have HF := Lib.hid (HNO.out (by rw [HOB.out, h2]; rfl))
        rw [h2] at KY
        clear h2 HNO HOB HPF HPT HG
        go_wp2_with (first
          | (go_at_call 25; (with_reducible refine (KX.out _ W5.out).mono ?_); rintro e w6 ⟨rfl, q6⟩; (have c6 := below2 W5.out q6); obtain ⟨z0, z1⟩ := F2.out _ (below2 HB5.out q6); obtain ⟨v0, v1⟩ := F1.out _ (below2 HB5.out q6))
          | (go_at_call 24; (with_reducible refine (KY.out _ c6).mono ?_); rintro e w7 ⟨rfl, q7⟩)
          | fail)
        go_ret
        exact ⟨by rw [HF.out]; rfl, below2 BW.out (below2 c6 q7)⟩
      · have HSN := Lib.hid (HPF.out HG.out.symm (by rw [HOB.out, h2]; rfl))
        rw [h2] at KY
        clear h2 HNO HOB HPF HPT HG
        go_wp2_with (first
          | (go_at_call 25; (with_reducible refine (KX.out _ W5.out).mono ?_); rintro e w6 ⟨rfl, q6⟩; (have c6 := below2 W5.out q6); obtain ⟨z0, z1⟩ := F2.out _ (below2 HB5.out q6); obtain ⟨v0, v1⟩ := F1.out _ (below2 HB5.out q6))
          | (go_at_call 24; (with_reducible refine (KY.out _ c6).mono ?_); rintro e w7 ⟨rfl, q7⟩)
          | fail)
        go_roundg gi
        case measure => omega
        case rel => exact ⟨k + 1, by omega, by go_num, HSN.out, below2 HW.out (below2 c6 q7)⟩

set_option maxRecDepth 1000000 in
set_option maxHeartbeats 4000000 in
theorem fvVotes_any (E C : Option Addr) (cE cC B : Nat) (ps : List Pbl) (cut : List Int) (w : World) (hs : BS w B ps E cE) (hc : LS w B cut C cC) (hB : B ≤ w.heap.size) (hm : ps.length ≤ 1000000) :
    Calls Try.prog 18 #[.slice E ps.length cE, .slice C cut.length cC] w (PI w (votesF (ps.map Pbl.bal) cut : Nat)) := by
  have RS := Lib.hid (fun W (hW : Below w.heap.size w W) => (hs.more hB).below hW)
  have RC := Lib.hid (fun W (hW : Below w.heap.size w W) => (hc.more hB).below hW)
  obtain ⟨t, ht⟩ : ∃ t, t = votesF (ps.map Pbl.bal) cut := ⟨_, rfl⟩
  have HT := Lib.hid ht
  rw [← ht]
  obtain ⟨ns, hns⟩ : ∃ n, n = ps.length := ⟨_, rfl⟩
  have HN := Lib.hid hns
  obtain ⟨nc, hnc⟩ : ∃ n, n = cut.length := ⟨_, rfl⟩
  have HNC := Lib.hid hnc
  have hc40 := hc.l40
  rw [← hns] at hm ⊢
  rw [← hnc] at hc40 ⊢
  clear hs hc hB hns hnc ht
  go_enter Try.func18, Try.ntmps18
  go_wp2_with fail
  go_loopg [5, 7, 10] ns (fun gk s5 _ s10 wr => ∃ k m : Nat, k + gk = ns ∧ s10 = .int .i64 k ∧ s5 = .int .i64 m ∧ m ≤ k ∧ Hid (m = votesF ((ps.map Pbl.bal).take k) cut) ∧ Hid (Below w.heap.size w wr))
  case atStart => exact ⟨0, 0, by omega, rfl, rfl, by omega, rfl, Below.refl _ _⟩
  case round =>
    obtain ⟨k, m, hkg, rfl, rfl, hmk, HM, HW⟩ := hrel
    cases gk with
    | zero =>
      have hkz : ¬ ((k : Int) < (ns : Int)) := by omega
      have HF := Lib.hid (show t = m by rw [HM.out, List.take_of_length_le (by rw [List.length_map]; have := HN.out; omega)]; exact HT.out)
      go_wp2_with fail
      go_ret
      exact ⟨by rw [HF.out]; rfl, HW.out⟩
    | succ gk =>
      have hkz : (k : Int) < (ns : Int) := by omega
      have hk0 : ¬ (k : Int) < 0 := by omega
      obtain ⟨x, hx⟩ : ∃ x, ps[k]? = some x := ⟨_, List.getElem?_eq_getElem (by have := HN.out; omega)⟩
      have R1 := (RS.out wr HW.out).rd
      rw [← HN.out] at R1
      obtain ⟨ad, rfl, -, -, x0, x1⟩ := bal_at R1 hx
      have HDN := Lib.hid (votes_take (cut := cut) (bal_get hx))
      have HX := Lib.hid hx
      obtain ⟨xm, xp, xc, xl⟩ := x
      dsimp only at *
      obtain ⟨nq, hnq⟩ : ∃ q, q = xl.length := ⟨_, rfl⟩
      have HNQ := Lib.hid hnq
      rw [← hnq] at x1
      have hbb := (Below.refl wr.heap.size wr).alloc (Nat.le_refl _) (.cells #[.int .i64 xm, .slice xp nq xc] 27)
      have hzb := Blk.new wr 27 #[.int .i64 xm, .slice xp nq xc]
      clear R1 hx hnq
      go_upto_region 5 with fail
      generalize wr.alloc (.cells #[.int .i64 xm, .slice xp nq xc] 27) = wb at *
      have BB := Lib.hid hbb
      have CB := Lib.hid (below2 HW.out hbb)
      obtain ⟨z0, z1⟩ := blk2 hzb
      have KS := Lib.hid (show Calls Try.prog 14 #[.slice xp nq xc, .slice C nc cC] wb (PB wb (decide (xl = cut))) by
        have PX := (RS.out wb CB.out).el _ (List.mem_of_getElem? HX.out)
        have hl := PX.ls
        have hc := RC.out wb CB.out
        have r1 := hl.rd
        have r2 := hc.rd
        have l1 := hl.l40
        dsimp only at r1 l1
        rw [← HNQ.out] at r1 l1
        rw [← HNC.out] at r2
        exact (fvSame_any xp C xc cC _ _ nq nc xl cut wb HNQ.out HNC.out r1 r2 l1 hc40).mono fun e w' h => by
          obtain ⟨h1, q, rfl⟩ := h
          exact ⟨h1, below_drewN' (Below.refl _ _) q⟩)
      clear x0 x1 hbb hzb
      cases h : decide (xl = cut)
      · rw [h] at KS
        have HF := Lib.hid (show m = votesF ((ps.map Pbl.bal).take (k + 1)) cut by rw [HDN.out, show (Pbl.bal ⟨xm, xp, xc, xl⟩).cut = xl from rfl, if_neg (of_decide_eq_false h), HM.out]; rfl)
        clear h
        go_wp2_with (first
          | (go_at_call 14; (with_reducible refine KS.out.mono ?_); rintro e w3 ⟨rfl, q3⟩)
          | fail)
        go_roundg gk
        case measure => omega
        case rel => exact ⟨k + 1, m, by omega, by go_num, rfl, by omega, HF.out, below2 CB.out q3⟩
      · rw [h] at KS
        have HF := Lib.hid (show m + 1 = votesF ((ps.map Pbl.bal).take (k + 1)) cut by rw [HDN.out, show (Pbl.bal ⟨xm, xp, xc, xl⟩).cut = xl from rfl, if_pos (of_decide_eq_true h), HM.out])
        clear h
        go_wp2_with (first
          | (go_at_call 14; (with_reducible refine KS.out.mono ?_); rintro e w3 ⟨rfl, q3⟩)
          | fail)
        go_roundg gk
        case measure => omega
        case rel => exact ⟨k + 1, m + 1, by omega, by go_num, by go_num, by omega, HF.out, below2 CB.out q3⟩
end Go.Proofs.Ytmnagkjdnmnbkaa.Fv
