/- Package fastvote: leading, Winner, Undecidable. -/
import Derived.Test.YtmnagkjdnmnbkaaFP2
import Derived.Test.YtmnagkjdnmnbkaaFOnce0
namespace Go.Proofs.Ytmnagkjdnmnbkaa.Fv
set_option linter.unusedVariables false
set_option linter.unusedSimpArgs false
open Go.RowKit
open Go.Proofs.Ytmnagkjdnmnbkaa.W
open Go.Proofs.Ytmnagkjdnmnbkaa.V

/-- A cut with its votes among the first k ballots; none has more. -/
structure Lead (s : List Bal) (k : Nat) (cut : List Int) (m : Nat) : Prop where
  up : ∀ i x, i < k → s[i]? = some x → votesF (s.take (i + 1)) x.cut ≤ m
  hit : m = 0 ∨ ∃ i x, i < k ∧ s[i]? = some x ∧ x.cut = cut ∧ votesF (s.take (i + 1)) cut = m
section
variable {s : List Bal} {k m v : Nat} {cut : List Int} {x : Bal} {num : Int} {l : List Int}
theorem Lead.zero : Lead s 0 [] 0 := ⟨fun i x h => absurd h (by omega), .inl rfl⟩
theorem Lead.more (h : Lead s k cut m) (hx : s[k]? = some x) (hv : votesF (s.take (k + 1)) x.cut = v) (hm : m < v) : Lead s (k + 1) x.cut v where
  up := fun i y hi hy => by
    rcases Nat.lt_or_ge i k with hl | hg
    · have := h.up i y hl hy; omega
    · obtain rfl : i = k := by omega
      rw [hx] at hy; cases hy
      omega
  hit := .inr ⟨k, x, by omega, hx, rfl, hv⟩
theorem Lead.same (h : Lead s k cut m) (hx : s[k]? = some x) (hv : votesF (s.take (k + 1)) x.cut = v) (hm : ¬ m < v) : Lead s (k + 1) cut m where
  up := fun i y hi hy => by
    rcases Nat.lt_or_ge i k with hl | hg
    · exact h.up i y hl hy
    · obtain rfl : i = k := by omega
      rw [hx] at hy; cases hy
      omega
  hit := by
    rcases h.hit with h0 | ⟨i, y, hi, r⟩
    · exact .inl h0
    · exact .inr ⟨i, y, by omega, r⟩
theorem Lead.all (h : Lead s s.length cut m) (c : List Int) : votesF s c ≤ m := by
  have : ∀ j, j ≤ s.length → votesF (s.take j) c ≤ m := by
    intro j
    induction j with
    | zero => intro _; simp [votesF]
    | succ j ih =>
      intro hj
      obtain ⟨y, hy⟩ : ∃ y, s[j]? = some y := ⟨_, List.getElem?_eq_getElem (by omega)⟩
      have h1 := h.up j y (by omega) hy
      have h2 := ih (by omega)
      rw [votes_take hy] at h1 ⊢
      by_cases e : y.cut = c
      · rw [e] at h1; rw [if_pos e]; rw [if_pos rfl] at h1; exact h1
      · rw [if_neg e]; exact h2
  have := this s.length (Nat.le_refl _)
  rwa [List.take_length] at this
theorem Lead.le (h : Lead s k cut m) : m ≤ k := by
  rcases h.hit with h0 | ⟨i, y, hi, hy, _, hv⟩
  · omega
  · have := votes_le (s := s.take (i + 1)) (cut := cut)
    rw [hv, List.length_take] at this
    omega
theorem Lead.at_ (h : Lead s s.length cut m) (h0 : m ≠ 0) : votesF s cut = m ∧ ∃ y ∈ s, y.cut = cut := by
  rcases h.hit with h1 | ⟨i, y, hi, hy, e, hv⟩
  · exact absurd h1 h0
  · refine ⟨Nat.le_antisymm (h.all cut) ?_, y, List.mem_of_getElem? hy, e⟩
    rw [← hv]
    unfold votesF
    exact (List.take_sublist _ _).countP_le
theorem most_is {M : Nat} (hall : ∀ c, votesF s c ≤ M) : ∀ {t : List Bal} {a : Nat}, a ≤ M → (a = M ∨ ∃ y ∈ t, votesF s y.cut = M) → mostI s t a = M
  | [], a, ha, h => by
    rcases h with rfl | ⟨y, hy, _⟩
    · rfl
    · cases hy
  | y :: t, a, ha, h => by
    unfold mostI
    have hy := hall y.cut
    refine most_is hall (by omega) ?_
    rcases h with rfl | ⟨z, hz, e⟩
    · left; omega
    · rcases List.mem_cons.1 hz with rfl | hz
      · left; omega
      · exact .inr ⟨z, hz, e⟩
theorem Lead.most (h : Lead s s.length cut m) : mostI s s 0 = m := by
  refine most_is h.all (Nat.zero_le _) ?_
  by_cases h0 : m = 0
  · exact .inl h0.symm
  · obtain ⟨h1, y, hy, e⟩ := h.at_ h0
    exact .inr ⟨y, hy, by rw [e]; exact h1⟩
theorem appl_ne (h : applF num l cut = true) : 1 ≤ cut.length := by
  unfold applF at h
  have h := of_decide_eq_true h
  unfold next at h
  split at h
  · cases h
  · rename_i hv
    rw [Bool.not_eq_false, Bool.and_eq_true] at hv
    exact (validC_iff.1 hv.2).1
theorem Lead.win (h : Lead s s.length cut m) (ok : okB num l s = true) (hq : fastQ (l.length : Int) ≤ (m : Int)) : winF num l s = some cut ∧ 1 ≤ cut.length := by
  obtain ⟨h1, _, _⟩ := fast_of ok
  obtain ⟨h2, y, hy, e⟩ := h.at_ (by omega)
  have hc : 1 ≤ cut.length := by
    rw [← e]
    exact appl_ne (okBal_iff.1 ((okB_iff.1 ok).2.1 y hy)).2
  refine ⟨?_, hc⟩
  unfold winF
  rw [if_pos ok]
  rcases hw : winI l s s with _ | z
  · exact absurd (by rw [e, h2]; exact hq) (winI_none hw y hy)
  · obtain ⟨h3, _⟩ := winI_some hw
    rw [win_one ok (a := z) (c := cut) h3 (by rw [h2]; exact hq)]
theorem Lead.nowin (h : Lead s s.length cut m) (hq : ¬ fastQ (l.length : Int) ≤ (m : Int)) : winF num l s = none := by
  unfold winF
  split
  · rcases hw : winI l s s with _ | z
    · rfl
    · obtain ⟨h3, _⟩ := winI_some hw
      have := h.all z
      omega
  · rfl
end
theorem quiet_one {P : Program} {f : FuncId} {args : Array Value} {w : World} {n : Nat} {v : Value}
    (h : Calls P f args (w.drewN n) fun e w' => e = .returned v ∧ ∃ q, w' = (w.drewN n).drewN q) : Calls P f args (w.drewN n) fun e w'' => e = .returned v ∧ ∃ m, w'' = w.drewN m :=
  h.mono fun _ _ ⟨he, q, hq⟩ => ⟨he, n + q, by rw [hq, World.drewN_drewN]⟩
/-- A cut that leads, and its votes. -/
def OutLd (w : World) (s : List Bal) (e : Ending) (w' : World) : Prop :=
  ∃ C c n m cut, e = .returned (.tuple #[.slice C n c, .int .i64 ((m : Nat) : Int)]) ∧ n = cut.length ∧ LS w' w'.heap.size cut C c ∧ Lead s s.length cut m ∧ m ≤ s.length ∧ Below w.heap.size w w'
set_option maxRecDepth 1000000 in
set_option maxHeartbeats 8000000 in
theorem fvLead_any (E : Option Addr) (cE B : Nat) (ps : List Pbl) (w : World) (hs : BS w B ps E cE) (hB : B ≤ w.heap.size) (hm : ps.length ≤ 1000000) :
    Calls Try.prog 36 #[.slice E ps.length cE] w (OutLd w (ps.map Pbl.bal)) := by
  have RS := Lib.hid (fun W (hW : Below w.heap.size w W) => (hs.more hB).below hW)
  obtain ⟨s, hs'⟩ : ∃ s, s = ps.map Pbl.bal := ⟨_, rfl⟩
  have HS := Lib.hid hs'
  have HSL := Lib.hid (show s.length = ps.length by rw [hs', List.length_map])
  rw [← hs']
  obtain ⟨ns, hns⟩ : ∃ n, n = ps.length := ⟨_, rfl⟩
  have HN := Lib.hid hns
  rw [← hns] at hm HSL ⊢
  clear hs hB hns hs'
  go_enter Try.func36, Try.ntmps36
  go_wp2_with fail
  go_loopg [2, 3, 4, 5, 6, 7, 10] ns (fun gk s2 s3 _ _ _ _ s10 wr => ∃ (k m n c : Nat) (C : Option Addr) (cut : List Int), k + gk = ns ∧ s10 = .int .i64 k ∧ s2 = .slice C n c ∧ s3 = .int .i64 m ∧ m ≤ k ∧ Hid (n = cut.length) ∧ Hid (∀ W, Below w.heap.size w W → LS W W.heap.size cut C c) ∧ Hid (Lead s k cut m) ∧ Hid (Below w.heap.size w wr))
  case atStart => exact ⟨0, 0, 0, 0, none, [], by omega, rfl, rfl, rfl, by omega, rfl, (fun W _ => ⟨Reads.none_, by show 0 ≤ _; omega, (fun x hx => by cases hx), Nat.le_refl _⟩), Lead.zero, Below.refl _ _⟩
  case round =>
    obtain ⟨k, m, n, c, C, cut, hkg, rfl, rfl, rfl, hmk, HNC, HLS, HLD, HW⟩ := hrel
    cases gk with
    | zero =>
      have hkz : ¬ ((k : Int) < (ns : Int)) := by omega
      have HE := Lib.hid (show k = s.length by rw [HSL.out]; omega)
      go_wp2_with fail
      try go_ret2
      exact ⟨C, c, n, m, cut, rfl, HNC.out, HLS.out _ HW.out, by rw [← HE.out]; exact HLD.out, by rw [← HE.out]; exact hmk, HW.out⟩
    | succ gi =>
      have hkz : (k : Int) < (ns : Int) := by omega
      have hk0 : ¬ (k : Int) < 0 := by omega
      obtain ⟨x, hx⟩ : ∃ x, ps[k]? = some x := ⟨_, List.getElem?_eq_getElem (by have := HN.out; omega)⟩
      have R1 := (RS.out wr HW.out).rd
      rw [← HN.out] at R1
      obtain ⟨ad, rfl, -, -, x0, x1⟩ := bal_at R1 hx
      have HX := Lib.hid hx
      have HXS := Lib.hid (show s[k]? = some x.bal by rw [HS.out]; exact bal_get hx)
      obtain ⟨xm, xp, xc, xl⟩ := x
      dsimp only [Pbl.bal] at *
      obtain ⟨nq, hnq⟩ : ∃ q, q = xl.length := ⟨_, rfl⟩
      have HNQ := Lib.hid hnq
      rw [← hnq] at x1
      have PX := Lib.hid (fun W (hW : Below w.heap.size w W) => show LS W W.heap.size xl xp xc from by
        have q := (RS.out W hW).el _ (List.mem_of_getElem? HX.out)
        exact q.ls.more hW.size)
      have hbb := (Below.refl wr.heap.size wr).alloc (Nat.le_refl _) (.cells #[.int .i64 xm, .slice xp nq xc] 27)
      have hzb := Blk.new wr 27 #[.int .i64 xm, .slice xp nq xc]
      clear R1 hx hnq
      go_upto_region 4 with fail
      generalize wr.alloc (.cells #[.int .i64 xm, .slice xp nq xc] 27) = wb at *
      generalize hgb : wr.heap.size = gb at *
      have CB := Lib.hid (HW.out.trans (hbb.mono (by have := HW.out.size; omega)))
      have ZB := Lib.hid hzb
      have F2 := Lib.hid (fun W (hW : Below wb.heap.size wb W) => (blk2 (ZB.out.below hW ZB.out.lt)))
      clear x0 x1 hbb hzb hgb HW
      go_wp2_with fail
      generalize wr = wo at *
      go_loopg [6, 7, 16] k (fun gj s6 _ s16 wr => ∃ (j v : Nat), j + gj = k ∧ s16 = .int .i64 j ∧ s6 = .int .i64 v ∧ v ≤ j + 1 ∧ Hid (v = 1 + votesF (s.take j) xl) ∧ Hid (Below wb.heap.size wb wr))
      case atStart => exact ⟨0, 1, by omega, rfl, rfl, by omega, (show 1 = 1 + votesF (s.take 0) xl by simp [votesF]), Below.refl _ _⟩
      case round =>
        obtain ⟨j, v, hjg, rfl, rfl, hvj, HV, HW2⟩ := hrel
        have CW := Lib.hid (below2 CB.out HW2.out)
        cases gk with
        | zero =>
          have hjz : ¬ ((j : Int) < (k : Int)) := by omega
          obtain ⟨z0, z1⟩ := F2.out _ HW2.out
          have HVK := Lib.hid (show votesF (s.take (k + 1)) xl = v by
            rw [votes_take HXS.out, HV.out, show j = k by omega]
            simp
            omega)
          by_cases hmv : m < v
          · have hmv2 : (m : Int) < (v : Int) := by omega
            have HL2 := Lib.hid (HLD.out.more HXS.out HVK.out hmv)
            clear hmv
            go_wp2_with fail
            go_roundg gi
            case measure => omega
            case rel => exact ⟨k + 1, v, nq, xc, xp, xl, by omega, by go_num, rfl, rfl, by omega, HNQ.out, PX.out, HL2.out, CW.out⟩
          · have hmv2 : ¬ (m : Int) < (v : Int) := by omega
            have HL2 := Lib.hid (HLD.out.same HXS.out HVK.out hmv)
            clear hmv
            go_wp2_with fail
            go_roundg gi
            case measure => omega
            case rel => exact ⟨k + 1, m, n, c, C, cut, by omega, by go_num, rfl, rfl, by omega, HNC.out, HLS.out, HL2.out, CW.out⟩
        | succ gj =>
          have hjz : (j : Int) < (k : Int) := by omega
          have hjn : (j : Int) < (ns : Int) := by omega
          have hj0 : ¬ (j : Int) < 0 := by omega
          obtain ⟨y, hy⟩ : ∃ y, ps[j]? = some y := ⟨_, List.getElem?_eq_getElem (by have := HN.out; omega)⟩
          have R1 := (RS.out wr CW.out).rd
          rw [← HN.out] at R1
          obtain ⟨y0, y1⟩ := bal_at2 R1 hy
          obtain ⟨z0, z1⟩ := F2.out _ HW2.out
          have HY := Lib.hid hy
          have HYS := Lib.hid (show s[j]? = some y.bal by rw [HS.out]; exact bal_get hy)
          obtain ⟨ym, yp, yc, yl⟩ := y
          dsimp only [Pbl.bal] at *
          obtain ⟨nr, hnr⟩ : ∃ q, q = yl.length := ⟨_, rfl⟩
          have HNR := Lib.hid hnr
          rw [← hnr] at y1
          have CS := Lib.hid (fun q => show Calls Try.prog 14 #[.slice yp nr yc, .slice xp nq xc] (wr.drewN q) _ from by
            have hb := CW.out.trans ((below_drewN' (Below.refl wr.heap.size wr) q).mono CW.out.size)
            have ly := (RS.out _ hb).el _ (List.mem_of_getElem? HY.out)
            have lx := PX.out _ hb
            have r1 := ly.ls.rd
            have r2 := lx.rd
            have l1 := ly.ls.l40
            have l2 := lx.l40
            dsimp only at r1 l1
            rw [← HNR.out] at r1 l1
            rw [← HNQ.out] at r2 l2
            exact fvSame_any yp xp yc xc _ _ nr nq yl xl (wr.drewN q) HNR.out HNQ.out r1 r2 l1 l2)
          have HVT := Lib.hid (votes_take (cut := xl) HYS.out)
          clear R1 hy hnr
          obtain ⟨g, hg⟩ : ∃ g, g = decide (yl = xl) := ⟨_, rfl⟩
          rw [← hg] at CS
          have HG := Lib.hid hg
          clear hg
          go_upto_region 8 with fail
          go_cut [26] from 19 to 26 (fun s26 wx => s26 = .bool g ∧ Hid (Below wr.heap.size wr wx))
          case first =>
            go_quiet (first
              | (go_at_call 14; with_reducible exact quiet_one (CS.out _))
              | fail)
            go_wp2_with fail
            go_meet
            exact ⟨rfl, below_drewN' (Below.refl _ _) _⟩
          case rest =>
          obtain ⟨rfl, HB5⟩ := hcut
          generalize wc = w5 at *
          clear y0 y1 z0 z1 CS
          cases g
          · have HF := Lib.hid (show v = 1 + votesF (s.take (j + 1)) xl by rw [HVT.out, if_neg (of_decide_eq_false HG.out.symm), HV.out]; rfl)
            clear HG
            go_wp2_with fail
            go_roundg gj
            case measure => omega
            case rel => exact ⟨j + 1, v, by omega, by go_num, rfl, by omega, HF.out, below2 HW2.out HB5.out⟩
          · have HF := Lib.hid (show v + 1 = 1 + votesF (s.take (j + 1)) xl by rw [HVT.out, if_pos (of_decide_eq_true HG.out.symm), HV.out]; omega)
            clear HG
            go_wp2_with fail
            go_roundg gj
            case measure => omega
            case rel => exact ⟨j + 1, v + 1, by omega, by go_num, by go_num, by omega, HF.out, below2 HW2.out HB5.out⟩
end Go.Proofs.Ytmnagkjdnmnbkaa.Fv
