/- Package fastvote: Winner, Undecidable. -/
import Derived.Test.YtmnagkjdnmnbkaaFP3
namespace Go.Proofs.Ytmnagkjdnmnbkaa.Fv
set_option linter.unusedVariables false
set_option linter.unusedSimpArgs false
open Go.RowKit
open Go.Proofs.Ytmnagkjdnmnbkaa.W
open Go.Proofs.Ytmnagkjdnmnbkaa.V

set_option maxRecDepth 1000000 in
set_option maxHeartbeats 8000000 in
theorem fvWinner_any (num : Int) (l : List Int) (A E : Option Addr) (c cE B : Nat) (ps : List Pbl) (w : World) (h : VW w B num l A c) (hs : BS w B ps E cE) (hB : B ≤ w.heap.size) (hm : ps.length ≤ 1000000) :
    Calls Try.prog 16 #[.agg #[.int .i64 num, .slice A l.length c], .slice E ps.length cE] w (OutWn w ((winF num l (ps.map Pbl.bal)).getD []) ((winF num l (ps.map Pbl.bal)).getD []).length (winF num l (ps.map Pbl.bal)).isSome) := by
  have hb0 := (Below.refl w.heap.size w).alloc (Nat.le_refl _) (.cells #[.int .i64 num, .slice A l.length c] 24)
  have hz := Blk.new w 24 #[.int .i64 num, .slice A l.length c]
  have KV := Lib.hid (fun W (hW : Below w.heap.size w W) => fvValid_any num l A E c cE w.heap.size ps W ((h.more hB).below hW) ((hs.more hB).below hW) hW.size)
  have KL := Lib.hid (fun W (hW : Below w.heap.size w W) => fvLead_any E cE W.heap.size ps W (((hs.more hB).below hW).more hW.size) (Nat.le_refl _) hm)
  have KF := Lib.hid (fun W => viewFast_any (l.length : Int) W ⟨by omega, by have := h.l40; omega⟩)
  have HF64 := fast_64 l.length h.l40
  obtain ⟨s, hs'⟩ : ∃ s, s = ps.map Pbl.bal := ⟨_, rfl⟩
  rw [← hs'] at KV KL ⊢
  have HSL := Lib.hid (show s.length = ps.length by rw [hs', List.length_map])
  have WY := Lib.hid (fun cut m (h : Lead s s.length cut m) => h.win (num := num) (l := l))
  have WN := Lib.hid (fun cut m (h : Lead s s.length cut m) => h.nowin (num := num) (l := l))
  obtain ⟨R, hR⟩ : ∃ R, R = winF num l s := ⟨_, rfl⟩
  have HR0 := Lib.hid (show okB num l s = false → R = none by intro h; rw [hR]; unfold winF; rw [if_neg (by rw [h]; decide)])
  rw [← hR] at WY WN ⊢
  have ND := Lib.hid (fun w' e hR he hb => outWn_no (w := w) (w' := w') (R := R) (e := e) hR he hb)
  have YD := Lib.hid (fun S X cX k w' e hR hk he ho hb => outWn_yes (w := w) (w' := w') (R := R) (S := S) (X := X) (cX := cX) (k := k) (e := e) hR hk he ho hb)
  obtain ⟨Q, hQ⟩ : ∃ Q, Q = OutWn w (R.getD []) (R.getD []).length R.isSome := ⟨_, rfl⟩
  rw [← hQ] at ND YD ⊢
  obtain ⟨fq, hfq⟩ : ∃ q, q = fastQ (l.length : Int) := ⟨_, rfl⟩
  rw [← hfq] at KF HF64 WY WN
  obtain ⟨⟨f1, f2⟩, f3, f4⟩ := HF64
  obtain ⟨n, hn⟩ : ∃ n, n = l.length := ⟨_, rfl⟩
  obtain ⟨ns, hns⟩ : ∃ n, n = ps.length := ⟨_, rfl⟩
  rw [← hn] at hb0 hz KV KF ⊢
  rw [← hns] at KV KL hm HSL ⊢
  have B0 := Lib.hid hb0
  have Z1 := Lib.hid hz
  clear hb0 hz hn hns hR hQ hfq h hs hB hs'
  go_enter Try.func16, Try.ntmps16
  go_upto_region 1 with fail
  generalize w.alloc (.cells #[.int .i64 num, .slice A n c] 24) = w0 at *
  have FB := Lib.hid (fun W (hW : Below w0.heap.size w0 W) => (blk2 (Z1.out.below hW Z1.out.lt)))
  obtain ⟨p0, p1⟩ := FB.out _ (Below.refl _ _)
  cases hv : okB num l s
  · have HN := Lib.hid (HR0.out hv)
    rw [hv] at KV
    clear hv
    go_wp2_with (first
      | (go_at_call 12; (with_reducible refine (KV.out _ B0.out).mono ?_); rintro e w1 ⟨rfl, q1⟩)
      | fail)
    try go_ret2
    exact ND.out _ _ HN.out rfl (below2 B0.out q1)
  have OK := Lib.hid hv
  rw [hv] at KV
  clear hv
  go_upto_region 4 with (first
    | (go_at_call 12; (with_reducible refine (KV.out _ B0.out).mono ?_); rintro e w1 ⟨rfl, q1⟩; (have c1 := below2 B0.out q1))
    | (go_at_call 36; (with_reducible refine (KL.out _ c1).mono ?_); rintro e w2 ⟨C, cC, nC, m, cut, rfl, hnC, hLS, hLD, hml, q2⟩; (have HNC := Lib.hid hnC); clear hnC)
    | fail)
  have C2 := Lib.hid (below2 c1 q2)
  obtain ⟨p0, p1⟩ := FB.out _ (below2 q1 q2)
  have HLS := Lib.hid hLS
  have HLD := Lib.hid hLD
  clear hLS hLD hml c1 q1 q2
  by_cases hq : fq ≤ (m : Int)
  · have hq2 : ¬ (m : Int) < fq := by omega
    obtain ⟨hw, hc⟩ := WY.out cut m HLD.out OK.out hq
    have HWI := Lib.hid hw
    have KC := Lib.hid (fun W (hW : Below w2.heap.size w2 W) => clone_any C cC w2.heap.size nC cut W HNC.out (HLS.out.below hW) hW.size (by rw [HNC.out]; exact hc))
    clear hw hc hq
    go_wp2_with (first
      | (go_at_call 37; (with_reducible refine (KF.out _).mono ?_); rintro e w3 ⟨rfl, q3⟩)
      | (go_at_call 29; (with_reducible refine (KC.out _ q3).mono ?_); rintro e w4 ⟨A4, c4, rfl, h4, -, q4⟩)
      | fail)
    try go_ret2
    exact YD.out cut A4 c4 nC _ _ HWI.out HNC.out rfl h4 (below2 C2.out (below2 q3 q4))
  · have hq2 : (m : Int) < fq := by omega
    have HN := Lib.hid (WN.out cut m HLD.out hq2)
    clear hq
    go_wp2_with (first
      | (go_at_call 37; (with_reducible refine (KF.out _).mono ?_); rintro e w3 ⟨rfl, q3⟩)
      | fail)
    try go_ret2
    exact ND.out _ _ HN.out rfl (below2 C2.out q3)

set_option maxRecDepth 1000000 in
set_option maxHeartbeats 8000000 in
theorem fvUnd_any (num : Int) (l : List Int) (A E : Option Addr) (c cE B : Nat) (ps : List Pbl) (w : World) (h : VW w B num l A c) (hs : BS w B ps E cE) (hB : B ≤ w.heap.size) (hm : ps.length ≤ 1000000) :
    Calls Try.prog 20 #[.agg #[.int .i64 num, .slice A l.length c], .slice E ps.length cE] w (PB w (undF num l (ps.map Pbl.bal))) := by
  have hb0 := (Below.refl w.heap.size w).alloc (Nat.le_refl _) (.cells #[.int .i64 num, .slice A l.length c] 24)
  have hz := Blk.new w 24 #[.int .i64 num, .slice A l.length c]
  have KV := Lib.hid (fun W (hW : Below w.heap.size w W) => fvValid_any num l A E c cE w.heap.size ps W ((h.more hB).below hW) ((hs.more hB).below hW) hW.size)
  have KL := Lib.hid (fun W (hW : Below w.heap.size w W) => fvLead_any E cE W.heap.size ps W (((hs.more hB).below hW).more hW.size) (Nat.le_refl _) hm)
  have KF := Lib.hid (fun W => viewFast_any (l.length : Int) W ⟨by omega, by have := h.l40; omega⟩)
  have HF64 := fast_64 l.length h.l40
  have hl40 := h.l40
  obtain ⟨s, hs'⟩ : ∃ s, s = ps.map Pbl.bal := ⟨_, rfl⟩
  rw [← hs'] at KV KL ⊢
  have HSL := show s.length = ps.length by rw [hs', List.length_map]
  obtain ⟨t, ht⟩ : ∃ t, t = undF num l s := ⟨_, rfl⟩
  obtain ⟨fq, hfq⟩ : ∃ q, q = fastQ (l.length : Int) := ⟨_, rfl⟩
  have HT := Lib.hid (show t = (okB num l s && decide ((mostI s s 0 : Int) + (l.length : Int) - (ps.length : Int) < fq)) by rw [ht, ← HSL, hfq]; rfl)
  rw [← ht]
  rw [← hfq] at KF HF64
  obtain ⟨⟨f1, f2⟩, f3, f4⟩ := HF64
  obtain ⟨n, hn⟩ : ∃ n, n = l.length := ⟨_, rfl⟩
  obtain ⟨ns, hns⟩ : ∃ n, n = ps.length := ⟨_, rfl⟩
  rw [← hn] at hb0 hz KV KF HT hl40 ⊢
  rw [← hns] at KV KL hm HSL HT ⊢
  have B0 := Lib.hid hb0
  have Z1 := Lib.hid hz
  have SL := Lib.hid HSL
  clear hb0 hz hn hns ht hfq h hs hB hs' HSL
  go_enter Try.func20, Try.ntmps20
  go_upto_region 1 with fail
  generalize w.alloc (.cells #[.int .i64 num, .slice A n c] 24) = w0 at *
  have FB := Lib.hid (fun W (hW : Below w0.heap.size w0 W) => (blk2 (Z1.out.below hW Z1.out.lt)))
  obtain ⟨p0, p1⟩ := FB.out _ (Below.refl _ _)
  cases hv : okB num l s
  · have HN := Lib.hid (show t = false by rw [HT.out, hv]; rfl)
    rw [hv] at KV
    clear hv HT
    go_wp2_with (first
      | (go_at_call 12; (with_reducible refine (KV.out _ B0.out).mono ?_); rintro e w1 ⟨rfl, q1⟩)
      | fail)
    go_ret
    exact ⟨by rw [HN.out]; rfl, below2 B0.out q1⟩
  rw [hv] at KV HT
  clear hv
  go_upto_region 4 with (first
    | (go_at_call 12; (with_reducible refine (KV.out _ B0.out).mono ?_); rintro e w1 ⟨rfl, q1⟩; (have c1 := below2 B0.out q1))
    | (go_at_call 36; (with_reducible refine (KL.out _ c1).mono ?_); rintro e w2 ⟨C, cC, nC, m, cut, rfl, hnC, hLS, hLD, hml, q2⟩; (have HNC := Lib.hid hnC); clear hnC)
    | fail)
  have C2 := Lib.hid (below2 c1 q2)
  obtain ⟨p0, p1⟩ := FB.out _ (below2 q1 q2)
  have hm5 : m ≤ 1000000 := by have := SL.out; omega
  obtain ⟨d, hd⟩ : ∃ d : Int, d = (n : Int) - (ns : Int) := ⟨_, rfl⟩
  obtain ⟨z, hz⟩ : ∃ z : Int, z = (m : Int) + d := ⟨_, rfl⟩
  have w1' : IntKind.i64.wrap ((n : Int) - (ns : Int)) = d := by rw [IntWalk.i64_in _ (by omega)]; omega
  have w2' : IntKind.i64.wrap ((m : Int) + d) = z := by rw [IntWalk.i64_in _ (by omega)]; omega
  have HF := Lib.hid (show t = decide (z < fq) by
    rw [HT.out, hLD.most, Bool.true_and]
    rw [show (m : Int) + (n : Int) - (ns : Int) = z by omega])
  clear hLS hLD hml c1 q1 q2 hd hz HT
  generalize hdz : decide (z < fq) = dz at *
  go_wp2_with (first
    | (go_at_call 37; (with_reducible refine (KF.out _).mono ?_); rintro e w3 ⟨rfl, q3⟩)
    | fail)
  go_ret
  exact ⟨by rw [HF.out, ← hdz]; rfl, below2 C2.out q3⟩
end Go.Proofs.Ytmnagkjdnmnbkaa.Fv
