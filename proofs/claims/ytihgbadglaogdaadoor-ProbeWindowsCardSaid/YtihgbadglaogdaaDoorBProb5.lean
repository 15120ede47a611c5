/- Package probe: Valid. -/
import Derived.Test.YtihgbadglaogdaaDoorBProb4
namespace Go.Proofs.YtihgbadglaogdaaDoor.Pb
set_option linter.unusedVariables false
open Go.RowKit Go.Sort Go.Lib
open Go.Proofs.YtihgbadglaogdaaDoor.W
open Go.Proofs.YtihgbadglaogdaaDoor.V
open Go.Proofs.YtihgbadglaogdaaDoor.O

set_option maxRecDepth 1000000 in
set_option maxHeartbeats 4000000 in
theorem probeOkD_any (me num : Int) (A E : Option Addr) (c cE B : Nat) (l : List Int) (es : List Edge) (w : World) (h : DW w B me num l A c es E cE) (hB : B ≤ w.heap.size) (hT : H.Tab w) :
    Calls Tryd.prog 22 #[detV me num A l.length c (.slice E es.length cE)] w (PB w (okD K num l me es)) := by
  have hb0 := (Below.refl w.heap.size w).alloc (Nat.le_refl _) (.cells #[.int .i64 me, .int .i64 num, .slice A l.length c, .slice E es.length cE] 34)
  have hz := Blk.new w 34 #[.int .i64 me, .int .i64 num, .slice A l.length c, .slice E es.length cE]
  have hd := (h.more hB).below hb0
  have KN := Lib.hid (probeNew_any me num A c w.heap.size l (w.alloc (.cells #[.int .i64 me, .int .i64 num, .slice A l.length c, .slice E es.length cE] 34)) hd.vw (by simp) h.me64 (hT.on hb0))
  have HT := Lib.hid (show okD K num l me es = (okN num l me && fitE (newE K l me) es) from rfl)
  have HB0 := Lib.hid hb0
  have HZ := Lib.hid hz
  have HD := Lib.hid hd
  have HEL := Lib.hid h.el
  have hl40 := h.l40
  generalize okD K num l me es = t at *
  clear h hb0 hz hd hT
  dsimp only [detV, vwV] at *
  obtain ⟨ne, hne⟩ : ∃ n, n = es.length := ⟨_, rfl⟩
  have HNE := Lib.hid hne
  rw [← hne] at HZ KN HB0 HD hl40 ⊢
  clear hne
  cases hok : okN num l me
  · have ht := Lib.hid (show t = false by rw [HT.out, hok]; rfl)
    have HOK := Lib.hid hok
    have e0 : ((1 : Int) == 0) = false := rfl
    clear hok
    go_enter Tryd.func22, Tryd.ntmps22
    go_wp2_with (go_at_call 17; (with_reducible refine KN.out.mono ?_); rintro e w1 hp; obtain rfl := hp.no HOK.out; (have b1 := hp.bel); dsimp only [zeroD])
    go_ret
    exact ⟨by rw [ht.out]; rfl, (HB0.out.trans (b1.mono (by simp))).alloc (by have := HB0.out.size; have := b1.size; omega) _⟩
  have HOK := Lib.hid hok
  have HT2 := Lib.hid (show t = fitE (newE K l me) es by rw [HT.out, hok]; rfl)
  have hN5 := len_newE K l me
  generalize hN : newE K l me = N at *
  have HN := Lib.hid hN
  obtain ⟨nn, hnn⟩ : ∃ n, n = N.length := ⟨_, rfl⟩
  have HNN := Lib.hid hnn
  rw [← hnn] at hN5
  clear hok hnn hN HT
  have arm : ∀ {e : Ending} {w1 : World}, NewPF (w.alloc (.cells #[.int .i64 me, .int .i64 num, .slice A l.length c, .slice E ne cE] 34)) me num l e w1 →
      ∃ g c' AN cN, e = .returned (.tuple #[.agg #[.int .i64 me, .int .i64 num, .slice (some ⟨g, 0, none⟩) l.length c', .slice AN nn cN], .int .i64 0]) ∧ Reads w1 w1.heap.size 6 AN nn (edgesC N) ∧ Below (w.alloc (.cells #[.int .i64 me, .int .i64 num, .slice A l.length c, .slice E ne cE] 34)).heap.size (w.alloc (.cells #[.int .i64 me, .int .i64 num, .slice A l.length c, .slice E ne cE] 34)) w1 := by
    intro e w1 hp
    obtain ⟨g, c', E', rfl, -, -, ho⟩ := hp.yes HOK.out
    rw [HN.out] at ho
    obtain ⟨AN, cN, rfl, h1, h2⟩ := ho.open_
    rw [← HNN.out] at h2 ⊢
    exact ⟨g, c', AN, cN, rfl, h2, hp.bel⟩
  go_enter Tryd.func22, Tryd.ntmps22
  go_upto_region 2 with (go_at_call 17; (with_reducible refine KN.out.mono ?_); rintro e w1 hp; obtain ⟨g, c', AN, cN, rfl, hrN, b1⟩ := arm hp)
  have hW1 : Below w.heap.size w w1 := HB0.out.trans (b1.mono (by simp))
  have hZ1 := HZ.out.below b1 HZ.out.lt
  have hRE := ((HD.out.rd.below (b1.mono (by simp))).more hW1.size)
  rw [← HNE.out] at hRE
  obtain ⟨W2, hW2⟩ : ∃ W, W = w1.alloc (.cells #[.int .i64 me, .int .i64 num, .slice (some ⟨g, 0, none⟩) l.length c', .slice AN nn cN] 34) := ⟨_, rfl⟩
  rw [← hW2]
  have hs2 : w1.heap.size < W2.heap.size := by rw [hW2]; simp
  have hb12 : Below w1.heap.size w1 W2 := by rw [hW2]; exact (Below.refl _ _).alloc (Nat.le_refl _) _
  have hgn : Blk W2 w1.heap.size 34 #[.int .i64 me, .int .i64 num, .slice (some ⟨g, 0, none⟩) l.length c', .slice AN nn cN] := by rw [hW2]; exact Blk.new _ _ _
  have hgz : Blk W2 w.heap.size 34 #[.int .i64 me, .int .i64 num, .slice A l.length c, .slice E ne cE] := by rw [hW2]; exact hZ1.alloc _
  have RN := (hrN.below hb12).more (Nat.le_of_lt hs2)
  have RE := (hRE.below hb12).more (Nat.le_of_lt hs2)
  have FB := Lib.hid (hW1.trans (hb12.mono hW1.size))
  have KE := Lib.hid (equalF_any E AN ne nn cE cN es N W2 RE RN HNE.out HNN.out HEL.out hN5)
  rw [← HT2.out] at KE
  have n3 := hgn.cell 3
  have z3 := hgz.cell 3
  have e0 : ((0 : Int) == 0) = true := rfl
  clear hrN hgn hgz hb12 hW2 hZ1 hRE b1 KN arm HD HZ HB0 RN RE
  go_wp2_with (go_at_call 38; (with_reducible refine KE.out.mono ?_); rintro e w3 ⟨rfl, b3⟩)
  go_ret
  exact ⟨rfl, FB.out.trans (b3.mono FB.out.size)⟩
theorem len_fit {num : Int} {l : List Int} {me : Int} {es : List Edge} (h : okD K num l me es = true) : 1 ≤ l.length ∧ (es.length = 0 ∨ es.length = 5) := by
  unfold okD at h
  rw [Bool.and_eq_true] at h
  refine ⟨ok_pos h.1, ?_⟩
  have h1 := fitE_len h.2
  have h2 : ∀ (l : List Int) (r : Int), (mkE r l).length = l.length := by
    intro l
    induction l with
    | nil => intro r; rfl
    | cons x t ih => intro r; simp [mkE, ih]
  have h3 : (newE K l me).length = 0 ∨ (newE K l me).length = 5 := by
    unfold newE
    rw [h2]
    unfold subL
    split
    · right; simp [rings]
    · left; rfl
  omega
end Go.Proofs.YtihgbadglaogdaaDoor.Pb
