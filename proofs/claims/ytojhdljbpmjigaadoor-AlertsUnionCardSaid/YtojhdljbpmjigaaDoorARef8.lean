/- The reference of layer 6: Encode. -/
import Derived.Test.YtojhdljbpmjigaaDoorARef7
namespace Go.Proofs.YtojhdljbpmjigaaDoor.Al
set_option linter.unusedVariables false
open Go.RowKit
open Go.Proofs.YtojhdljbpmjigaaDoor.W
open Go.Proofs.YtojhdljbpmjigaaDoor.V
open Go.Proofs.YtojhdljbpmjigaaDoor.O
open Go.Proofs.YtojhdljbpmjigaaDoor.Pb (Alr alrC alrsC len_alrsC alrsC_app alrsC_one alrsC_get alrsC_cell alrInfo step_append_alr reads_blk two_blk)
open Go.Lib (byteCells byteCells_length byteCells_append)

theorem flat_snoc {s : List Alr} {k : Nat} {x : Alr} (h : s[k]? = some x) : (s.take (k + 1)).flatMap enA = (s.take k).flatMap enA ++ enA x := by
  rw [take_snoc h, List.flatMap_append]
  simp
theorem out_bytes {w w' : World} {bs : List UInt8} {B : Nat} {v : Value} {e : Ending} (he : e = .returned v) (ho : w'.ownsRow B 5 1 v bs.length (byteCells bs)) (hb : Below w.heap.size w w') : OutByt w bs e w' := by
  obtain ⟨A, c, hv, hc, hr⟩ := SliceOf.of_own (base := B) (e := 5) (by rw [byteCells_length]; exact ho)
  rw [byteCells_length] at hv hc hr
  subst hv
  exact ⟨A, c, he, hc, hr, hb⟩
set_option maxRecDepth 1000000 in
set_option maxHeartbeats 4000000 in
theorem refEncodeS_any (num : Int) (l : List Int) (A E : Option Addr) (c cE B : Nat) (s : List Alr) (w : World) (h : VW w B num l A c) (hs : AS w B s E cE) (hB : B ≤ w.heap.size) :
    Calls Tryd.prog 23 #[.agg #[.int .i64 num, .slice A l.length c], .slice E s.length cE] w (OutByt w (encS K num l s)) := by
  have hb0 := (Below.refl w.heap.size w).alloc (Nat.le_refl _) (.cells #[.int .i64 num, .slice A l.length c] 24)
  have hz := Blk.new w 24 #[.int .i64 num, .slice A l.length c]
  have KV := Lib.hid (fun W (hW : Below w.heap.size w W) => refValidS_any num l A E c cE w.heap.size s W ((h.more hB).below hW) ((hs.more hB).below hW) hW.size)
  have RS := Lib.hid (fun W (hW : Below w.heap.size w W) => ((hs.more hB).below hW).rd)
  have OK := Lib.hid (fun (hk : okS K num l s = true) (x : Alr) (hx : x ∈ s) => okA_small ((okS_iff.1 hk).2.1 x hx) inj_K)
  have LN := Lib.hid (fun (hk : okS K num l s = true) => okS_len hk inj_K)
  have HE := Lib.hid (show encS K num l s = (if okS K num l s then enSet s else []) from rfl)
  obtain ⟨S, hS⟩ : ∃ S, S = encS K num l s := ⟨_, rfl⟩
  rw [← hS] at HE ⊢
  obtain ⟨n, hn⟩ : ∃ n, n = l.length := ⟨_, rfl⟩
  obtain ⟨m, hm⟩ : ∃ m, m = s.length := ⟨_, rfl⟩
  have HM := Lib.hid hm
  rw [← hn] at hb0 hz KV ⊢
  rw [← hm] at KV RS LN ⊢
  have B0 := Lib.hid hb0
  have Z1 := Lib.hid hz
  clear hb0 hz hn hm h hs hS
  go_enter Tryd.func23, Tryd.ntmps23
  go_upto_region 1 with fail
  generalize w.alloc (.cells #[.int .i64 num, .slice A n c] 24) = w0 at *
  have p0 := blk2 Z1.out
  cases hv : okS K num l s
  · have HS := Lib.hid (show S = [] by rw [HE.out, hv]; rfl)
    rw [hv] at KV
    clear OK LN HE hv
    go_wp2_with (go_at_call 19; (with_reducible refine (KV.out _ B0.out).mono ?_); rintro e w1 ⟨rfl, b1⟩)
    go_ret
    exact ⟨none, 0, by rw [HS.out]; rfl, by rw [HS.out]; exact Nat.le_refl _, by rw [HS.out]; exact Reads.none_, B0.out.trans (b1.mono B0.out.size)⟩
  have HS := Lib.hid (show S = enU m ++ s.flatMap enA by rw [HE.out, hv, HM.out]; rfl)
  have hm5 : m ≤ 5000 := LN.out hv
  have OK2 := Lib.hid (OK.out hv)
  rw [hv] at KV
  clear OK LN HE hv
  have wm : IntKind.u64.wrap (m : Int) = (m : Int) := by rw [IntKind.wrap_u64]; omega
  have C0 := Lib.hid (fun W => (refUint_any m W (by omega)).mono fun _ _ h => h.to (enU m) (enU m).length rfl rfl)
  have L0 := Lib.hid (enU_len (x := m) (by omega))
  go_wp2_with (first
    | (go_at_call 19; (with_reducible refine (KV.out _ B0.out).mono ?_); rintro e w1 ⟨rfl, b1⟩)
    | (go_at_call 46; (with_reducible refine (C0.out _).mono ?_); rintro e w2 ⟨A2, c2, rfl, hc2, ho2, hr2, b2⟩)
    | fail)
  have W2 := Lib.hid (W.bstep (B0.out.trans (b1.mono B0.out.size)) b2)
  have hw1 : w.heap.size ≤ w1.heap.size := by have := B0.out.size; have := b1.size; omega
  have HO2 := Lib.hid (own_base ho2 hw1)
  clear p0 b1 b2 hc2 ho2 hr2 KV C0 wm hw1
  go_loopg [5, 6] m (fun gk s5 s6 wr => ∃ (k : Nat) (P : List UInt8), k + gk = m ∧ s6 = .int .i64 k ∧ Hid (P = enU m ++ (s.take k).flatMap enA) ∧ P.length ≤ 10 + 20 * k ∧ Hid (wr.ownsRow w.heap.size 5 1 s5 P.length (byteCells P)) ∧ Hid (Below w.heap.size w wr))
  case atStart => exact ⟨0, enU m, by omega, rfl, by show _ = _; simp, by have := L0.out; omega, HO2.out, W2.out⟩
  case round =>
    obtain ⟨k, P, hkg, rfl, HP, hPl, HO, HW⟩ := hrel
    have hws := HW.out.size
    cases gk with
    | zero =>
      have hkz : ¬ ((k : Int) < (m : Int)) := by omega
      have hP : S = P := by rw [HS.out, HP.out, List.take_of_length_le (by have := HM.out; omega)]
      subst hP
      go_wp2_with fail
      go_ret
      exact out_bytes rfl HO.out HW.out
    | succ gk =>
      have hkz : (k : Int) < (m : Int) := by omega
      obtain ⟨x, hx⟩ : ∃ x, s[k]? = some x := ⟨_, List.getElem?_eq_getElem (by have := HM.out; omega)⟩
      obtain ⟨ad, rfl, -, -, x0, x1, x2, x3⟩ := alr_at (RS.out _ HW.out) hx
      obtain ⟨g0, g1, g2, g3⟩ := OK2.out x (List.mem_of_getElem? hx)
      have HX := Lib.hid hx
      have HF := Lib.hid (flat_snoc hx)
      obtain ⟨xv, xr, xo, xs⟩ := x
      dsimp only at g0 g1 g2 g3 x0 x1 x2 x3
      obtain ⟨sj, rfl⟩ : ∃ j : Nat, xs = (j : Int) := ⟨xs.toNat, by omega⟩
      obtain ⟨rg, rfl⟩ : ∃ j : Nat, xr = (j : Int) := ⟨xr.toNat, by omega⟩
      have HA := Lib.hid (show enA ⟨xv, (rg : Int), xo, (sj : Int)⟩ = enU sj ++ enU rg from by unfold enA; simp)
      have ws : IntKind.u64.wrap (sj : Int) = (sj : Int) := by rw [IntKind.wrap_u64]; omega
      have wr' : IntKind.u64.wrap (rg : Int) = (rg : Int) := by rw [IntKind.wrap_u64]; omega
      have l1 := enU_len (x := sj) (by omega)
      have l2 := enU_len (x := rg) (by omega)
      have C1 := Lib.hid (fun W => (refUint_any sj W (by omega)).mono fun _ _ h => h.to (enU sj) (enU sj).length rfl rfl)
      have C2 := Lib.hid (fun W => (refUint_any rg W (by omega)).mono fun _ _ h => h.to (enU rg) (enU rg).length rfl rfl)
      generalize enU sj = U1 at *
      generalize enU rg = U2 at *
      clear hx g0 g1 g2 g3
      go_wp2_with (first
        | (go_at_call 46; (with_reducible refine (C1.out _).mono ?_); rintro e w3 ⟨A3, c3, rfl, hc3, ho3, hr3, q3⟩; (have W3 := W.bstep HW.out q3); (have hs3 := W3.size))
        | (at_builtin; refine wp_append_bytes _ rfl (.tmp 21) (.tmp 28) rfl w.heap.size _ P U1 _ _ _ _ rfl (own_below HO.out q3) rfl hr3 (by omega) hs3 ?_; intro v4 w4 ho4 hb4; (have W4 := W3.trans hb4); (have hs4 := W4.size); obtain ⟨y0, y1, y2, y3⟩ := alr_at2 (RS.out w4 W4) HX.out)
        | (go_at_call 46; (with_reducible refine (C2.out _).mono ?_); rintro e w5 ⟨A5, c5, rfl, hc5, ho5, hr5, q5⟩; (have W5 := W.bstep W4 q5); (have hs5 := W5.size))
        | (at_builtin; refine wp_append_bytes _ rfl (.tmp 30) (.tmp 37) rfl w.heap.size _ (P ++ U1) U2 _ _ _ _ rfl (own_below ho4 q5) rfl hr5 (by simp; omega) hs5 ?_; intro v6 w6 ho6 hb6)
        | fail)
      have H6 := Lib.hid ho6
      have W6 := Lib.hid (W5.trans hb6)
      clear ho6 hb6 ho5 hr5 q5 ho4 hb4 ho3 hr3 q3 W5 W4 W3
      go_roundg gk
      case measure => omega
      case rel => exact ⟨k + 1, P ++ U1 ++ U2, by omega, by go_num, by rw [HF.out, HA.out, ← List.append_assoc, ← List.append_assoc, ← HP.out]; exact rfl, by simp; omega, H6.out, W6.out⟩
end Go.Proofs.YtojhdljbpmjigaaDoor.Al
