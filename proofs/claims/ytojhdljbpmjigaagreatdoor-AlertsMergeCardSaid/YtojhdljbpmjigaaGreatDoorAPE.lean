/- Package alerts: Encode. -/
import Derived.Test.YtojhdljbpmjigaaGreatDoorAP8
namespace Go.Proofs.YtojhdljbpmjigaaGreatDoor.Al
set_option linter.unusedVariables false
set_option linter.unusedSimpArgs false
open Go.RowKit
open Go.Proofs.YtojhdljbpmjigaaGreatDoor.W
open Go.Proofs.YtojhdljbpmjigaaGreatDoor.V
open Go.Proofs.YtojhdljbpmjigaaGreatDoor.O
open Go.Proofs.YtojhdljbpmjigaaGreatDoor.Pb (Alr alrC alrsC len_alrsC alrsC_app alrsC_one alrsC_get alrsC_cell alrInfo step_append_alr reads_blk two_blk)
open Go.Lib (byteCells byteCells_length byteCells_append)

set_option maxRecDepth 1000000 in
set_option maxHeartbeats 4000000 in
theorem alEncode_any (num : Int) (l : List Int) (A E : Option Addr) (c cE B : Nat) (s : List Alr) (w : World) (h : VW w B num l A c) (hs : AS w B s E cE) (hB : B ≤ w.heap.size) (ht : H.Tab w) :
    Calls Tryz.prog 15 #[.agg #[.int .i64 num, .slice A l.length c], .slice E s.length cE] w (OutByt w (encS K num l s)) := by
  have hb0 := (Below.refl w.heap.size w).alloc (Nat.le_refl _) (.cells #[.int .i64 num, .slice A l.length c] 24)
  have hz := Blk.new w 24 #[.int .i64 num, .slice A l.length c]
  have KV := Lib.hid (fun W (hW : Below w.heap.size w W) => alValid_any num l A E c cE w.heap.size s W ((h.more hB).below hW) ((hs.more hB).below hW) hW.size (ht.on hW))
  have RS := Lib.hid (fun W (hW : Below w.heap.size w W) => ((hs.more hB).below hW).rd)
  have OK := Lib.hid (fun (hk : okS K num l s = true) (x : Alr) (hx : x ∈ s) => okA_small ((okS_iff.1 hk).2.1 x hx) inj_K)
  have LN := Lib.hid (fun (hk : okS K num l s = true) => okS_len hk inj_K)
  have HE := Lib.hid (show encS K num l s = (if okS K num l s then enSet s else []) from rfl)
  obtain ⟨S, hS⟩ : ∃ S, S = encS K num l s := ⟨_, rfl⟩
  rw [← hS] at HE ⊢
  obtain ⟨n, hn⟩ : ∃ n, n = l.length := ⟨_, rfl⟩
  obtain ⟨m, hm⟩ : ∃ m, m = s.length := ⟨_, rfl⟩
  have HM := Lib.hid hm
  rw [← hn] at hb0 hz KV ⊢
  rw [← hm] at KV RS LN ⊢
  have B0 := Lib.hid hb0
  have Z1 := Lib.hid hz
  clear hb0 hz hn hm h hs hS ht
  go_enter Tryz.func15, Tryz.ntmps15
  go_upto_region 1 with fail
  generalize w.alloc (.cells #[.int .i64 num, .slice A n c] 24) = w0 at *
  have p0 := blk2 Z1.out
  cases hv : okS K num l s
  · have HS := Lib.hid (show S = [] by rw [HE.out, hv]; rfl)
    rw [hv] at KV
    clear OK LN HE hv
    go_wp2_with (go_at_call 16; (with_reducible refine (KV.out _ B0.out).mono ?_); rintro e w1 ⟨rfl, b1⟩)
    go_ret
    exact ⟨none, 0, by rw [HS.out]; rfl, by rw [HS.out]; exact Nat.le_refl _, by rw [HS.out]; exact Reads.none_, B0.out.trans (b1.mono B0.out.size)⟩
  have HS := Lib.hid (show S = enU m ++ s.flatMap enA by rw [HE.out, hv, HM.out]; rfl)
  have hm5 : m ≤ 5000 := LN.out hv
  have OK2 := Lib.hid (OK.out hv)
  rw [hv] at KV
  clear OK LN HE hv
  have wm : IntKind.u64.wrap (m : Int) = (m : Int) := by rw [IntKind.wrap_u64]; omega
  have CU := Lib.hid (fun (x : Nat) (hx : x < 18446744073709551616) W => (show Calls Tryz.prog 33 #[.slice none 0 0, .int .u64 (x : Int)] W (OwnPost W.heap.size W ([] ++ enU x)) from AppendUint_any none 0 [] x W Reads.none_ (by simp) hx).mono fun _ _ h => h.to (enU x) (enU x).length (by simp) rfl)
  have C0 := Lib.hid (fun W => CU.out m (by omega) W)
  have L0 := Lib.hid (enU_len (x := m) (by omega))
  go_wp2_with (first
    | (go_at_call 16; (with_reducible refine (KV.out _ B0.out).mono ?_); rintro e w1 ⟨rfl, b1⟩)
    | (go_at_call 33; (with_reducible refine (C0.out _).mono ?_); rintro e w2 ⟨A2, c2, rfl, hc2, ho2, hr2, b2⟩)
    | fail)
  have W2 := Lib.hid (W.bstep (B0.out.trans (b1.mono B0.out.size)) b2)
  have hw1 : w.heap.size ≤ w1.heap.size := by have := B0.out.size; have := b1.size; omega
  have HO2 := Lib.hid (own_base ho2 hw1)
  clear p0 b1 b2 hc2 ho2 hr2 KV C0 wm hw1
  go_loopg [5, 7, 8, 19] m (fun gk s5 _ _ s19 wr => ∃ (k : Nat) (P : List UInt8), k + gk = m ∧ s19 = .int .i64 k ∧ Hid (P = enU m ++ (s.take k).flatMap enA) ∧ P.length ≤ 10 + 20 * k ∧ Hid (wr.ownsRow w.heap.size 5 1 s5 P.length (byteCells P)) ∧ Hid (Below w.heap.size w wr))
  case atStart => exact ⟨0, enU m, by omega, rfl, by show _ = _; simp, by have := L0.out; omega, HO2.out, W2.out⟩
  case round =>
    obtain ⟨k, P, hkg, rfl, HP, hPl, HO, HW⟩ := hrel
    have hws := HW.out.size
    cases gk with
    | zero =>
      have hkz : ¬ ((k : Int) < (m : Int)) := by omega
      have hP : S = P := by rw [HS.out, HP.out, List.take_of_length_le (by have := HM.out; omega)]
      subst hP
      go_wp2_with fail
      go_ret
      exact out_bytes rfl HO.out HW.out
    | succ gk =>
      have hkz : (k : Int) < (m : Int) := by omega
      obtain ⟨x, hx⟩ : ∃ x, s[k]? = some x := ⟨_, List.getElem?_eq_getElem (by have := HM.out; omega)⟩
      obtain ⟨ad, rfl, -, -, x0, x1, x2, x3⟩ := alr_at (RS.out _ HW.out) hx
      obtain ⟨g0, g1, g2, g3⟩ := OK2.out x (List.mem_of_getElem? hx)
      have HX := Lib.hid hx
      have HF := Lib.hid (flat_snoc hx)
      obtain ⟨xv, xr, xo, xs⟩ := x
      dsimp only at g0 g1 g2 g3 x0 x1 x2 x3
      obtain ⟨sj, rfl⟩ : ∃ j : Nat, xs = (j : Int) := ⟨xs.toNat, by omega⟩
      obtain ⟨rg, rfl⟩ : ∃ j : Nat, xr = (j : Int) := ⟨xr.toNat, by omega⟩
      have HA := Lib.hid (show enA ⟨xv, (rg : Int), xo, (sj : Int)⟩ = enU sj ++ enU rg from by unfold enA; simp)
      have ws : IntKind.u64.wrap (sj : Int) = (sj : Int) := by rw [IntKind.wrap_u64]; omega
      have wr' : IntKind.u64.wrap (rg : Int) = (rg : Int) := by rw [IntKind.wrap_u64]; omega
      have l1 := enU_len (x := sj) (by omega)
      have l2 := enU_len (x := rg) (by omega)
      have C1 := Lib.hid (fun W => CU.out sj (by omega) W)
      have C2 := Lib.hid (fun A3 c3 n1 W (hr : Reads W W.heap.size 1 A3 n1 (byteCells (enU sj))) => appendUint_at (c := c3) hr (by omega) (show rg < 18446744073709551616 by omega) _ rfl)
      have hzx := Blk.new wr 38 #[.int .i64 xv, .int .i64 (rg : Int), .int .i64 xo, .int .i64 (sj : Int)]
      have hbx := HW.out.alloc hws (.cells #[.int .i64 xv, .int .i64 (rg : Int), .int .i64 xo, .int .i64 (sj : Int)] 38)
      have hox := HO.out.alloc (.cells #[.int .i64 xv, .int .i64 (rg : Int), .int .i64 xo, .int .i64 (sj : Int)] 38)
      generalize enU sj = U1 at *
      generalize enU rg = U2 at *
      obtain ⟨n1, hn1⟩ : ∃ q, q = U1.length := ⟨_, rfl⟩
      obtain ⟨n2, hn2⟩ : ∃ q, q = (U1 ++ U2).length := ⟨_, rfl⟩
      have HN2 := Lib.hid (show n2 ≤ 20 by rw [hn2, List.length_append]; omega)
      have HU2 := Lib.hid hn2
      rw [← hn1] at C1
      rw [← hn2] at C2
      clear hx g0 g1 g2 g3 hn1 hn2 l1 l2
      go_upto_region 7 with fail
      generalize wr.alloc (.cells #[.int .i64 xv, .int .i64 (rg : Int), .int .i64 xo, .int .i64 (sj : Int)] 38) = w5 at *
      have Z5 := Lib.hid hzx
      have B5 := Lib.hid hbx
      have HO5 := Lib.hid hox
      have p5 := blk4 hzx
      clear hzx hbx hox x0 x1 x2 x3
      go_wp2_with (first
        | (go_at_call 33; (with_reducible refine (C1.out _).mono ?_); rintro e w6 ⟨A3, c3, rfl, hc3, ho3, hr3, q3⟩; (have p6 := blk4 (Z5.out.below q3 Z5.out.lt)))
        | (go_at_call 33; (with_reducible refine (C2.out _ _ _ _ hr3).mono ?_); rintro e w7 ⟨A5, c5, rfl, hc5, ho5, hr5, q5⟩; (have b7 := W.bstep q3 q5))
        | (at_builtin; go_loud (refine wp_append_bytes _ rfl (.tmp 27) (.tmp 32) rfl w.heap.size _ P (U1 ++ U2) _ _ _ _ rfl (own_below HO5.out b7) rfl hr5 (by have := HN2.out; have := HU2.out; omega) (by have := B5.out.size; have := b7.size; omega) ?_; intro v8 w8 ho8 hb8))
        | fail)
      have H8 := Lib.hid ho8
      have W8 := Lib.hid ((W.bstep B5.out b7).trans hb8)
      clear ho8 hb8 ho5 hr5 q5 ho3 hr3 q3 b7 p6 p5
      go_roundg gk
      case measure => omega
      case rel => exact ⟨k + 1, P ++ (U1 ++ U2), by omega, by go_num, (by show _ = _; rw [HF.out, HA.out, HP.out, List.append_assoc]), (by have := HN2.out; rw [HU2.out] at this; rw [List.length_append]; omega), H8.out, W8.out⟩
end Go.Proofs.YtojhdljbpmjigaaGreatDoor.Al
