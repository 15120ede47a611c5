/- Package cut: leavers. -/
import Derived.Test.YtipipjbpjpdcbaaDoorCP1
namespace Go.Proofs.YtipipjbpjpdcbaaDoor.Ct
set_option linter.unusedVariables false
set_option linter.unusedSimpArgs false
open Go.RowKit
open Go.Proofs.YtipipjbpjpdcbaaDoor.W
open Go.Proofs.YtipipjbpjpdcbaaDoor.V
open Go.Proofs.YtipipjbpjpdcbaaDoor.O
open Go.Proofs.YtipipjbpjpdcbaaDoor.Pb (Alr alrsC len_alrsC reads_blk)
open Go.Proofs.YtipipjbpjpdcbaaDoor.Al

theorem leav_snoc {l : List Int} {T : List Tly} {k : Nat} {x : Tly} (h : T[k]? = some x) : leavL l (T.take (k + 1)) = leavL l (T.take k) ++ (if decide (2 ≤ x.expl) && hasB l x.subj then [x.subj] else []) := by
  unfold leavL
  rw [List.take_add_one, h, List.filter_append, List.map_append]
  congr 1
  by_cases hc : (decide (2 ≤ x.expl) && hasB l x.subj) = true
  · simp [hc]
  · simp only [Bool.not_eq_true] at hc
    simp [hc]
theorem leav_len {l : List Int} {T : List Tly} : (leavL l T).length ≤ T.length := by
  unfold leavL
  rw [List.length_map]
  exact List.length_filter_le _ _
theorem leav_el {l : List Int} {T : List Tly} {x : Int} (h : x ∈ leavL l T) : ∃ t ∈ T, t.subj = x := by
  unfold leavL at h
  obtain ⟨t, ht, rfl⟩ := List.mem_map.1 h
  exact ⟨t, (List.mem_filter.1 ht).1, rfl⟩
set_option maxRecDepth 1000000 in
set_option maxHeartbeats 8000000 in
theorem cutLeavers_any (num : Int) (l : List Int) (A At : Option Addr) (c ct B : Nat) (T : List Tly) (w : World) (h : VW w B num l A c) (hT : Reads w B 3 At T.length (tlysC T)) (hB : B ≤ w.heap.size) (hm : T.length ≤ 100000) (hel : ∀ t ∈ T, In64 t.subj) :
    Calls Tryd.prog 30 #[.agg #[.int .i64 num, .slice A l.length c], .slice At T.length ct] w (OwnI w (leavL l T)) := by
  have hb0 := (Below.refl w.heap.size w).alloc (Nat.le_refl _) (.cells #[.int .i64 num, .slice A l.length c] 24)
  have hz := Blk.new w 24 #[.int .i64 num, .slice A l.length c]
  have KC := Lib.hid (fun (x : Int) W (hW : Below w.heap.size w W) => viewContains_any A c w.heap.size l x W ⟨((h.more hB).below hW).rd, h.l40, h.el, h.cap⟩ hW.size)
  have KS := Lib.hid (fun (x : Int) (e i : Nat) W => cutIsSuspect_any x e i W)
  have RT := Lib.hid (fun W (hW : Below w.heap.size w W) => (hT.more hB).below hW)
  obtain ⟨n, hn⟩ : ∃ n, n = l.length := ⟨_, rfl⟩
  obtain ⟨nt, hnt⟩ : ∃ n, n = T.length := ⟨_, rfl⟩
  have HN := Lib.hid hnt
  rw [← hn] at hb0 hz KC ⊢
  rw [← hnt] at RT hm ⊢
  clear hn hnt h hT hel
  have B0 := Lib.hid hb0
  have Z1 := Lib.hid hz
  clear hb0 hz
  go_enter Tryd.func30, Tryd.ntmps30
  go_upto_region 1 with fail
  generalize w.alloc (.cells #[.int .i64 num, .slice A n c] 24) = w0 at *
  have FB := Lib.hid (fun W (hW : Below w0.heap.size w0 W) => (blk2 (Z1.out.below hW Z1.out.lt)))
  go_wp2_with fail
  go_loopg [5, 7, 10] nt (fun gk s5 _ s10 wr => ∃ k : Nat, k + gk = nt ∧ s10 = .int .i64 k ∧ Hid (Below w0.heap.size w0 wr) ∧ Hid (wr.ownsRow w0.heap.size 3 1 s5 (leavL l (T.take k)).length ((leavL l (T.take k)).map intV)))
  case atStart => exact ⟨0, by omega, rfl, Below.refl _ _, World.ownsRow_nil _ _ _ _⟩
  case round =>
    obtain ⟨k, hkg, rfl, HW, HO⟩ := hrel
    have BW := Lib.hid (B0.out.trans (HW.out.mono B0.out.size))
    have hws := BW.out.size
    cases gk with
    | zero =>
      have hkz : ¬ ((k : Int) < (nt : Int)) := by omega
      have HK := Lib.hid (show T.take k = T from List.take_of_length_le (by have := HN.out; omega))
      rw [HK.out] at HO
      go_wp2_with fail
      go_ret
      exact ⟨_, rfl, own_base HO.out B0.out.size, BW.out⟩
    | succ gi =>
      have hkz : (k : Int) < (nt : Int) := by omega
      have hk0 : ¬ (k : Int) < 0 := by omega
      obtain ⟨x, hx⟩ : ∃ x, T[k]? = some x := ⟨_, List.getElem?_eq_getElem (by have := HN.out; omega)⟩
      obtain ⟨ad, rfl, -, -, y0, y1, y2⟩ := tly_at (RT.out _ BW.out) hx
      have HS := Lib.hid (leav_snoc (l := l) hx)
      have LL := Lib.hid (show (leavL l (T.take k)).length ≤ k from Nat.le_trans leav_len (by rw [List.length_take]; omega))
      obtain ⟨xs, xe, xi⟩ := x
      dsimp only at *
      generalize leavL l (T.take k) = P at *
      have hzx := Blk.new wr 31 #[.int .i64 xs, .int .i64 (xe : Int), .int .i64 (xi : Int)]
      have hbx := HW.out.alloc HW.out.size (.cells #[.int .i64 xs, .int .i64 (xe : Int), .int .i64 (xi : Int)] 31)
      have hox := HO.out.alloc (.cells #[.int .i64 xs, .int .i64 (xe : Int), .int .i64 (xi : Int)] 31)
      clear hx
      go_upto_region 5 with fail
      generalize hw5 : wr.alloc (.cells #[.int .i64 xs, .int .i64 (xe : Int), .int .i64 (xi : Int)] 31) = w5 at *
      clear hw5 y0 y1 y2
      have Z5 := Lib.hid hzx
      have B5 := Lib.hid hbx
      have V5 := Lib.hid (B0.out.trans (hbx.mono B0.out.size))
      have HO5 := Lib.hid hox
      have F5 := Lib.hid (fun W (hW : Below w5.heap.size w5 W) => And.intro (FB.out W (B5.out.trans (hW.mono B5.out.size))) (blk3 (Z5.out.below hW Z5.out.lt)))
      have p5 := F5.out w5 (Below.refl _ _)
      clear hbx hox hzx
      have KX := Lib.hid (fun W (hW : Below w5.heap.size w5 W) => KC.out xs W (V5.out.trans (hW.mono V5.out.size)))
      have KY := Lib.hid (fun W => KS.out xs xe xi W)
      clear KC KS
      cases hd : decide (2 ≤ xe)
      · rw [hd] at KY HS
        have HS2 := Lib.hid (show leavL l (T.take (k + 1)) = P by rw [HS.out]; simp)
        clear hd HS KX
        go_wp2_with (go_at_call 31; (with_reducible refine (KY.out _).mono ?_); rintro e w6 ⟨rfl, b6⟩; (have p6 := F5.out _ b6))
        go_roundg gi
        case measure => omega
        case rel => exact ⟨k + 1, by omega, by go_num, B5.out.trans (b6.mono B5.out.size), by rw [HS2.out]; exact own_below HO5.out b6⟩
      · cases hh : hasB l xs
        · rw [hd] at KY HS
          rw [hh] at KX HS
          have HS2 := Lib.hid (show leavL l (T.take (k + 1)) = P by rw [HS.out]; simp)
          clear hd hh HS
          go_wp2_with (first
            | (go_at_call 31; (with_reducible refine (KY.out _).mono ?_); rintro e w6 ⟨rfl, b6⟩; (have p6 := F5.out _ b6))
            | (go_at_call 49; (with_reducible refine (KX.out _ b6).mono ?_); rintro e w7 ⟨rfl, b7⟩)
            | fail)
          have b7' := W.bstep b6 b7
          go_roundg gi
          case measure => omega
          case rel => exact ⟨k + 1, by omega, by go_num, B5.out.trans (b7'.mono B5.out.size), by rw [HS2.out]; exact own_below HO5.out b7'⟩
        · rw [hd] at KY HS
          rw [hh] at KX HS
          have HS2 := Lib.hid (show leavL l (T.take (k + 1)) = P ++ [xs] by rw [HS.out]; simp)
          clear hd hh HS
          go_upto_region 6 with (first
            | (go_at_call 31; (with_reducible refine (KY.out _).mono ?_); rintro e w6 ⟨rfl, b6⟩; (have p6 := F5.out _ b6))
            | (go_at_call 49; (with_reducible refine (KX.out _ b6).mono ?_); rintro e w7 ⟨rfl, b7⟩; (have b7' := W.bstep b6 b7); (have p7 := F5.out _ b7'); (have HO7 := Lib.hid (own_below HO5.out b7')); (have V7 := Lib.hid (B5.out.trans (b7'.mono B5.out.size))))
            | fail)
          go_wp2_with (first
            | (at_builtin; go_loud (refine wp_append_intsO _ rfl (.tmp 23) (.tmp 26) rfl w0.heap.size _ P [xs] _ _ _ _ rfl (HO7.out.alloc _) rfl (reads_one _ _) (by have := LL.out; simp; omega) (by have := V7.out.size; simp; omega) ?_; intro v4 w4 ho4 hb4))
            | fail)
          go_roundg gi
          case measure => omega
          case rel => exact ⟨k + 1, by omega, by go_num, (V7.out.alloc V7.out.size _).trans hb4, by rw [HS2.out]; exact ho4⟩
end Go.Proofs.YtipipjbpjpdcbaaDoor.Ct
