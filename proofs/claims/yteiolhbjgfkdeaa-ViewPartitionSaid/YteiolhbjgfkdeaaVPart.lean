/- Layer 3: ViewPartition's walk. -/
import Derived.Test.YteiolhbjgfkdeaaVDiff
namespace Go.Proofs.Yteiolhbjgfkdeaa.V
set_option linter.unusedVariables false
open Go.RowKit
open Go.Proofs.Yteiolhbjgfkdeaa.W

set_option maxRecDepth 100000 in
set_option maxHeartbeats 4000000 in
theorem part_walk (num id : Int) (l q : List Int) (A C : Option Addr) (c d : Nat) (w : World) (hn : In64 num) (h : LR w w.heap.size l A c) (h' : LR w w.heap.size q C d) :
    Calls Try.prog 6 #[.agg #[.int .i64 num, .slice A l.length c], .slice C q.length d, .int .i64 id] w (PB w true) := by
  have b0 := Lib.hid ((Below.refl w.heap.size w).alloc (Nat.le_refl _) (.cells #[.int .i64 num, .slice A l.length c] 31))
  have t0 := Lib.hid (Blk.new w 31 #[.int .i64 num, .slice A l.length c])
  have l0 := Lib.hid (h.new (.cells #[.int .i64 num, .slice A l.length c] 31))
  have q0 := Lib.hid (h'.new (.cells #[.int .i64 num, .slice A l.length c] 31))
  have hl := h.l63
  have hl' := h'.l63
  have AW := Lib.hid (fun W => awake_any W)
  clear h h'
  go_enter Try.func6, Try.ntmps6
  go_upto_region 3 with (go_at_call 10; refine (AW.out _).mono ?_; rintro e wa ⟨rfl, hqa⟩)
  have b1 := Lib.hid (b0.out.trans (hqa.mono b0.out.size))
  have t1 := blk_up t0.out hqa
  have k1 := blk2 t1
  have l1 := l0.out.up hqa
  have q1 := q0.out.up hqa
  generalize hG : w.heap.size = G at *
  have HG := Lib.hid hG
  clear hG b0 t0 l0 q0 AW hqa
  have sa : G ≤ wa.heap.size := by rw [← HG.out]; exact b1.out.size
  by_cases hs : l.length ≤ 100 ∧ q.length ≤ 100
  · obtain ⟨s1, s2⟩ := hs
    have SM := Lib.hid (small2_at wa A C l.length q.length c d hl hl' true (by simp [s1, s2]))
    have b2 := Lib.hid (b1.out.alloc sa (.cells #[.slice A l.length c, .slice C q.length d] 22))
    have sg : G ≤ (wa.alloc (.cells #[.slice A l.length c, .slice C q.length d] 22)).heap.size := by rw [← HG.out]; exact b2.out.size
    have t2 := t1.alloc (.cells #[.slice A l.length c, .slice C q.length d] 22)
    have L5 := Lib.hid ((l1.new (.cells #[.slice A l.length c, .slice C q.length d] 22)).ls s1)
    have Q5 := Lib.hid ((q1.new (.cells #[.slice A l.length c, .slice C q.length d] 22)).ls s2)
    have B0 := Lib.hid t2
    have k5 := blk2 t2
    have KC := Lib.hid (fun (W : World) (hW : Below (wa.alloc (.cells #[.slice A l.length c, .slice C q.length d] 22)).heap.size (wa.alloc (.cells #[.slice A l.length c, .slice C q.length d] 22)) W) => viewValidC_any C d _ q W (Q5.out.below hW) hW.size)
    have KV := Lib.hid (fun (W : World) (hW : Below (wa.alloc (.cells #[.slice A l.length c, .slice C q.length d] 22)).heap.size (wa.alloc (.cells #[.slice A l.length c, .slice C q.length d] 22)) W) => show Calls Try.prog 27 #[.agg #[.int .i64 num, .slice A l.length c]] W (PB W (validV num l)) from viewValid_any num l A c _ W ((L5.out.vw num hn).below hW) hW.size)
    have R5 := Below.refl (wa.alloc (.cells #[.slice A l.length c, .slice C q.length d] 22)).heap.size (wa.alloc (.cells #[.slice A l.length c, .slice C q.length d] 22))
    clear t2 t1 l1 q1 b1
    cases hv : validV num l
    · rw [hv] at KV
      clear hv
      go_wp2_with (first
        | (go_at_call 11; refine SM.out.mono ?_; rintro e ws ⟨rfl, rfl⟩)
        | (go_at_call 27; (with_reducible refine (KV.out _ R5).mono ?_); rintro e y6 ⟨rfl, hq6⟩; (have h6 : Below (wa.alloc (.cells #[.slice A l.length c, .slice C q.length d] 22)).heap.size (wa.alloc (.cells #[.slice A l.length c, .slice C q.length d] 22)) y6 := hq6); (have B6 := Lib.hid (blk_up B0.out h6)); (have k6 := blk2 B6.out))
        | fail)
      go_ret
      exact ⟨rfl, by rw [HG.out]; exact b2.out.trans (h6.mono sg)⟩
    rw [hv] at KV
    cases hc : validC q
    · rw [hc] at KC
      clear hv hc
      go_wp2_with (first
        | (go_at_call 11; refine SM.out.mono ?_; rintro e ws ⟨rfl, rfl⟩)
        | (go_at_call 27; (with_reducible refine (KV.out _ R5).mono ?_); rintro e y6 ⟨rfl, hq6⟩; (have h6 : Below (wa.alloc (.cells #[.slice A l.length c, .slice C q.length d] 22)).heap.size (wa.alloc (.cells #[.slice A l.length c, .slice C q.length d] 22)) y6 := hq6); (have B6 := Lib.hid (blk_up B0.out h6)); (have k6 := blk2 B6.out))
        | (go_at_call 14; (with_reducible refine (KC.out _ h6).mono ?_); rintro e y7 ⟨rfl, hq7⟩; (have h7 : Below (wa.alloc (.cells #[.slice A l.length c, .slice C q.length d] 22)).heap.size (wa.alloc (.cells #[.slice A l.length c, .slice C q.length d] 22)) y7 := bstep h6 hq7); (have B7 := Lib.hid (blk_up B0.out h7)); (have k7 := blk2 B7.out))
        | fail)
      go_ret
      exact ⟨rfl, by rw [HG.out]; exact b2.out.trans (h7.mono sg)⟩
    rw [hc] at KC
    have hval : (validV num l && validC q) = true := by rw [hv, hc]; rfl
    have HVAL := Lib.hid hval
    clear hv hc hval
    go_upto_region 5 with (first
        | (go_at_call 11; refine SM.out.mono ?_; rintro e ws ⟨rfl, rfl⟩)
        | (go_at_call 27; (with_reducible refine (KV.out _ R5).mono ?_); rintro e y6 ⟨rfl, hq6⟩; (have h6 : Below (wa.alloc (.cells #[.slice A l.length c, .slice C q.length d] 22)).heap.size (wa.alloc (.cells #[.slice A l.length c, .slice C q.length d] 22)) y6 := hq6); (have B6 := Lib.hid (blk_up B0.out h6)); (have k6 := blk2 B6.out))
        | (go_at_call 14; (with_reducible refine (KC.out _ h6).mono ?_); rintro e y7 ⟨rfl, hq7⟩; (have h7 : Below (wa.alloc (.cells #[.slice A l.length c, .slice C q.length d] 22)).heap.size (wa.alloc (.cells #[.slice A l.length c, .slice C q.length d] 22)) y7 := bstep h6 hq7); (have B7 := Lib.hid (blk_up B0.out h7)); (have k7 := blk2 B7.out))
        | fail)
    have bb := Lib.hid (b2.out.trans (h7.mono sg))
    have s7 : G ≤ y7.heap.size := Nat.le_trans sg h7.size
    have L7 := Lib.hid (L5.out.up h7)
    have Q7 := Lib.hid (Q5.out.up h7)
    have T7 := B7
    clear SM KC KV k1 k5 k6 k7 B0 B6 B7 L5 Q5 R5 b2 h6 h7 hq6 hq7 sg
    have B0 := T7
    have k0 := blk2 B0.out
    clear T7
    have KL := Lib.hid (fun (W : World) (hW : Below y7.heap.size y7 W) => show Calls Try.prog 30 #[.agg #[.int .i64 num, .slice A l.length c], .slice C q.length d] W (OutI W (lvs num l q) (lvs num l q).length) from (viewLeavers_any num l q A C c d _ W ((L7.out.vw num hn).below hW) (Q7.out.below hW) hW.size).mono fun _ _ h => h.to _ _ rfl rfl)
    have KJ := Lib.hid (fun (W : World) (hW : Below y7.heap.size y7 W) => show Calls Try.prog 32 #[.agg #[.int .i64 num, .slice A l.length c], .slice C q.length d] W (OutI W (jns num l q) (jns num l q).length) from (viewJoiners_any num l q A C c d _ W ((L7.out.vw num hn).below hW) (Q7.out.below hW) hW.size).mono fun _ _ h => h.to _ _ rfl rfl)
    have KS := Lib.hid (fun (W : World) (hW : Below y7.heap.size y7 W) => show Calls Try.prog 34 #[.agg #[.int .i64 num, .slice A l.length c], .slice C q.length d] W (OutI W (svs num l q) (svs num l q).length) from (viewSurvivors_any num l q A C c d _ W ((L7.out.vw num hn).below hW) (Q7.out.below hW) hW.size).mono fun _ _ h => h.to _ _ rfl rfl)
    clear k0
    go_region_held3 (fun w' => w'.cell? ⟨G, 0, none⟩ = some (.int .i64 num) ∧ w'.cell? ⟨G, 1, none⟩ = some (.slice A l.length c))
      (first | exact blk2 B3.out | exact blk2 B2.out | exact blk2 B1.out | exact blk2 B0.out)
      (first
        | (go_at_call 30; (with_reducible refine (KL.out _ (by exact (Below.refl _ _).drew)).mono ?_); rintro e y1 ⟨X1, z1, rfl, hc1, ho1, hr1, hq1⟩; (have h1 : Below y7.heap.size y7 y1 := ((Below.refl _ _).drew).trans hq1); (have B1 := Lib.hid (blk_up B0.out h1)))
        | (go_at_call 32; (with_reducible refine (KJ.out _ h1).mono ?_); rintro e y2 ⟨X2, z2, rfl, hc2, ho2, hr2, hq2⟩; (have h2 : Below y7.heap.size y7 y2 := bstep h1 hq2); (have B2 := Lib.hid (blk_up B0.out h2)))
        | (go_at_call 34; (with_reducible refine (KS.out _ h2).mono ?_); rintro e y3 ⟨X3, z3, rfl, hc3, ho3, hr3, hq3⟩; (have h3 : Below y7.heap.size y7 y3 := bstep h2 hq3); (have B3 := Lib.hid (blk_up B0.out h3)))
        | fail)
    have k3 := blk2 B3.out
    have C1 := Lib.hid (fun (W : World) (hW : Below y7.heap.size y7 W) => viewContains_any A c _ l id W (L7.out.below hW) hW.size)
    have C2 := Lib.hid (fun (W : World) (hW : Below y7.heap.size y7 W) => viewContains_any C d _ q id W (Q7.out.below hW) hW.size)
    have pm := fun x => parts_mem HVAL.out x
    have pl := parts_len HVAL.out
    have eL := L7.out.el
    have eQ := Q7.out.el
    have E1 := Lib.hid (show LS y3 y3.heap.size (lvs num l q) X1 z1 from LS.of ((hr1.below (bstep hq2 hq3)).more (bstep hq2 hq3).size) rfl hc1 (by omega) (fun x hx => eL x ((pm x).1.1 hx).1))
    have E2 := Lib.hid (show LS y3 y3.heap.size (jns num l q) X2 z2 from LS.of ((hr2.below hq3).more hq3.size) rfl hc2 (by omega) (fun x hx => eQ x ((pm x).2.1.1 hx).1))
    have E3 := Lib.hid (show LS y3 y3.heap.size (svs num l q) X3 z3 from LS.of hr3 rfl hc3 (by omega) (fun x hx => eL x ((pm x).2.2.1 hx).1))
    have KA := Lib.hid (fun (W : World) (hW : Below y3.heap.size y3 W) => viewContains_any X1 z1 _ (lvs num l q) id W (E1.out.below hW) hW.size)
    have KB := Lib.hid (fun (W : World) (hW : Below y3.heap.size y3 W) => viewContains_any X2 z2 _ (jns num l q) id W (E2.out.below hW) hW.size)
    have KD := Lib.hid (fun (W : World) (hW : Below y3.heap.size y3 W) => viewContains_any X3 z3 _ (svs num l q) id W (E3.out.below hW) hW.size)
    have HA := Lib.hid (show hasB (lvs num l q) id = (hasB l id && hasB q id) by simp only [hasB_mem, (pm id).1]; by_cases a : id ∈ l <;> by_cases b : id ∈ q <;> simp [a, b])
    have HB := Lib.hid (show hasB (jns num l q) id = (hasB q id && !hasB l id) by simp only [hasB_mem, (pm id).2.1]; by_cases a : id ∈ l <;> by_cases b : id ∈ q <;> simp [a, b])
    have HC := Lib.hid (show hasB (svs num l q) id = (hasB l id && !hasB q id) by simp only [hasB_mem, (pm id).2.2]; by_cases a : id ∈ l <;> by_cases b : id ∈ q <;> simp [a, b])
    obtain ⟨⟨⟨n', l'⟩, e'⟩, hr⟩ : ∃ r, next num l q = r := ⟨_, rfl⟩
    obtain ⟨n64', hle, hel⟩ := next_small hr hn
    have HEL := Lib.hid hel
    have HW := Lib.hid (fun (he : e' = 0) => show hasB l' id = (hasB l id != hasB q id) by
      subst he
      have H := next_ok hr
      simp only [hasB_mem, H.mem]
      by_cases a : id ∈ l <;> by_cases b : id ∈ q <;> simp [a, b])
    have HN := Lib.hid (fun (he : e' = 0) => show n' = num + 1 ∧ validV n' l' = true ∧ l'.length = (svs num l q).length + (jns num l q).length ∧ l.length < 2 * (svs num l q).length ∧ 0 ≤ num ∧ num < 1099511627776 by
      subst he
      have H := next_ok hr
      exact ⟨H.nx, H.valid, H.len, H.more, (validV_iff.1 (by have := H.val; simp only [Bool.and_eq_true] at this; exact this.1)).1, H.lt⟩)
    have HZ := Lib.hid (fun (he : e' ≠ 0) => next_err hr he)
    have KN := Lib.hid (fun (W : World) (hW : Below y7.heap.size y7 W) => show Calls Try.prog 24 #[.agg #[.int .i64 num, .slice A l.length c], .slice C q.length d] W (NextS W n' l'.length l' e') from (viewNext_any num l q A C c d _ W ((L7.out.vw num hn).below hW) (Q7.out.below hW) hW.size).mono fun _ _ h => h.to n' l' l'.length e' hr rfl)
    obtain ⟨pl1, pl2⟩ := pl
    clear pm eL eQ hr hel KL KJ KS hr1 hr2 hr3 ho1 ho2 ho3
    generalize hasB (lvs num l q) id = pa at *
    generalize hasB (jns num l q) id = pb at *
    generalize hasB (svs num l q) id = pc at *
    generalize lvs num l q = xl at *
    generalize jns num l q = xj at *
    generalize svs num l q = xs at *
    generalize hasB l id = p1 at *
    generalize hasB q id = p2 at *
    have f1 : ((xl.length : Int) + (xj.length : Int) != (q.length : Int)) = false := bneF (by omega)
    have f2 : ((xl.length : Int) + (xs.length : Int) != (l.length : Int)) = false := bneF (by omega)
    cases pa <;> cases pb <;> cases pc <;> cases p1 <;> cases p2 <;> first | (exfalso; have a1 := HA.out; have a2 := HB.out; have a3 := HC.out; revert a1 a2 a3; decide) | skip
    all_goals
      go_upto_region 9 with (first
        | (go_at_call 16; (with_reducible refine (C1.out _ h3).mono ?_); rintro e y24 ⟨rfl, hq24⟩; (have h24 : Below y7.heap.size y7 y24 := bstep h3 hq24); (have B24 := Lib.hid (blk_up B0.out h24)); (have k24 := blk2 B24.out))
        | (go_at_call 16; (with_reducible refine (C2.out _ h24).mono ?_); rintro e y25 ⟨rfl, hq25⟩; (have h25 : Below y7.heap.size y7 y25 := bstep h24 hq25); (have B25 := Lib.hid (blk_up B0.out h25)); (have k25 := blk2 B25.out))
        | (go_at_call 16; (with_reducible refine (KA.out _ (bstep hq24 hq25)).mono ?_); rintro e y26 ⟨rfl, hq26⟩; (have h26 : Below y7.heap.size y7 y26 := bstep h25 hq26); (have B26 := Lib.hid (blk_up B0.out h26)); (have k26 := blk2 B26.out))
        | (go_at_call 16; (with_reducible refine (KB.out _ (bstep (bstep hq24 hq25) hq26)).mono ?_); rintro e y27 ⟨rfl, hq27⟩; (have h27 : Below y7.heap.size y7 y27 := bstep h26 hq27); (have B27 := Lib.hid (blk_up B0.out h27)); (have k27 := blk2 B27.out))
        | (go_at_call 16; (with_reducible refine (KD.out _ (bstep (bstep (bstep hq24 hq25) hq26) hq27)).mono ?_); rintro e y28 ⟨rfl, hq28⟩; (have h28 : Below y7.heap.size y7 y28 := bstep h27 hq28); (have B28 := Lib.hid (blk_up B0.out h28)); (have k28 := blk2 B28.out))
        | fail)
      have u28 := bb.out.trans (h28.mono s7)
      have v28 : G ≤ y28.heap.size := Nat.le_trans s7 h28.size
      by_cases he : e' = 0
      · have hw := HW.out he
        simp at hw
        obtain ⟨g1, g2, g3, g4, g5, g6⟩ := HN.out he
        subst he
        subst g1
        have G3 := Lib.hid g3
        clear g3
        go_upto_region 12 with (first
          | (go_at_call 24; (with_reducible refine (KN.out _ h28).mono ?_); rintro e w6 ⟨A6, c6, rfl, hc6, hr6, hq6⟩; (have T9 := Lib.hid ((blk_up B28.out hq6).alloc (.cells #[.int .i64 (num + 1), .slice A6 l'.length c6] 31))); (have k9 := blk2 T9.out); (have U9 := Lib.hid (Blk.new w6 31 #[.int .i64 (num + 1), .slice A6 l'.length c6])); (have j9 := blk2 U9.out); (have N9 := Lib.hid (show LS (w6.alloc (.cells #[.int .i64 (num + 1), .slice A6 l'.length c6] 31)) _ l' A6 c6 from (LS.of hr6 rfl hc6 (by omega) HEL.out).new _)); (have b9 := (u28.trans (hq6.mono v28)).alloc (Nat.le_trans v28 hq6.size) (.cells #[.int .i64 (num + 1), .slice A6 l'.length c6] 31)); (have s9 : G ≤ (w6.alloc (.cells #[.int .i64 (num + 1), .slice A6 l'.length c6] 31)).heap.size := by { have := hq6.size; simp; omega }))
          | fail)
        have KX := Lib.hid (show Calls Try.prog 27 #[.agg #[.int .i64 (num + 1), .slice A6 l'.length c6]] (w6.alloc (.cells #[.int .i64 (num + 1), .slice A6 l'.length c6] 31)) (PB (w6.alloc (.cells #[.int .i64 (num + 1), .slice A6 l'.length c6] 31)) true) from by have h := viewValid_any (num + 1) l' A6 c6 _ _ (N9.out.vw (num + 1) n64') (Nat.le_refl _); rw [g2] at h; exact h)
        have KY := Lib.hid (fun (W : World) (hW : Below (w6.alloc (.cells #[.int .i64 (num + 1), .slice A6 l'.length c6] 31)).heap.size (w6.alloc (.cells #[.int .i64 (num + 1), .slice A6 l'.length c6] 31)) W) => show Calls Try.prog 16 #[.slice A6 l'.length c6, .int .i64 id] W (PB W (hasB l' id)) from viewContains_any A6 c6 _ l' id W (N9.out.below hW) hW.size)
        rw [hw] at KY
        have f3 : ((l'.length : Int) == (xs.length : Int) + (xj.length : Int)) = true := beqT (by have := G3.out; omega)
        have f4 : (l.length : Int) < 2 * (xs.length : Int) := by omega
        go_wp2_with (first
          | (go_at_call 27; (with_reducible refine KX.out.mono ?_); rintro e y30 ⟨rfl, hq30⟩; (have k30 := blk2 (blk_up T9.out hq30)); (have j30 := blk2 (blk_up U9.out hq30)))
          | (go_at_call 16; (with_reducible refine (KY.out _ hq30).mono ?_); rintro e y31 ⟨rfl, hq31⟩; (have k31 := blk2 (blk_up T9.out (bstep hq30 hq31))))
          | fail)
        go_ret
        refine ⟨?_, ?_⟩
        · simp
        · rw [HG.out]; exact b9.trans ((bstep hq30 hq31).mono s9)
      · obtain ⟨z1, z2⟩ := HZ.out he
        subst z1 z2
        have fe : ((e' : Int) != 0) = true := bneT (by omega)
        clear he
        go_wp2_with (first
          | (go_at_call 24; (with_reducible refine (KN.out _ h28).mono ?_); rintro e w6 ⟨A6, c6, rfl, hc6, hr6, hq6⟩)
          | fail)
        go_ret
        refine ⟨?_, ?_⟩
        · simp
        · rw [HG.out]; exact (u28.trans (hq6.mono v28)).alloc (Nat.le_trans v28 hq6.size) _
  · have SM := Lib.hid (small2_at wa A C l.length q.length c d hl hl' false (by simp; omega))
    have b2 := b1.out.alloc sa (.cells #[.slice A l.length c, .slice C q.length d] 22)
    go_wp2_with (go_at_call 11; refine SM.out.mono ?_; rintro e ws ⟨rfl, rfl⟩)
    go_ret
    exact ⟨rfl, by rw [HG.out]; exact b2⟩
end Go.Proofs.Yteiolhbjgfkdeaa.V
