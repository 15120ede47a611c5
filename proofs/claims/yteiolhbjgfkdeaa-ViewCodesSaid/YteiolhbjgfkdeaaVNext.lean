/- Layer 3: ViewNext's walk. -/
import Derived.Test.YteiolhbjgfkdeaaVLists
namespace Go.Proofs.Yteiolhbjgfkdeaa.V
set_option linter.unusedVariables false
open Go.RowKit
open Go.Proofs.Yteiolhbjgfkdeaa.W

def Tri (W : World) (g2 g5 g7 : Nat) (a b c : Array Value) : Prop := Blk W g2 31 a ∧ Blk W g5 31 b ∧ Blk W g7 31 c
theorem Tri.below {w W : World} {g2 g5 g7 : Nat} {a b c : Array Value} (h : Tri w g2 g5 g7 a b c) (hq : Below w.heap.size w W) : Tri W g2 g5 g7 a b c := ⟨blk_up h.1 hq, blk_up h.2.1 hq, blk_up h.2.2 hq⟩
theorem Tri.six {W : World} {g2 g5 g7 : Nat} {a0 a1 b0 b1 c0 c1 : Value} (h : Tri W g2 g5 g7 #[a0, a1] #[b0, b1] #[c0, c1]) :
    W.cell? ⟨g2, 0, none⟩ = some a0 ∧ W.cell? ⟨g2, 1, none⟩ = some a1 ∧ W.cell? ⟨g5, 0, none⟩ = some b0 ∧ W.cell? ⟨g5, 1, none⟩ = some b1 ∧ W.cell? ⟨g7, 0, none⟩ = some c0 ∧ W.cell? ⟨g7, 1, none⟩ = some c1 :=
  ⟨h.1.cell 0, h.1.cell 1, h.2.1.cell 0, h.2.1.cell 1, h.2.2.cell 0, h.2.2.cell 1⟩
theorem sameW_refl (n : Int) (l : List Int) : sameW n l n l = true := by simp [sameW]
theorem lvs_le (num : Int) (l q : List Int) : (lvs num l q).length ≤ q.length := by unfold lvs; split <;> first | exact among_le _ _ _ | exact Nat.zero_le _
theorem jns_le (num : Int) (l q : List Int) : (jns num l q).length ≤ q.length := by unfold jns; split <;> first | exact among_le _ _ _ | exact Nat.zero_le _
theorem svs_le (num : Int) (l q : List Int) : (svs num l q).length ≤ l.length := by unfold svs; split <;> first | exact among_le _ _ _ | exact Nat.zero_le _
theorem same_at (W : World) (xs : List Int) (X Y : Option Addr) (n x y : Nat) (hn : n = xs.length) (hl : n ≤ 1000) (h : Reads W W.heap.size 1 X n (xs.map intV)) (h' : Reads W W.heap.size 1 Y n (xs.map intV)) :
    Calls Try.prog 29 #[.slice X n x, .slice Y n y] W (PB W true) := by
  subst hn
  refine (law3same_any X Y x y _ _ xs xs W h h' (by omega) (by omega)).mono fun e w' h => ?_
  obtain ⟨h1, k, rfl⟩ := h
  exact ⟨by rw [h1]; simp, below_drewN' (Below.refl _ _) _⟩
/-- What Next gives, whatever the input. -/
theorem next_small {num n' : Int} {l q l' : List Int} {e : Nat} (hr : next num l q = ((n', l'), e)) (hn : In64 num) : In64 n' ∧ l'.length ≤ 16 ∧ ∀ x ∈ l', In64 x := by
  by_cases he : e = 0
  · subst he
    have H := next_ok hr
    have hlt := H.lt
    have hge : 0 ≤ num := (validV_iff.1 (by have := H.val; simp only [Bool.and_eq_true] at this; exact this.1)).1
    exact ⟨by rw [H.nx]; exact ⟨by omega, by omega⟩, H.le, in_ids H.ids⟩
  · obtain ⟨rfl, rfl⟩ := next_err hr he
    exact ⟨⟨by decide, by decide⟩, by simp, by simp⟩
set_option maxRecDepth 100000 in
set_option maxHeartbeats 4000000 in
theorem next_walk (num : Int) (l q : List Int) (A C : Option Addr) (c d : Nat) (w : World) (hn : In64 num) (h : LR w w.heap.size l A c) (h' : LR w w.heap.size q C d) :
    Calls Try.prog 4 #[.agg #[.int .i64 num, .slice A l.length c], .slice C q.length d] w (PB w true) := by
  have b0 := Lib.hid ((Below.refl w.heap.size w).alloc (Nat.le_refl _) (.cells #[.int .i64 num, .slice A l.length c] 31))
  have t0 := Lib.hid (Blk.new w 31 #[.int .i64 num, .slice A l.length c])
  have l0 := Lib.hid (h.new (.cells #[.int .i64 num, .slice A l.length c] 31))
  have q0 := Lib.hid (h'.new (.cells #[.int .i64 num, .slice A l.length c] 31))
  have hl := h.l63
  have hl' := h'.l63
  have AW := Lib.hid (fun W => awake_any W)
  clear h h'
  go_enter Try.func4, Try.ntmps4
  go_upto_region 3 with (go_at_call 10; refine (AW.out _).mono ?_; rintro e wa ⟨rfl, hqa⟩)
  have b1 := Lib.hid (b0.out.trans (hqa.mono b0.out.size))
  have t1 := blk_up t0.out hqa
  have k1 := blk2 t1
  have l1 := l0.out.up hqa
  have q1 := q0.out.up hqa
  generalize hG : w.heap.size = G at *
  have HG := Lib.hid hG
  clear hG b0 t0 l0 q0 AW hqa
  by_cases hs : l.length ≤ 100 ∧ q.length ≤ 100
  · obtain ⟨s1, s2⟩ := hs
    have SM := Lib.hid (small2_at wa A C l.length q.length c d hl hl' true (by simp [s1, s2]))
    have b2 := b1.out.alloc (Nat.le_trans (by rw [← HG.out]; exact Nat.le_refl _) b1.out.size) (.cells #[.slice A l.length c, .slice C q.length d] 22)
    have sg : G ≤ (wa.alloc (.cells #[.slice A l.length c, .slice C q.length d] 22)).heap.size := by rw [← HG.out]; exact b2.size
    have t2 := t1.alloc (.cells #[.slice A l.length c, .slice C q.length d] 22)
    have l2 := l1.new (.cells #[.slice A l.length c, .slice C q.length d] 22)
    have q2 := q1.new (.cells #[.slice A l.length c, .slice C q.length d] 22)
    clear t1 l1 q1 b1
    go_upto_region 5 with (go_at_call 11; refine SM.out.mono ?_; rintro e ws ⟨rfl, rfl⟩)
    clear SM k1
    generalize (wa.alloc (.cells #[.slice A l.length c, .slice C q.length d] 22)) = w5 at b2 sg t2 l2 q2 ⊢
    generalize G = g2 at t2 ⊢
    have k5 := blk2 t2
    have L5 := l2.ls s1
    have Q5 := q2.ls s2
    obtain ⟨⟨⟨n', l'⟩, e'⟩, hr⟩ : ∃ r, next num l q = r := ⟨_, rfl⟩
    obtain ⟨n64', hle, hel⟩ := next_small hr hn
    have NX := Lib.hid (show Calls Try.prog 24 #[.agg #[.int .i64 num, .slice A l.length c], .slice C q.length d] w5 (NextS w5 n' l'.length l' e') from (viewNext_any num l q A C c d w5.heap.size w5 (L5.vw num hn) Q5 (Nat.le_refl _)).mono fun _ _ h => h.to n' l' l'.length e' hr rfl)
    have B2 := Lib.hid b2
    have T2 := Lib.hid t2
    have LL5 := Lib.hid L5
    have QQ5 := Lib.hid Q5
    have HR := Lib.hid hr
    have HEL := Lib.hid hel
    clear b2 t2 l2 q2 L5 Q5 hr hel
    go_upto_region 6 with (go_at_call 24; refine NX.out.mono ?_; rintro e w6 ⟨A6, c6, rfl, hc6, hr6, hq6⟩)
    have b7 := (B2.out.trans (hq6.mono sg)).alloc (Nat.le_trans sg hq6.size) (.cells #[.int .i64 n', .slice A6 l'.length c6] 31)
    have s7 : G ≤ (w6.alloc (.cells #[.int .i64 n', .slice A6 l'.length c6] 31)).heap.size := by have := hq6.size; simp; omega
    have T7 := (blk_up T2.out hq6).alloc (.cells #[.int .i64 n', .slice A6 l'.length c6] 31)
    have L7 := (LL5.out.up hq6).new (.cells #[.int .i64 n', .slice A6 l'.length c6] 31)
    have Q7 := (QQ5.out.up hq6).new (.cells #[.int .i64 n', .slice A6 l'.length c6] 31)
    have U7 := Blk.new w6 31 #[.int .i64 n', .slice A6 l'.length c6]
    have M7 : LS (w6.alloc (.cells #[.int .i64 n', .slice A6 l'.length c6] 31)) _ l' A6 c6 := (LS.of hr6 rfl hc6 (by omega) HEL.out).new _
    clear NX k5 B2 T2 LL5 QQ5 hq6 hr6 sg
    generalize (w6.alloc (.cells #[.int .i64 n', .slice A6 l'.length c6] 31)) = w7 at b7 s7 T7 L7 Q7 U7 M7 ⊢
    generalize w6.heap.size = g5 at U7 ⊢
    have k7 := blk2 T7
    have NX := Lib.hid (show Calls Try.prog 25 #[.agg #[.int .i64 num, .slice A l.length c], .slice C q.length d] w7 (NextS w7 n' l'.length l' e') from (refNext_any num l q A C c d w7.heap.size w7 (L7.vw num hn) Q7 (Nat.le_refl _)).mono fun _ _ h => h.to n' l' l'.length e' HR.out rfl)
    have B7 := Lib.hid b7
    have TT7 := Lib.hid T7
    have UU7 := Lib.hid U7
    have LL7 := Lib.hid L7
    have QQ7 := Lib.hid Q7
    have MM7 := Lib.hid M7
    clear b7 T7 U7 L7 Q7 M7
    go_upto_region 7 with (go_at_call 25; refine NX.out.mono ?_; rintro e w8 ⟨A8, c8, rfl, hc8, hr8, hq8⟩)
    have b9 := (B7.out.trans (hq8.mono s7)).alloc (Nat.le_trans s7 hq8.size) (.cells #[.int .i64 n', .slice A8 l'.length c8] 31)
    have s9 : G ≤ (w8.alloc (.cells #[.int .i64 n', .slice A8 l'.length c8] 31)).heap.size := by have := hq8.size; simp; omega
    have T9 := (blk_up TT7.out hq8).alloc (.cells #[.int .i64 n', .slice A8 l'.length c8] 31)
    have U9 := (blk_up UU7.out hq8).alloc (.cells #[.int .i64 n', .slice A8 l'.length c8] 31)
    have W9 := Blk.new w8 31 #[.int .i64 n', .slice A8 l'.length c8]
    have L9 := (LL7.out.up hq8).new (.cells #[.int .i64 n', .slice A8 l'.length c8] 31)
    have Q9 := (QQ7.out.up hq8).new (.cells #[.int .i64 n', .slice A8 l'.length c8] 31)
    have M9 := (MM7.out.up hq8).new (.cells #[.int .i64 n', .slice A8 l'.length c8] 31)
    have N9 : LS (w8.alloc (.cells #[.int .i64 n', .slice A8 l'.length c8] 31)) _ l' A8 c8 := (LS.of hr8 rfl hc8 (by omega) HEL.out).new _
    clear NX k7 B7 TT7 UU7 LL7 QQ7 MM7 hq8 hr8 s7 HR HEL
    generalize (w8.alloc (.cells #[.int .i64 n', .slice A8 l'.length c8] 31)) = w9 at b9 s9 T9 U9 W9 L9 Q9 M9 N9 ⊢
    generalize w8.heap.size = g7 at W9 ⊢
    have BB9 := Lib.hid b9
    have B0 := Lib.hid (show Tri w9 g2 g5 g7 #[.int .i64 num, .slice A l.length c] #[.int .i64 n', .slice A6 l'.length c6] #[.int .i64 n', .slice A8 l'.length c8] from ⟨T9, U9, W9⟩)
    have KS := Lib.hid (fun (W : World) (hW : Below w9.heap.size w9 W) => show Calls Try.prog 26 #[.agg #[.int .i64 n', .slice A6 l'.length c6], .agg #[.int .i64 n', .slice A8 l'.length c8]] W (PB W true) from (refSame_any n' n' l' l' A6 A8 c6 c8 _ W ((M9.vw n' n64').below hW) ((N9.vw n' n64').below hW) hW.size).mono fun _ _ h => by rw [sameW_refl] at h; exact h)
    have KV := Lib.hid (fun (W : World) (hW : Below w9.heap.size w9 W) => show Calls Try.prog 27 #[.agg #[.int .i64 num, .slice A l.length c]] W (PB W (validV num l)) from viewValid_any num l A c _ W ((L9.vw num hn).below hW) hW.size)
    have KW := Lib.hid (fun (W : World) (hW : Below w9.heap.size w9 W) => show Calls Try.prog 28 #[.agg #[.int .i64 num, .slice A l.length c]] W (PB W (validV num l)) from refValid_any num l A c _ W ((L9.vw num hn).below hW) hW.size)
    have KVL := Lib.hid (fun (W : World) (hW : Below w9.heap.size w9 W) => show Calls Try.prog 30 #[.agg #[.int .i64 num, .slice A l.length c], .slice C q.length d] W (OutI W (lvs num l q) (lvs num l q).length) from (viewLeavers_any num l q A C c d _ W ((L9.vw num hn).below hW) (Q9.below hW) hW.size).mono fun _ _ h => h.to _ _ rfl rfl)
    have KRL := Lib.hid (fun (W : World) (hW : Below w9.heap.size w9 W) => show Calls Try.prog 31 #[.agg #[.int .i64 num, .slice A l.length c], .slice C q.length d] W (OutI W (lvs num l q) (lvs num l q).length) from (refLeavers_any num l q A C c d _ W ((L9.vw num hn).below hW) (Q9.below hW) hW.size).mono fun _ _ h => h.to _ _ rfl rfl)
    have HL := Lib.hid (show (lvs num l q).length ≤ 1000 from by have := lvs_le num l q; omega)
    generalize lvs num l q = xl at *
    have KVJ := Lib.hid (fun (W : World) (hW : Below w9.heap.size w9 W) => show Calls Try.prog 32 #[.agg #[.int .i64 num, .slice A l.length c], .slice C q.length d] W (OutI W (jns num l q) (jns num l q).length) from (viewJoiners_any num l q A C c d _ W ((L9.vw num hn).below hW) (Q9.below hW) hW.size).mono fun _ _ h => h.to _ _ rfl rfl)
    have KRJ := Lib.hid (fun (W : World) (hW : Below w9.heap.size w9 W) => show Calls Try.prog 33 #[.agg #[.int .i64 num, .slice A l.length c], .slice C q.length d] W (OutI W (jns num l q) (jns num l q).length) from (refJoiners_any num l q A C c d _ W ((L9.vw num hn).below hW) (Q9.below hW) hW.size).mono fun _ _ h => h.to _ _ rfl rfl)
    have HJ := Lib.hid (show (jns num l q).length ≤ 1000 from by have := jns_le num l q; omega)
    generalize jns num l q = xj at *
    have KVS := Lib.hid (fun (W : World) (hW : Below w9.heap.size w9 W) => show Calls Try.prog 34 #[.agg #[.int .i64 num, .slice A l.length c], .slice C q.length d] W (OutI W (svs num l q) (svs num l q).length) from (viewSurvivors_any num l q A C c d _ W ((L9.vw num hn).below hW) (Q9.below hW) hW.size).mono fun _ _ h => h.to _ _ rfl rfl)
    have KRS := Lib.hid (fun (W : World) (hW : Below w9.heap.size w9 W) => show Calls Try.prog 35 #[.agg #[.int .i64 num, .slice A l.length c], .slice C q.length d] W (OutI W (svs num l q) (svs num l q).length) from (refSurvivors_any num l q A C c d _ W ((L9.vw num hn).below hW) (Q9.below hW) hW.size).mono fun _ _ h => h.to _ _ rfl rfl)
    have HS := Lib.hid (show (svs num l q).length ≤ 1000 from by have := svs_le num l q; omega)
    generalize svs num l q = xs at *
    have SA := Lib.hid same_at
    clear L9 Q9 M9 N9 T9 U9 W9 b9
    generalize validV num l = vv at *
    go_region_held3 (fun w' => w'.cell? ⟨g2, 0, none⟩ = some (.int .i64 num) ∧ w'.cell? ⟨g2, 1, none⟩ = some (.slice A l.length c) ∧ w'.cell? ⟨g5, 0, none⟩ = some (.int .i64 n') ∧ w'.cell? ⟨g5, 1, none⟩ = some (.slice A6 l'.length c6) ∧ w'.cell? ⟨g7, 0, none⟩ = some (.int .i64 n') ∧ w'.cell? ⟨g7, 1, none⟩ = some (.slice A8 l'.length c8))
      (first | exact B12.out.six | exact B11.out.six | exact B10.out.six | exact B9.out.six | exact B8.out.six | exact B7.out.six | exact B6.out.six | exact B5.out.six | exact B4.out.six | exact B3.out.six | exact B2.out.six | exact B1.out.six | exact B0.out.six)
      (first
        | (go_at_call 26; (with_reducible refine (KS.out _ (by exact (Below.refl _ _).drew)).mono ?_); rintro e y1 ⟨rfl, hq1⟩; (have h1 : Below w9.heap.size w9 y1 := ((Below.refl _ _).drew).trans hq1); (have B1 := Lib.hid (B0.out.below h1)))
        | (go_at_call 27; (with_reducible refine (KV.out _ (by exact h1)).mono ?_); rintro e y2 ⟨rfl, hq2⟩; (have h2 : Below w9.heap.size w9 y2 := bstep h1 hq2); (have B2 := Lib.hid (B0.out.below h2)))
        | (go_at_call 28; (with_reducible refine (KW.out _ (by exact h2)).mono ?_); rintro e y3 ⟨rfl, hq3⟩; (have h3 : Below w9.heap.size w9 y3 := bstep h2 hq3); (have B3 := Lib.hid (B0.out.below h3)))
        | (go_at_call 30; (with_reducible refine (KVL.out _ (by exact h3)).mono ?_); rintro e y4 ⟨X4, z4, rfl, hc4, ho4, hr4, hq4⟩; (have h4 : Below w9.heap.size w9 y4 := bstep h3 hq4); (have B4 := Lib.hid (B0.out.below h4)))
        | (go_at_call 31; (with_reducible refine (KRL.out _ (by exact h4)).mono ?_); rintro e y5 ⟨X5, z5, rfl, hc5, ho5, hr5, hq5⟩; (have h5 : Below w9.heap.size w9 y5 := bstep h4 hq5); (have B5 := Lib.hid (B0.out.below h5)))
        | (go_at_call 29; (with_reducible refine (SA.out _ xl X4 X5 xl.length z4 z5 rfl HL.out ((hr4.below hq5).more hq5.size) hr5).mono ?_); rintro e y6 ⟨rfl, hq6⟩; (have h6 : Below w9.heap.size w9 y6 := bstep h5 hq6); (have B6 := Lib.hid (B0.out.below h6)))
        | (go_at_call 32; (with_reducible refine (KVJ.out _ (by exact h6)).mono ?_); rintro e y7 ⟨X7, z7, rfl, hc7, ho7, hr7, hq7⟩; (have h7 : Below w9.heap.size w9 y7 := bstep h6 hq7); (have B7 := Lib.hid (B0.out.below h7)))
        | (go_at_call 33; (with_reducible refine (KRJ.out _ (by exact h7)).mono ?_); rintro e y8 ⟨X8, z8, rfl, hc8, ho8, hr8, hq8⟩; (have h8 : Below w9.heap.size w9 y8 := bstep h7 hq8); (have B8 := Lib.hid (B0.out.below h8)))
        | (go_at_call 29; (with_reducible refine (SA.out _ xj X7 X8 xj.length z7 z8 rfl HJ.out ((hr7.below hq8).more hq8.size) hr8).mono ?_); rintro e y9 ⟨rfl, hq9⟩; (have h9 : Below w9.heap.size w9 y9 := bstep h8 hq9); (have B9 := Lib.hid (B0.out.below h9)))
        | (go_at_call 34; (with_reducible refine (KVS.out _ (by exact h9)).mono ?_); rintro e y10 ⟨X10, z10, rfl, hc10, ho10, hr10, hq10⟩; (have h10 : Below w9.heap.size w9 y10 := bstep h9 hq10); (have B10 := Lib.hid (B0.out.below h10)))
        | (go_at_call 35; (with_reducible refine (KRS.out _ (by exact h10)).mono ?_); rintro e y11 ⟨X11, z11, rfl, hc11, ho11, hr11, hq11⟩; (have h11 : Below w9.heap.size w9 y11 := bstep h10 hq11); (have B11 := Lib.hid (B0.out.below h11)))
        | (go_at_call 29; (with_reducible refine (SA.out _ xs X10 X11 xs.length z10 z11 rfl HS.out ((hr10.below hq11).more hq11.size) hr11).mono ?_); rintro e y12 ⟨rfl, hq12⟩; (have h12 : Below w9.heap.size w9 y12 := bstep h11 hq12); (have B12 := Lib.hid (B0.out.below h12)))
        | fail)
    all_goals
      go_wp2
      go_ret
      refine ⟨?_, ?_⟩
      · simp
      · rw [HG.out]; exact BB9.out.trans (h12.mono s9)
  · have SM := Lib.hid (small2_at wa A C l.length q.length c d hl hl' false (by simp; omega))
    have b2 := b1.out.alloc (by rw [← HG.out]; exact b1.out.size) (.cells #[.slice A l.length c, .slice C q.length d] 22)
    go_wp2_with (go_at_call 11; refine SM.out.mono ?_; rintro e ws ⟨rfl, rfl⟩)
    go_ret
    exact ⟨rfl, by rw [HG.out]; exact b2⟩
end Go.Proofs.Yteiolhbjgfkdeaa.V
