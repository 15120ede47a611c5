/- Layer 3: ViewBack's walk. -/
import Derived.Test.YteiolhbjgfkdeaaVLaw0
namespace Go.Proofs.Yteiolhbjgfkdeaa.V
set_option linter.unusedVariables false
open Go.RowKit
open Go.Proofs.Yteiolhbjgfkdeaa.W

set_option maxRecDepth 100000 in
set_option maxHeartbeats 2000000 in
theorem back_any (num : Int) (l q : List Int) (A C : Option Addr) (c d : Nat) (w : World) (hn : In64 num) (h : LR w w.heap.size l A c) (h' : LR w w.heap.size q C d) :
    Calls Try.prog 9 #[.agg #[.int .i64 num, .slice A l.length c], .slice C q.length d] w (PB w true) := by
  have b0 := Lib.hid ((Below.refl w.heap.size w).alloc (Nat.le_refl _) (.cells #[.int .i64 num, .slice A l.length c] 31))
  have t0 := Lib.hid (Blk.new w 31 #[.int .i64 num, .slice A l.length c])
  have l0 := Lib.hid (h.new (.cells #[.int .i64 num, .slice A l.length c] 31))
  have q0 := Lib.hid (h'.new (.cells #[.int .i64 num, .slice A l.length c] 31))
  have hl := h.l63
  have hl' := h'.l63
  have AW := Lib.hid (fun W => awake_any W)
  clear h h'
  go_enter Try.func9, Try.ntmps9
  go_upto_region 3 with (go_at_call 10; refine (AW.out _).mono ?_; rintro e wa ⟨rfl, hqa⟩)
  have b1 := Lib.hid (b0.out.trans (hqa.mono b0.out.size))
  have t1 := blk_up t0.out hqa
  have k1 := blk2 t1
  have l1 := l0.out.up hqa
  have q1 := q0.out.up hqa
  generalize hG : w.heap.size = G at *
  have HG := Lib.hid hG
  clear hG b0 t0 l0 q0 AW hqa
  by_cases hs : l.length ≤ 100 ∧ q.length ≤ 100
  · obtain ⟨s1, s2⟩ := hs
    have SM := Lib.hid (small2_at wa A C l.length q.length c d hl hl' true (by simp [s1, s2]))
    have b2 := b1.out.alloc (Nat.le_trans (by rw [← HG.out]; exact Nat.le_refl _) b1.out.size) (.cells #[.slice A l.length c, .slice C q.length d] 22)
    have sg : G ≤ (wa.alloc (.cells #[.slice A l.length c, .slice C q.length d] 22)).heap.size := by rw [← HG.out]; exact b2.size
    have t2 := t1.alloc (.cells #[.slice A l.length c, .slice C q.length d] 22)
    have l2 := l1.new (.cells #[.slice A l.length c, .slice C q.length d] 22)
    have q2 := q1.new (.cells #[.slice A l.length c, .slice C q.length d] 22)
    clear t1 l1 q1 b1
    go_upto_region 5 with (go_at_call 11; refine SM.out.mono ?_; rintro e ws ⟨rfl, rfl⟩)
    clear SM k1
    generalize (wa.alloc (.cells #[.slice A l.length c, .slice C q.length d] 22)) = w5 at b2 sg t2 l2 q2 ⊢
    have k5 := blk2 t2
    have L5 := l2.ls s1
    have Q5 := q2.ls s2
    have nx := viewNext_any num l q A C c d w5.heap.size w5 (L5.vw num hn) Q5 (Nat.le_refl _)
    obtain ⟨⟨⟨n', l'⟩, e'⟩, hr⟩ : ∃ r, next num l q = r := ⟨_, rfl⟩
    have B2 := Lib.hid b2
    have T2 := Lib.hid t2
    have LL5 := Lib.hid L5
    have QQ5 := Lib.hid Q5
    clear b2 t2 l2 q2 L5 Q5
    by_cases he : e' = 0
    · subst he
      have H := next_ok hr
      have NX := Lib.hid (show Calls Try.prog 24 #[.agg #[.int .i64 num, .slice A l.length c], .slice C q.length d] w5 (NextS w5 n' l'.length l' 0) from nx.mono fun _ _ h => h.to n' l' l'.length 0 hr rfl)
      have hlt := H.lt
      have hge : 0 ≤ num := (validV_iff.1 (by have := H.val; simp only [Bool.and_eq_true] at this; exact this.1)).1
      have hnx := Lib.hid H.nx
      have hle := H.le
      have hid := Lib.hid H.ids
      have HR := Lib.hid hr
      have n64' : In64 n' := by rw [hnx.out]; exact ⟨by omega, by omega⟩
      clear nx hr H
      go_upto_region 8 with (go_at_call 24; refine NX.out.mono ?_; rintro e w6 ⟨A6, c6, rfl, hc6, hr6, hq6⟩)
      have b7 := (B2.out.trans (hq6.mono sg)).alloc (Nat.le_trans sg hq6.size) (.cells #[.int .i64 n', .slice A6 l'.length c6] 31)
      have s7 : G ≤ (w6.alloc (.cells #[.int .i64 n', .slice A6 l'.length c6] 31)).heap.size := by have := hq6.size; simp; omega
      have T7 := (blk_up T2.out hq6).alloc (.cells #[.int .i64 n', .slice A6 l'.length c6] 31)
      have L7 := (LL5.out.up hq6).new (.cells #[.int .i64 n', .slice A6 l'.length c6] 31)
      have Q7 := (QQ5.out.up hq6).new (.cells #[.int .i64 n', .slice A6 l'.length c6] 31)
      have k7 := blk2 (Blk.new w6 31 #[.int .i64 n', .slice A6 l'.length c6])
      have M7 : LS (w6.alloc (.cells #[.int .i64 n', .slice A6 l'.length c6] 31)) _ l' A6 c6 := (LS.of hr6 rfl hc6 (by omega) (in_ids hid.out)).new _
      clear NX k5 B2 T2 LL5 QQ5 hq6 hr6 sg
      generalize (w6.alloc (.cells #[.int .i64 n', .slice A6 l'.length c6] 31)) = w7 at b7 s7 T7 L7 Q7 k7 M7 ⊢
      generalize w6.heap.size = g7 at k7 ⊢
      have nx := viewNext_any n' l' q A6 C c6 d w7.heap.size w7 (M7.vw n' n64') Q7 (Nat.le_refl _)
      obtain ⟨⟨⟨n2, m⟩, e2⟩, hr2⟩ : ∃ r, next n' l' q = r := ⟨_, rfl⟩
      have B7 := Lib.hid b7
      have TT7 := Lib.hid T7
      have LL7 := Lib.hid L7
      clear b7 T7 L7 Q7 M7
      by_cases he2 : e2 = 0
      · subst he2
        obtain ⟨r1, r2⟩ := next_back HR.out hr2
        subst r1 r2
        have NX := Lib.hid (show Calls Try.prog 24 #[.agg #[.int .i64 n', .slice A6 l'.length c6], .slice C q.length d] w7 (NextS w7 (num + 2) m.length m 0) from nx.mono fun _ _ h => h.to (num + 2) m m.length 0 hr2 rfl)
        have SA := Lib.hid (fun (W : World) (X Y : Option Addr) (x y : Nat) (h : LS W W.heap.size m X x) (h' : LS W W.heap.size m Y y) => law3same_any X Y x y _ _ m m W h.rd h'.rd h.l40 h'.l40)
        clear nx hr2
        go_wp2_with (first
          | (go_at_call 24; refine NX.out.mono ?_; rintro e w8 ⟨A8, c8, rfl, hc8, hr8, hq8⟩; have b9 := Lib.hid ((B7.out.trans (hq8.mono s7)).alloc (Nat.le_trans s7 hq8.size) (.cells #[.int .i64 (num + 2), .slice A8 m.length c8] 31)); have k9 := blk2 ((blk_up TT7.out hq8).alloc (.cells #[.int .i64 (num + 2), .slice A8 m.length c8] 31)); have k8 := blk2 (Blk.new w8 31 #[.int .i64 (num + 2), .slice A8 m.length c8]); have l9 := Lib.hid ((LL7.out.up hq8).new (.cells #[.int .i64 (num + 2), .slice A8 m.length c8] 31)); have m9 := Lib.hid (show LS (w8.alloc (.cells #[.int .i64 (num + 2), .slice A8 m.length c8] 31)) _ m A8 c8 from (LS.of hr8 rfl hc8 (by omega) LL7.out.el).new _))
          | (go_at_call 29; refine (SA.out _ A8 A c8 c m9.out l9.out).mono ?_; rintro e w10 ⟨rfl, k, rfl⟩)
          | fail)
        go_ret
        refine ⟨?_, ?_⟩
        · simp
        · rw [HG.out]; exact below_drewN' b9.out _
      · have fe : ((e2 : Int) != 0) = true := bneT (by omega)
        have NX := Lib.hid (show Calls Try.prog 24 #[.agg #[.int .i64 n', .slice A6 l'.length c6], .slice C q.length d] w7 (NextS w7 n2 m.length m e2) from nx.mono fun _ _ h => h.to n2 m m.length e2 hr2 rfl)
        clear nx hr2 he2
        go_wp2_with (go_at_call 24; refine NX.out.mono ?_; rintro e w8 ⟨A8, c8, rfl, hc8, hr8, hq8⟩)
        go_ret
        exact ⟨rfl, by rw [HG.out]; exact (B7.out.trans (hq8.mono s7)).alloc (Nat.le_trans s7 hq8.size) _⟩
    · have fe : ((e' : Int) != 0) = true := bneT (by omega)
      have NX := Lib.hid (show Calls Try.prog 24 #[.agg #[.int .i64 num, .slice A l.length c], .slice C q.length d] w5 (NextS w5 n' l'.length l' e') from nx.mono fun _ _ h => h.to n' l' l'.length e' hr rfl)
      clear nx hr he
      go_wp2_with (go_at_call 24; refine NX.out.mono ?_; rintro e w6 ⟨A6, c6, rfl, hc6, hr6, hq6⟩)
      go_ret
      exact ⟨rfl, by rw [HG.out]; exact (B2.out.trans (hq6.mono sg)).alloc (Nat.le_trans sg hq6.size) _⟩
  · have SM := Lib.hid (small2_at wa A C l.length q.length c d hl hl' false (by simp; omega))
    have b2 := b1.out.alloc (by rw [← HG.out]; exact b1.out.size) (.cells #[.slice A l.length c, .slice C q.length d] 22)
    go_wp2_with (go_at_call 11; refine SM.out.mono ?_; rintro e ws ⟨rfl, rfl⟩)
    go_ret
    exact ⟨rfl, by rw [HG.out]; exact b2⟩
end Go.Proofs.Yteiolhbjgfkdeaa.V
