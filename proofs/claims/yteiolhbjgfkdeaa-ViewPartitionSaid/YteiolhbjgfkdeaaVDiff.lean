/- Layer 3: ViewDiff's walk. -/
import Derived.Test.YteiolhbjgfkdeaaVNext
namespace Go.Proofs.Yteiolhbjgfkdeaa.V
set_option linter.unusedVariables false
open Go.RowKit
open Go.Proofs.Yteiolhbjgfkdeaa.W

theorem hasB_diff {n1 n2 : Int} {a b : List Int} (h : (validV n1 a && validV n2 b) = true) (id : Int) : hasB (diff n1 a n2 b) id = (hasB a id != hasB b id) := by
  simp only [hasB_mem, mem_diff h]
  by_cases h1 : id ∈ a <;> by_cases h2 : id ∈ b <;> simp [h1, h2]
theorem diff_len (n1 n2 : Int) (a b : List Int) : (diff n1 a n2 b).length ≤ a.length + b.length := by
  have h1 := among_le a b false
  have h2 := among_le b a false
  unfold diff
  split
  · rw [len_insAll]; omega
  · simp
theorem diff_in (n1 n2 : Int) (a b : List Int) (ha : ∀ x ∈ a, In64 x) (hb : ∀ x ∈ b, In64 x) : ∀ x ∈ diff n1 a n2 b, In64 x := by
  intro x hx
  by_cases h : (validV n1 a && validV n2 b) = true
  · rcases (mem_diff h x).1 hx with hx | hx
    · exact ha x hx.1
    · exact hb x hx.1
  · unfold diff at hx
    simp [h] at hx
set_option maxRecDepth 100000 in
set_option maxHeartbeats 4000000 in
theorem diff_walk (num n2 id : Int) (l l2 q : List Int) (A A2 C : Option Addr) (c c2 d : Nat) (w : World) (hn : In64 num) (hn2 : In64 n2) (h : LR w w.heap.size l A c) (h2 : LR w w.heap.size l2 A2 c2) (h' : LR w w.heap.size q C d) :
    Calls Try.prog 7 #[.agg #[.int .i64 num, .slice A l.length c], .agg #[.int .i64 n2, .slice A2 l2.length c2], .slice C q.length d, .int .i64 id] w (PB w true) := by
  have b0 := Lib.hid (((Below.refl w.heap.size w).alloc (Nat.le_refl _) (.cells #[.int .i64 num, .slice A l.length c] 31)).alloc (by simp) (.cells #[.int .i64 n2, .slice A2 l2.length c2] 31))
  have t0 := Lib.hid (two_blk w 31 #[.int .i64 num, .slice A l.length c] #[.int .i64 n2, .slice A2 l2.length c2])
  have l0 := Lib.hid ((h.new (.cells #[.int .i64 num, .slice A l.length c] 31)).new (.cells #[.int .i64 n2, .slice A2 l2.length c2] 31))
  have m0 := Lib.hid ((h2.new (.cells #[.int .i64 num, .slice A l.length c] 31)).new (.cells #[.int .i64 n2, .slice A2 l2.length c2] 31))
  have q0 := Lib.hid ((h'.new (.cells #[.int .i64 num, .slice A l.length c] 31)).new (.cells #[.int .i64 n2, .slice A2 l2.length c2] 31))
  have hl := h.l63
  have hl2 := h2.l63
  have hl' := h'.l63
  have AW := Lib.hid (fun W => awake_any W)
  clear h h' h2
  go_enter Try.func7, Try.ntmps7
  go_upto_region 3 with (go_at_call 10; refine (AW.out _).mono ?_; rintro e wa ⟨rfl, hqa⟩)
  have b1 := Lib.hid (b0.out.trans (hqa.mono b0.out.size))
  have t1 := blk_up t0.out.1 hqa
  have u1 := blk_up t0.out.2 hqa
  have k1 := blk2 t1
  have j1 := blk2 u1
  have l1 := l0.out.up hqa
  have m1 := m0.out.up hqa
  have q1 := q0.out.up hqa
  generalize hg1 : w.heap.size + 1 = g1 at *
  clear hg1
  generalize hG : w.heap.size = G at *
  have HG := Lib.hid hG
  clear hG b0 t0 l0 m0 q0 AW hqa
  have sa : G ≤ wa.heap.size := by rw [← HG.out]; exact b1.out.size
  by_cases hs : l.length ≤ 100 ∧ (l2.length ≤ 100 ∧ q.length ≤ 100)
  · obtain ⟨s1, s2, s3⟩ := hs
    have SM := Lib.hid (small3_at wa A A2 C l.length l2.length q.length c c2 d hl hl2 hl' true (by simp [s1, s2, s3]))
    have b2 := b1.out.alloc sa (.cells #[.slice A l.length c, .slice A2 l2.length c2, .slice C q.length d] 22)
    have sg : G ≤ (wa.alloc (.cells #[.slice A l.length c, .slice A2 l2.length c2, .slice C q.length d] 22)).heap.size := by rw [← HG.out]; exact b2.size
    have t2 := t1.alloc (.cells #[.slice A l.length c, .slice A2 l2.length c2, .slice C q.length d] 22)
    have u2 := u1.alloc (.cells #[.slice A l.length c, .slice A2 l2.length c2, .slice C q.length d] 22)
    have l5 := l1.new (.cells #[.slice A l.length c, .slice A2 l2.length c2, .slice C q.length d] 22)
    have m5 := m1.new (.cells #[.slice A l.length c, .slice A2 l2.length c2, .slice C q.length d] 22)
    have q5 := q1.new (.cells #[.slice A l.length c, .slice A2 l2.length c2, .slice C q.length d] 22)
    clear t1 u1 l1 m1 q1 b1
    go_upto_region 5 with (go_at_call 11; refine SM.out.mono ?_; rintro e ws ⟨rfl, rfl⟩)
    clear SM k1 j1 sa
    generalize (wa.alloc (.cells #[.slice A l.length c, .slice A2 l2.length c2, .slice C q.length d] 22)) = w5 at b2 sg t2 u2 l5 m5 q5 ⊢
    generalize G = g0 at t2 ⊢
    have k5 := blk2 t2
    have L5 := l5.ls s1
    have M5 := m5.ls s2
    have Q5 := q5.ls s3
    obtain ⟨⟨⟨n', l'⟩, e'⟩, hr⟩ : ∃ r, next num l q = r := ⟨_, rfl⟩
    obtain ⟨n64', hle, hel⟩ := next_small hr hn
    have NX := Lib.hid (show Calls Try.prog 24 #[.agg #[.int .i64 num, .slice A l.length c], .slice C q.length d] w5 (NextS w5 n' l'.length l' e') from (viewNext_any num l q A C c d w5.heap.size w5 (L5.vw num hn) Q5 (Nat.le_refl _)).mono fun _ _ h => h.to n' l' l'.length e' hr rfl)
    have B2 := Lib.hid b2
    have T2 := Lib.hid t2
    have U2 := Lib.hid u2
    have LL5 := Lib.hid L5
    have MM5 := Lib.hid M5
    have QQ5 := Lib.hid Q5
    have HR := Lib.hid hr
    have HL := Lib.hid hel
    clear b2 t2 u2 l5 m5 q5 L5 M5 Q5 hr hel
    go_upto_region 6 with (go_at_call 24; refine NX.out.mono ?_; rintro e w6 ⟨A6, c6, rfl, hc6, hr6, hq6⟩)
    have b7 := (B2.out.trans (hq6.mono sg)).alloc (Nat.le_trans sg hq6.size) (.cells #[.int .i64 n', .slice A6 l'.length c6] 31)
    have s7 : G ≤ (w6.alloc (.cells #[.int .i64 n', .slice A6 l'.length c6] 31)).heap.size := by have := hq6.size; simp; omega
    have T7 := (blk_up T2.out hq6).alloc (.cells #[.int .i64 n', .slice A6 l'.length c6] 31)
    have U7 := (blk_up U2.out hq6).alloc (.cells #[.int .i64 n', .slice A6 l'.length c6] 31)
    have X7 := Blk.new w6 31 #[.int .i64 n', .slice A6 l'.length c6]
    have L7 := (LL5.out.up hq6).new (.cells #[.int .i64 n', .slice A6 l'.length c6] 31)
    have M7 := (MM5.out.up hq6).new (.cells #[.int .i64 n', .slice A6 l'.length c6] 31)
    have Q7 := (QQ5.out.up hq6).new (.cells #[.int .i64 n', .slice A6 l'.length c6] 31)
    have N7 : LS (w6.alloc (.cells #[.int .i64 n', .slice A6 l'.length c6] 31)) _ l' A6 c6 := (LS.of hr6 rfl hc6 (by omega) HL.out).new _
    clear NX k5 B2 T2 U2 LL5 MM5 QQ5 hq6 hr6 sg HL
    generalize (w6.alloc (.cells #[.int .i64 n', .slice A6 l'.length c6] 31)) = w7 at b7 s7 T7 U7 X7 L7 M7 Q7 N7 ⊢
    generalize w6.heap.size = g9 at X7 ⊢
    have BB7 := Lib.hid b7
    have B0 := Lib.hid (show Tri w7 g0 g1 g9 #[.int .i64 num, .slice A l.length c] #[.int .i64 n2, .slice A2 l2.length c2] #[.int .i64 n', .slice A6 l'.length c6] from ⟨T7, U7, X7⟩)
    have k0 := B0.out.six
    have LL7 := Lib.hid L7
    have MM7 := Lib.hid M7
    have QQ7 := Lib.hid Q7
    have NN7 := Lib.hid N7
    have SA := Lib.hid same_at
    clear b7 T7 U7 X7 L7 M7 Q7 N7
    by_cases he : e' = 0
    · subst he
      have KP := Lib.hid (fun (W : World) (hW : Below w7.heap.size w7 W) => show Calls Try.prog 40 #[.agg #[.int .i64 num, .slice A l.length c], .agg #[.int .i64 n', .slice A6 l'.length c6]] W (OutI W q q.length) from (viewDiff_any num n' l l' A A6 c c6 _ W ((LL7.out.vw num hn).below hW) ((NN7.out.vw n' n64').below hW) hW.size).mono fun _ _ h => h.to q q.length (diff_next HR.out).1 rfl)
      have KQ := Lib.hid (fun (W : World) (hW : Below w7.heap.size w7 W) => show Calls Try.prog 40 #[.agg #[.int .i64 n', .slice A6 l'.length c6], .agg #[.int .i64 num, .slice A l.length c]] W (OutI W q q.length) from (viewDiff_any n' num l' l A6 A c6 c _ W ((NN7.out.vw n' n64').below hW) ((LL7.out.vw num hn).below hW) hW.size).mono fun _ _ h => h.to q q.length (diff_next HR.out).2 rfl)
      go_upto_region 8 with (first
        | (go_at_call 40; (with_reducible refine (KP.out _ (Below.refl _ _)).mono ?_); rintro e y1 ⟨X1, z1, rfl, hc1, ho1, hr1, hq1⟩; (have h1 : Below w7.heap.size w7 y1 := hq1); (have B1 := Lib.hid (B0.out.below h1)); (have k1 := B1.out.six))
        | (go_at_call 29; (with_reducible refine (SA.out _ q X1 C q.length z1 d rfl (by omega) hr1 ((QQ7.out.rd.below h1).more h1.size)).mono ?_); rintro e y2 ⟨rfl, hq2⟩; (have h2 : Below w7.heap.size w7 y2 := bstep h1 hq2); (have B2 := Lib.hid (B0.out.below h2)); (have k2 := B2.out.six))
        | (go_at_call 40; (with_reducible refine (KQ.out _ h2).mono ?_); rintro e y3 ⟨X3, z3, rfl, hc3, ho3, hr3, hq3⟩; (have h3 : Below w7.heap.size w7 y3 := bstep h2 hq3); (have B3 := Lib.hid (B0.out.below h3)); (have k3 := B3.out.six))
        | (go_at_call 29; (with_reducible refine (SA.out _ q X3 C q.length z3 d rfl (by omega) hr3 ((QQ7.out.rd.below h3).more h3.size)).mono ?_); rintro e y4 ⟨rfl, hq4⟩; (have h4 : Below w7.heap.size w7 y4 := bstep h3 hq4); (have B4 := Lib.hid (B0.out.below h4)); (have k4 := B4.out.six))
        | fail)
      have s8 : G ≤ y4.heap.size := Nat.le_trans s7 h4.size
      have BB8 := Lib.hid (BB7.out.trans (h4.mono s7))
      have LL8 := Lib.hid (LL7.out.up h4)
      have MM8 := Lib.hid (MM7.out.up h4)
      have KK := B4.out
      clear B0 k0 k1 k2 k3 k4
      have B0 := Lib.hid KK
      have k4 := B0.out.six
      clear KP KQ KK hr1 hr3 ho1 ho3
      have R0 := Below.refl y4.heap.size y4
      cases hv : validV num l
      · have KV := Lib.hid (fun (W : World) (hW : Below y4.heap.size y4 W) => show Calls Try.prog 27 #[.agg #[.int .i64 num, .slice A l.length c]] W (PB W false) from by have h := viewValid_any num l A c _ W ((LL8.out.vw num hn).below hW) hW.size; rw [hv] at h; exact h)
        have KD := Lib.hid (fun (W : World) (hW : Below y4.heap.size y4 W) => show Calls Try.prog 40 #[.agg #[.int .i64 num, .slice A l.length c], .agg #[.int .i64 n2, .slice A2 l2.length c2]] W (OutI W [] 0) from (viewDiff_any num n2 l l2 A A2 c c2 _ W ((LL8.out.vw num hn).below hW) ((MM8.out.vw n2 hn2).below hW) hW.size).mono fun _ _ h => h.to [] 0 (by unfold diff; simp [hv]) rfl)
        clear hv
        go_wp2_with (first
          | (go_at_call 27; (with_reducible refine (KV.out _ R0).mono ?_); rintro e y5 ⟨rfl, hq5⟩; (have h5 : Below y4.heap.size y4 y5 := hq5); (have B5 := Lib.hid (B0.out.below h5)); (have k5 := B5.out.six))
          | (go_at_call 40; (with_reducible refine (KD.out _ h5).mono ?_); rintro e y6 ⟨X6, z6, rfl, hc6, ho6, hr6, hq6⟩; (have h6 : Below y4.heap.size y4 y6 := bstep h5 hq6); (have B6 := Lib.hid (B0.out.below h6)); (have k6 := B6.out.six))
          | fail)
        go_ret
        exact ⟨rfl, by rw [HG.out]; exact BB8.out.trans (h6.mono s8)⟩
      cases hw : validV n2 l2
      · have KV := Lib.hid (fun (W : World) (hW : Below y4.heap.size y4 W) => show Calls Try.prog 27 #[.agg #[.int .i64 num, .slice A l.length c]] W (PB W true) from by have h := viewValid_any num l A c _ W ((LL8.out.vw num hn).below hW) hW.size; rw [hv] at h; exact h)
        have KW := Lib.hid (fun (W : World) (hW : Below y4.heap.size y4 W) => show Calls Try.prog 27 #[.agg #[.int .i64 n2, .slice A2 l2.length c2]] W (PB W false) from by have h := viewValid_any n2 l2 A2 c2 _ W ((MM8.out.vw n2 hn2).below hW) hW.size; rw [hw] at h; exact h)
        have KD := Lib.hid (fun (W : World) (hW : Below y4.heap.size y4 W) => show Calls Try.prog 40 #[.agg #[.int .i64 num, .slice A l.length c], .agg #[.int .i64 n2, .slice A2 l2.length c2]] W (OutI W [] 0) from (viewDiff_any num n2 l l2 A A2 c c2 _ W ((LL8.out.vw num hn).below hW) ((MM8.out.vw n2 hn2).below hW) hW.size).mono fun _ _ h => h.to [] 0 (by unfold diff; simp [hv, hw]) rfl)
        clear hv hw
        go_wp2_with (first
          | (go_at_call 27; (with_reducible refine (KV.out _ R0).mono ?_); rintro e y5 ⟨rfl, hq5⟩; (have h5 : Below y4.heap.size y4 y5 := hq5); (have B5 := Lib.hid (B0.out.below h5)); (have k5 := B5.out.six))
          | (go_at_call 27; (with_reducible refine (KW.out _ h5).mono ?_); rintro e y6 ⟨rfl, hq6⟩; (have h6 : Below y4.heap.size y4 y6 := bstep h5 hq6); (have B6 := Lib.hid (B0.out.below h6)); (have k6 := B6.out.six))
          | (go_at_call 40; (with_reducible refine (KD.out _ h6).mono ?_); rintro e y7 ⟨X7, z7, rfl, hc7, ho7, hr7, hq7⟩; (have h7 : Below y4.heap.size y4 y7 := bstep h6 hq7); (have B7 := Lib.hid (B0.out.below h7)); (have k7 := B7.out.six))
          | fail)
        go_ret
        exact ⟨rfl, by rw [HG.out]; exact BB8.out.trans (h7.mono s8)⟩
      have KV := Lib.hid (fun (W : World) (hW : Below y4.heap.size y4 W) => show Calls Try.prog 27 #[.agg #[.int .i64 num, .slice A l.length c]] W (PB W true) from by have h := viewValid_any num l A c _ W ((LL8.out.vw num hn).below hW) hW.size; rw [hv] at h; exact h)
      have KW := Lib.hid (fun (W : World) (hW : Below y4.heap.size y4 W) => show Calls Try.prog 27 #[.agg #[.int .i64 n2, .slice A2 l2.length c2]] W (PB W true) from by have h := viewValid_any n2 l2 A2 c2 _ W ((MM8.out.vw n2 hn2).below hW) hW.size; rw [hw] at h; exact h)
      have KD := Lib.hid (fun (W : World) (hW : Below y4.heap.size y4 W) => show Calls Try.prog 40 #[.agg #[.int .i64 num, .slice A l.length c], .agg #[.int .i64 n2, .slice A2 l2.length c2]] W (OutI W (diff num l n2 l2) (diff num l n2 l2).length) from (viewDiff_any num n2 l l2 A A2 c c2 _ W ((LL8.out.vw num hn).below hW) ((MM8.out.vw n2 hn2).below hW) hW.size).mono fun _ _ h => h.to (diff num l n2 l2) (diff num l n2 l2).length rfl rfl)
      have KE := Lib.hid (fun (W : World) (hW : Below y4.heap.size y4 W) => show Calls Try.prog 40 #[.agg #[.int .i64 n2, .slice A2 l2.length c2], .agg #[.int .i64 num, .slice A l.length c]] W (OutI W (diff num l n2 l2) (diff num l n2 l2).length) from (viewDiff_any n2 num l2 l A2 A c2 c _ W ((MM8.out.vw n2 hn2).below hW) ((LL8.out.vw num hn).below hW) hW.size).mono fun _ _ h => h.to (diff num l n2 l2) (diff num l n2 l2).length diff_comm rfl)
      have KF := Lib.hid (fun (W : World) (hW : Below y4.heap.size y4 W) => show Calls Try.prog 40 #[.agg #[.int .i64 num, .slice A l.length c], .agg #[.int .i64 num, .slice A l.length c]] W (OutI W [] 0) from (viewDiff_any num num l l A A c c _ W ((LL8.out.vw num hn).below hW) ((LL8.out.vw num hn).below hW) hW.size).mono fun _ _ h => h.to [] 0 diff_self rfl)
      have HD := Lib.hid (show hasB (diff num l n2 l2) id = (hasB l id != hasB l2 id) from hasB_diff (by rw [hv, hw]; rfl) id)
      have hdl := diff_len num n2 l l2
      have HEL := Lib.hid (diff_in num n2 l l2 LL8.out.el MM8.out.el)
      generalize diff num l n2 l2 = D at *
      clear hv hw
      go_upto_region 10 with (first
        | (go_at_call 27; (with_reducible refine (KV.out _ R0).mono ?_); rintro e y5 ⟨rfl, hq5⟩; (have h5 : Below y4.heap.size y4 y5 := hq5); (have B5 := Lib.hid (B0.out.below h5)); (have k5 := B5.out.six))
        | (go_at_call 27; (with_reducible refine (KW.out _ h5).mono ?_); rintro e y6 ⟨rfl, hq6⟩; (have h6 : Below y4.heap.size y4 y6 := bstep h5 hq6); (have B6 := Lib.hid (B0.out.below h6)); (have k6 := B6.out.six))
        | fail)
      go_upto_region 11 with (first
        | (go_at_call 40; (with_reducible refine (KD.out _ h6).mono ?_); rintro e y7 ⟨X7, z7, rfl, hc7, ho7, hr7, hq7⟩; (have h7 : Below y4.heap.size y4 y7 := bstep h6 hq7); (have B7 := Lib.hid (B0.out.below h7)); (have k7 := B7.out.six))
        | fail)
      have LD := Lib.hid (show LS y7 y7.heap.size D X7 z7 from LS.of hr7 rfl hc7 (by omega) HEL.out)
      have C1 := Lib.hid (fun (W : World) (hW : Below y7.heap.size y7 W) => show Calls Try.prog 16 #[.slice X7 D.length z7, .int .i64 id] W (PB W (hasB D id)) from viewContains_any X7 z7 _ D id W (LD.out.below hW) hW.size)
      have C2 := Lib.hid (fun (W : World) (hW : Below y4.heap.size y4 W) => viewContains_any A c _ l id W (LL8.out.below hW) hW.size)
      have C3 := Lib.hid (fun (W : World) (hW : Below y4.heap.size y4 W) => viewContains_any A2 c2 _ l2 id W (MM8.out.below hW) hW.size)
      generalize hasB D id = P at *
      generalize hasB l id = p1 at *
      generalize hasB l2 id = p2 at *
      clear k5 k6 k7
      cases P <;> cases p1 <;> cases p2 <;> first | (exfalso; have := HD.out; revert this; decide) | skip
      all_goals
        go_region_held3 (fun w' => w'.cell? ⟨g0, 0, none⟩ = some (.int .i64 num) ∧ w'.cell? ⟨g0, 1, none⟩ = some (.slice A l.length c) ∧ w'.cell? ⟨g1, 0, none⟩ = some (.int .i64 n2) ∧ w'.cell? ⟨g1, 1, none⟩ = some (.slice A2 l2.length c2) ∧ w'.cell? ⟨g9, 0, none⟩ = some (.int .i64 n') ∧ w'.cell? ⟨g9, 1, none⟩ = some (.slice A6 l'.length c6))
          (first | exact B13.out.six | exact B12.out.six | exact B11.out.six | exact B10.out.six | exact B9.out.six | exact B8.out.six | exact B7.out.six)
        (first
            | (go_at_call 40; (with_reducible refine (KE.out _ (by exact h7.drew)).mono ?_); rintro e y8 ⟨X8, z8, rfl, hc8, ho8, hr8, hq8⟩; (have h8 : Below y4.heap.size y4 y8 := bstep h7 (((Below.refl _ _).drew).trans hq8)); (have x8 : Below y7.heap.size y7 y8 := ((Below.refl _ _).drew).trans hq8); (have B8 := Lib.hid (B0.out.below h8)))
            | (go_at_call 29; (with_reducible refine (SA.out _ D X7 X8 D.length z7 z8 rfl (by omega) ((LD.out.rd.below x8).more x8.size) hr8).mono ?_); rintro e y9 ⟨rfl, hq9⟩; (have h9 : Below y4.heap.size y4 y9 := bstep h8 hq9); (have x9 : Below y7.heap.size y7 y9 := bstep x8 hq9); (have B9 := Lib.hid (B0.out.below h9)))
            | (go_at_call 16; (with_reducible refine (C1.out _ (by exact x9)).mono ?_); rintro e y10 ⟨rfl, hq10⟩; (have h10 : Below y4.heap.size y4 y10 := bstep h9 hq10); (have x10 : Below y7.heap.size y7 y10 := bstep x9 hq10); (have B10 := Lib.hid (B0.out.below h10)))
            | (go_at_call 16; (with_reducible refine (C2.out _ (by exact h10)).mono ?_); rintro e y11 ⟨rfl, hq11⟩; (have h11 : Below y4.heap.size y4 y11 := bstep h10 hq11); (have x11 : Below y7.heap.size y7 y11 := bstep x10 hq11); (have B11 := Lib.hid (B0.out.below h11)))
            | (go_at_call 16; (with_reducible refine (C3.out _ (by exact h11)).mono ?_); rintro e y12 ⟨rfl, hq12⟩; (have h12 : Below y4.heap.size y4 y12 := bstep h11 hq12); (have x12 : Below y7.heap.size y7 y12 := bstep x11 hq12); (have B12 := Lib.hid (B0.out.below h12)))
            | (go_at_call 40; (with_reducible refine (KF.out _ (by exact h12)).mono ?_); rintro e y13 ⟨X13, z13, rfl, hc13, ho13, hr13, hq13⟩; (have h13 : Below y4.heap.size y4 y13 := bstep h12 hq13); (have x13 : Below y7.heap.size y7 y13 := bstep x12 hq13); (have B13 := Lib.hid (B0.out.below h13)))
            | fail)
        all_goals
          go_wp2
          go_ret
          refine ⟨?_, ?_⟩
          · simp
          · rw [HG.out]; exact BB8.out.trans (h13.mono s8)
    · have fe : ((e' : Int) == 0) = false := beqF (by omega)
      go_upto_region 8 with fail
      have s8 := s7
      have BB8 := BB7
      have LL8 := LL7
      have MM8 := MM7
      have R0 := Below.refl w7.heap.size w7
      cases hv : validV num l
      · have KV := Lib.hid (fun (W : World) (hW : Below w7.heap.size w7 W) => show Calls Try.prog 27 #[.agg #[.int .i64 num, .slice A l.length c]] W (PB W false) from by have h := viewValid_any num l A c _ W ((LL8.out.vw num hn).below hW) hW.size; rw [hv] at h; exact h)
        have KD := Lib.hid (fun (W : World) (hW : Below w7.heap.size w7 W) => show Calls Try.prog 40 #[.agg #[.int .i64 num, .slice A l.length c], .agg #[.int .i64 n2, .slice A2 l2.length c2]] W (OutI W [] 0) from (viewDiff_any num n2 l l2 A A2 c c2 _ W ((LL8.out.vw num hn).below hW) ((MM8.out.vw n2 hn2).below hW) hW.size).mono fun _ _ h => h.to [] 0 (by unfold diff; simp [hv]) rfl)
        clear hv
        go_wp2_with (first
          | (go_at_call 27; (with_reducible refine (KV.out _ R0).mono ?_); rintro e y5 ⟨rfl, hq5⟩; (have h5 : Below w7.heap.size w7 y5 := hq5); (have B5 := Lib.hid (B0.out.below h5)); (have k5 := B5.out.six))
          | (go_at_call 40; (with_reducible refine (KD.out _ h5).mono ?_); rintro e y6 ⟨X6, z6, rfl, hc6, ho6, hr6, hq6⟩; (have h6 : Below w7.heap.size w7 y6 := bstep h5 hq6); (have B6 := Lib.hid (B0.out.below h6)); (have k6 := B6.out.six))
          | fail)
        go_ret
        exact ⟨rfl, by rw [HG.out]; exact BB8.out.trans (h6.mono s8)⟩
      cases hw : validV n2 l2
      · have KV := Lib.hid (fun (W : World) (hW : Below w7.heap.size w7 W) => show Calls Try.prog 27 #[.agg #[.int .i64 num, .slice A l.length c]] W (PB W true) from by have h := viewValid_any num l A c _ W ((LL8.out.vw num hn).below hW) hW.size; rw [hv] at h; exact h)
        have KW := Lib.hid (fun (W : World) (hW : Below w7.heap.size w7 W) => show Calls Try.prog 27 #[.agg #[.int .i64 n2, .slice A2 l2.length c2]] W (PB W false) from by have h := viewValid_any n2 l2 A2 c2 _ W ((MM8.out.vw n2 hn2).below hW) hW.size; rw [hw] at h; exact h)
        have KD := Lib.hid (fun (W : World) (hW : Below w7.heap.size w7 W) => show Calls Try.prog 40 #[.agg #[.int .i64 num, .slice A l.length c], .agg #[.int .i64 n2, .slice A2 l2.length c2]] W (OutI W [] 0) from (viewDiff_any num n2 l l2 A A2 c c2 _ W ((LL8.out.vw num hn).below hW) ((MM8.out.vw n2 hn2).below hW) hW.size).mono fun _ _ h => h.to [] 0 (by unfold diff; simp [hv, hw]) rfl)
        clear hv hw
        go_wp2_with (first
          | (go_at_call 27; (with_reducible refine (KV.out _ R0).mono ?_); rintro e y5 ⟨rfl, hq5⟩; (have h5 : Below w7.heap.size w7 y5 := hq5); (have B5 := Lib.hid (B0.out.below h5)); (have k5 := B5.out.six))
          | (go_at_call 27; (with_reducible refine (KW.out _ h5).mono ?_); rintro e y6 ⟨rfl, hq6⟩; (have h6 : Below w7.heap.size w7 y6 := bstep h5 hq6); (have B6 := Lib.hid (B0.out.below h6)); (have k6 := B6.out.six))
          | (go_at_call 40; (with_reducible refine (KD.out _ h6).mono ?_); rintro e y7 ⟨X7, z7, rfl, hc7, ho7, hr7, hq7⟩; (have h7 : Below w7.heap.size w7 y7 := bstep h6 hq7); (have B7 := Lib.hid (B0.out.below h7)); (have k7 := B7.out.six))
          | fail)
        go_ret
        exact ⟨rfl, by rw [HG.out]; exact BB8.out.trans (h7.mono s8)⟩
      have KV := Lib.hid (fun (W : World) (hW : Below w7.heap.size w7 W) => show Calls Try.prog 27 #[.agg #[.int .i64 num, .slice A l.length c]] W (PB W true) from by have h := viewValid_any num l A c _ W ((LL8.out.vw num hn).below hW) hW.size; rw [hv] at h; exact h)
      have KW := Lib.hid (fun (W : World) (hW : Below w7.heap.size w7 W) => show Calls Try.prog 27 #[.agg #[.int .i64 n2, .slice A2 l2.length c2]] W (PB W true) from by have h := viewValid_any n2 l2 A2 c2 _ W ((MM8.out.vw n2 hn2).below hW) hW.size; rw [hw] at h; exact h)
      have KD := Lib.hid (fun (W : World) (hW : Below w7.heap.size w7 W) => show Calls Try.prog 40 #[.agg #[.int .i64 num, .slice A l.length c], .agg #[.int .i64 n2, .slice A2 l2.length c2]] W (OutI W (diff num l n2 l2) (diff num l n2 l2).length) from (viewDiff_any num n2 l l2 A A2 c c2 _ W ((LL8.out.vw num hn).below hW) ((MM8.out.vw n2 hn2).below hW) hW.size).mono fun _ _ h => h.to (diff num l n2 l2) (diff num l n2 l2).length rfl rfl)
      have KE := Lib.hid (fun (W : World) (hW : Below w7.heap.size w7 W) => show Calls Try.prog 40 #[.agg #[.int .i64 n2, .slice A2 l2.length c2], .agg #[.int .i64 num, .slice A l.length c]] W (OutI W (diff num l n2 l2) (diff num l n2 l2).length) from (viewDiff_any n2 num l2 l A2 A c2 c _ W ((MM8.out.vw n2 hn2).below hW) ((LL8.out.vw num hn).below hW) hW.size).mono fun _ _ h => h.to (diff num l n2 l2) (diff num l n2 l2).length diff_comm rfl)
      have KF := Lib.hid (fun (W : World) (hW : Below w7.heap.size w7 W) => show Calls Try.prog 40 #[.agg #[.int .i64 num, .slice A l.length c], .agg #[.int .i64 num, .slice A l.length c]] W (OutI W [] 0) from (viewDiff_any num num l l A A c c _ W ((LL8.out.vw num hn).below hW) ((LL8.out.vw num hn).below hW) hW.size).mono fun _ _ h => h.to [] 0 diff_self rfl)
      have HD := Lib.hid (show hasB (diff num l n2 l2) id = (hasB l id != hasB l2 id) from hasB_diff (by rw [hv, hw]; rfl) id)
      have hdl := diff_len num n2 l l2
      have HEL := Lib.hid (diff_in num n2 l l2 LL8.out.el MM8.out.el)
      generalize diff num l n2 l2 = D at *
      clear hv hw
      go_upto_region 10 with (first
        | (go_at_call 27; (with_reducible refine (KV.out _ R0).mono ?_); rintro e y5 ⟨rfl, hq5⟩; (have h5 : Below w7.heap.size w7 y5 := hq5); (have B5 := Lib.hid (B0.out.below h5)); (have k5 := B5.out.six))
        | (go_at_call 27; (with_reducible refine (KW.out _ h5).mono ?_); rintro e y6 ⟨rfl, hq6⟩; (have h6 : Below w7.heap.size w7 y6 := bstep h5 hq6); (have B6 := Lib.hid (B0.out.below h6)); (have k6 := B6.out.six))
        | fail)
      go_upto_region 11 with (first
        | (go_at_call 40; (with_reducible refine (KD.out _ h6).mono ?_); rintro e y7 ⟨X7, z7, rfl, hc7, ho7, hr7, hq7⟩; (have h7 : Below w7.heap.size w7 y7 := bstep h6 hq7); (have B7 := Lib.hid (B0.out.below h7)); (have k7 := B7.out.six))
        | fail)
      have LD := Lib.hid (show LS y7 y7.heap.size D X7 z7 from LS.of hr7 rfl hc7 (by omega) HEL.out)
      have C1 := Lib.hid (fun (W : World) (hW : Below y7.heap.size y7 W) => show Calls Try.prog 16 #[.slice X7 D.length z7, .int .i64 id] W (PB W (hasB D id)) from viewContains_any X7 z7 _ D id W (LD.out.below hW) hW.size)
      have C2 := Lib.hid (fun (W : World) (hW : Below w7.heap.size w7 W) => viewContains_any A c _ l id W (LL8.out.below hW) hW.size)
      have C3 := Lib.hid (fun (W : World) (hW : Below w7.heap.size w7 W) => viewContains_any A2 c2 _ l2 id W (MM8.out.below hW) hW.size)
      generalize hasB D id = P at *
      generalize hasB l id = p1 at *
      generalize hasB l2 id = p2 at *
      clear k5 k6 k7
      cases P <;> cases p1 <;> cases p2 <;> first | (exfalso; have := HD.out; revert this; decide) | skip
      all_goals
        go_region_held3 (fun w' => w'.cell? ⟨g0, 0, none⟩ = some (.int .i64 num) ∧ w'.cell? ⟨g0, 1, none⟩ = some (.slice A l.length c) ∧ w'.cell? ⟨g1, 0, none⟩ = some (.int .i64 n2) ∧ w'.cell? ⟨g1, 1, none⟩ = some (.slice A2 l2.length c2) ∧ w'.cell? ⟨g9, 0, none⟩ = some (.int .i64 n') ∧ w'.cell? ⟨g9, 1, none⟩ = some (.slice A6 l'.length c6))
          (first | exact B13.out.six | exact B12.out.six | exact B11.out.six | exact B10.out.six | exact B9.out.six | exact B8.out.six | exact B7.out.six)
        (first
            | (go_at_call 40; (with_reducible refine (KE.out _ (by exact h7.drew)).mono ?_); rintro e y8 ⟨X8, z8, rfl, hc8, ho8, hr8, hq8⟩; (have h8 : Below w7.heap.size w7 y8 := bstep h7 (((Below.refl _ _).drew).trans hq8)); (have x8 : Below y7.heap.size y7 y8 := ((Below.refl _ _).drew).trans hq8); (have B8 := Lib.hid (B0.out.below h8)))
            | (go_at_call 29; (with_reducible refine (SA.out _ D X7 X8 D.length z7 z8 rfl (by omega) ((LD.out.rd.below x8).more x8.size) hr8).mono ?_); rintro e y9 ⟨rfl, hq9⟩; (have h9 : Below w7.heap.size w7 y9 := bstep h8 hq9); (have x9 : Below y7.heap.size y7 y9 := bstep x8 hq9); (have B9 := Lib.hid (B0.out.below h9)))
            | (go_at_call 16; (with_reducible refine (C1.out _ (by exact x9)).mono ?_); rintro e y10 ⟨rfl, hq10⟩; (have h10 : Below w7.heap.size w7 y10 := bstep h9 hq10); (have x10 : Below y7.heap.size y7 y10 := bstep x9 hq10); (have B10 := Lib.hid (B0.out.below h10)))
            | (go_at_call 16; (with_reducible refine (C2.out _ (by exact h10)).mono ?_); rintro e y11 ⟨rfl, hq11⟩; (have h11 : Below w7.heap.size w7 y11 := bstep h10 hq11); (have x11 : Below y7.heap.size y7 y11 := bstep x10 hq11); (have B11 := Lib.hid (B0.out.below h11)))
            | (go_at_call 16; (with_reducible refine (C3.out _ (by exact h11)).mono ?_); rintro e y12 ⟨rfl, hq12⟩; (have h12 : Below w7.heap.size w7 y12 := bstep h11 hq12); (have x12 : Below y7.heap.size y7 y12 := bstep x11 hq12); (have B12 := Lib.hid (B0.out.below h12)))
            | (go_at_call 40; (with_reducible refine (KF.out _ (by exact h12)).mono ?_); rintro e y13 ⟨X13, z13, rfl, hc13, ho13, hr13, hq13⟩; (have h13 : Below w7.heap.size w7 y13 := bstep h12 hq13); (have x13 : Below y7.heap.size y7 y13 := bstep x12 hq13); (have B13 := Lib.hid (B0.out.below h13)))
            | fail)
        all_goals
          go_wp2
          go_ret
          refine ⟨?_, ?_⟩
          · simp
          · rw [HG.out]; exact BB8.out.trans (h13.mono s8)
  · have SM := Lib.hid (small3_at wa A A2 C l.length l2.length q.length c c2 d hl hl2 hl' false (by simp; omega))
    have b2 := b1.out.alloc sa (.cells #[.slice A l.length c, .slice A2 l2.length c2, .slice C q.length d] 22)
    go_wp2_with (go_at_call 11; refine SM.out.mono ?_; rintro e ws ⟨rfl, rfl⟩)
    go_ret
    exact ⟨rfl, by rw [HG.out]; exact b2⟩
end Go.Proofs.Yteiolhbjgfkdeaa.V
