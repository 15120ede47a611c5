/- Layer 3: ViewCodes' walk. -/
import Derived.Test.YteiolhbjgfkdeaaVNext
import Derived.OrdersHeld
import Derived.Deep.RegionHeld3
namespace Go.Proofs.Yteiolhbjgfkdeaa.V
set_option linter.unusedVariables false
set_option linter.unusedSimpArgs false
open Go.RowKit
open Go.Proofs.Yteiolhbjgfkdeaa.W
open Go.Lib (byteCells byteCells_length)

/-- Bytes as they come in: of whatever number. -/
structure BR (w : World) (B : Nat) (bs : List UInt8) (A : Option Addr) (c : Nat) : Prop where
  rd : Reads w B 1 A bs.length (byteCells bs)
  l63 : bs.length ≤ 9223372036854775807
  cap : bs.length ≤ c
theorem BR.up {w W : World} {bs : List UInt8} {A : Option Addr} {c : Nat} (h : BR w w.heap.size bs A c) (hq : Below w.heap.size w W) : BR W W.heap.size bs A c := { h with rd := (h.rd.below hq).more hq.size }
theorem BR.new {w : World} {bs : List UInt8} {A : Option Addr} {c : Nat} (h : BR w w.heap.size bs A c) (o : Obj) : BR (w.alloc o) (w.alloc o).heap.size bs A c := h.up ((Below.refl _ _).alloc (Nat.le_refl _) o)
theorem dec_small {bs : List UInt8} {dn : Int} {dl : List Int} {dk de : Nat} (h : decV bs = (((dn, dl), dk), de)) : In64 dn ∧ dl.length ≤ 16 ∧ (∀ x ∈ dl, In64 x) := by
  have z : In64 (0 : Int) := ⟨by decide, by decide⟩
  unfold decV at h
  split at h
  · simp only [Prod.mk.injEq] at h; obtain ⟨⟨⟨rfl, rfl⟩, _⟩, _⟩ := h; exact ⟨z, by simp, by simp⟩
  split at h
  · simp only [Prod.mk.injEq] at h; obtain ⟨⟨⟨rfl, rfl⟩, _⟩, _⟩ := h; exact ⟨z, by simp, by simp⟩
  split at h
  · simp only [Prod.mk.injEq] at h; obtain ⟨⟨⟨rfl, rfl⟩, _⟩, _⟩ := h; exact ⟨z, by simp, by simp⟩
  split at h
  · simp only [Prod.mk.injEq] at h; obtain ⟨⟨⟨rfl, rfl⟩, _⟩, _⟩ := h; exact ⟨z, by simp, by simp⟩
  rename_i h1 h2 h3 h4
  simp only [Prod.mk.injEq] at h
  obtain ⟨⟨⟨rfl, rfl⟩, _⟩, _⟩ := h
  have hv : validM (rdIs (List.drop (rdU bs).2.1 bs) 16).1 = true := by simpa using h4
  obtain ⟨_, g2, _, g4⟩ := validM_iff.1 hv
  exact ⟨⟨by omega, by omega⟩, g2, fun x hx => by have := g4 x hx; exact ⟨by omega, by omega⟩⟩
def Qua (W : World) (g1 g2 g3 g4 : Nat) (a b c d : Array Value) : Prop := Blk W g1 31 a ∧ Blk W g2 31 b ∧ Blk W g3 31 c ∧ Blk W g4 31 d
theorem Qua.below {w W : World} {g1 g2 g3 g4 : Nat} {a b c d : Array Value} (h : Qua w g1 g2 g3 g4 a b c d) (hq : Below w.heap.size w W) : Qua W g1 g2 g3 g4 a b c d := ⟨blk_up h.1 hq, blk_up h.2.1 hq, blk_up h.2.2.1 hq, blk_up h.2.2.2 hq⟩
theorem Qua.eight {W : World} {g1 g2 g3 g4 : Nat} {a0 a1 b0 b1 c0 c1 d0 d1 : Value} (h : Qua W g1 g2 g3 g4 #[a0, a1] #[b0, b1] #[c0, c1] #[d0, d1]) :
    W.cell? ⟨g1, 0, none⟩ = some a0 ∧ W.cell? ⟨g1, 1, none⟩ = some a1 ∧ W.cell? ⟨g2, 0, none⟩ = some b0 ∧ W.cell? ⟨g2, 1, none⟩ = some b1 ∧ W.cell? ⟨g3, 0, none⟩ = some c0 ∧ W.cell? ⟨g3, 1, none⟩ = some c1 ∧ W.cell? ⟨g4, 0, none⟩ = some d0 ∧ W.cell? ⟨g4, 1, none⟩ = some d1 :=
  ⟨h.1.cell 0, h.1.cell 1, h.2.1.cell 0, h.2.1.cell 1, h.2.2.1.cell 0, h.2.2.1.cell 1, h.2.2.2.cell 0, h.2.2.2.cell 1⟩
/-- 'string(b)' of the bytes E. -/
theorem str_at {W : World} {X : Option Addr} {n z : Nat} {E : List UInt8} (h : Reads W W.heap.size 1 X n (byteCells E)) : (convert 40 9 (.slice X n z)).run Try.prog W = .ok (.string ⟨E.toArray⟩) W :=
  run_str Try.underlying40 Try.underlying5 Try.underlying9 h z
theorem wpAnyH_mono {P : Program} {ops : Array Oper} {Q : Exit → Act → World → Prop} {md : Region.Mode} {S S' : World → Prop} (hS : ∀ w, S' w → S w) : ∀ (fuel : Nat) (listed : Array Bool) (a : Act) (w : World), wpAnyH P md ops Q S' fuel listed a w → wpAnyH P md ops Q S fuel listed a w
  | 0, _, _, _, h => h
  | fuel + 1, _, _, _, h => ⟨h.1, fun i hi => wpOp_mono (fun a' w' h' => ⟨hS _ h'.1, wpAnyH_mono hS fuel _ a' w' h'.2⟩) (h.2 i hi)⟩
theorem diff_len' (n1 n2 : Int) (a b : List Int) : (diff n1 a n2 b).length ≤ a.length + b.length := by
  have h1 := among_le a b false
  have h2 := among_le b a false
  unfold diff
  split
  · rw [len_insAll]; omega
  · simp

set_option maxRecDepth 100000 in
set_option maxHeartbeats 4000000 in
theorem codes_walk (num n2 : Int) (l m : List Int) (bs : List UInt8) (A A2 D : Option Addr) (c c2 d : Nat) (w : World) (hn : In64 num) (hn2 : In64 n2) (h : LR w w.heap.size l A c) (h2 : LR w w.heap.size m A2 c2) (h' : BR w w.heap.size bs D d) :
    Calls Try.prog 5 #[.agg #[.int .i64 num, .slice A l.length c], .agg #[.int .i64 n2, .slice A2 m.length c2], .slice D bs.length d] w (PB w true) := by
  have b0 := Lib.hid (((Below.refl w.heap.size w).alloc (Nat.le_refl _) (.cells #[.int .i64 num, .slice A l.length c] 31)).alloc (by simp) (.cells #[.int .i64 n2, .slice A2 m.length c2] 31))
  have t0 := Lib.hid (two_blk w 31 #[.int .i64 num, .slice A l.length c] #[.int .i64 n2, .slice A2 m.length c2])
  have l0 := Lib.hid ((h.new (.cells #[.int .i64 num, .slice A l.length c] 31)).new (.cells #[.int .i64 n2, .slice A2 m.length c2] 31))
  have m0 := Lib.hid ((h2.new (.cells #[.int .i64 num, .slice A l.length c] 31)).new (.cells #[.int .i64 n2, .slice A2 m.length c2] 31))
  have q0 := Lib.hid ((h'.new (.cells #[.int .i64 num, .slice A l.length c] 31)).new (.cells #[.int .i64 n2, .slice A2 m.length c2] 31))
  have hl := h.l63
  have hm := h2.l63
  have hb := h'.l63
  have AW := Lib.hid (fun W => awake_any W)
  clear h h' h2
  go_enter Try.func5, Try.ntmps5
  go_upto_region 3 with (go_at_call 10; refine (AW.out _).mono ?_; rintro e wa ⟨rfl, hqa⟩)
  have b1 := Lib.hid (b0.out.trans (hqa.mono b0.out.size))
  have t1 := blk_up t0.out.1 hqa
  have u1 := blk_up t0.out.2 hqa
  have k1 := blk2 t1
  have j1 := blk2 u1
  have l1 := l0.out.up hqa
  have m1 := m0.out.up hqa
  have q1 := q0.out.up hqa
  generalize hg1 : w.heap.size + 1 = g1 at *
  clear hg1
  generalize hG : w.heap.size = G at *
  have HG := Lib.hid hG
  clear hG b0 t0 l0 m0 q0 AW hqa
  have sa : G ≤ wa.heap.size := by rw [← HG.out]; exact b1.out.size
  by_cases hs : l.length ≤ 100 ∧ m.length ≤ 100
  · obtain ⟨s1, s2⟩ := hs
    have SM := Lib.hid (small2_at wa A A2 l.length m.length c c2 hl hm true (by simp [s1, s2]))
    have b2 := b1.out.alloc sa (.cells #[.slice A l.length c, .slice A2 m.length c2] 22)
    have sg : G ≤ (wa.alloc (.cells #[.slice A l.length c, .slice A2 m.length c2] 22)).heap.size := by rw [← HG.out]; exact b2.size
    have t2 := t1.alloc (.cells #[.slice A l.length c, .slice A2 m.length c2] 22)
    have u2 := u1.alloc (.cells #[.slice A l.length c, .slice A2 m.length c2] 22)
    have l5 := l1.new (.cells #[.slice A l.length c, .slice A2 m.length c2] 22)
    have m5 := m1.new (.cells #[.slice A l.length c, .slice A2 m.length c2] 22)
    have q5 := q1.new (.cells #[.slice A l.length c, .slice A2 m.length c2] 22)
    clear t1 u1 l1 m1 q1 b1
    by_cases hbs : bs.length ≤ 1000
    · have fb : ¬ (1000 : Int) < (bs.length : Int) := by omega
      go_upto_region 5 with (go_at_call 11; refine SM.out.mono ?_; rintro e ws ⟨rfl, rfl⟩)
      clear SM k1 j1 sa fb
      generalize (wa.alloc (.cells #[.slice A l.length c, .slice A2 m.length c2] 22)) = w5 at b2 sg t2 u2 l5 m5 q5 ⊢
      generalize G = g0 at t2 ⊢
      have k5 := blk2 t2
      have L5 := l5.ls s1
      have M5 := m5.ls s2
      obtain ⟨⟨⟨⟨dn, dl⟩, dk⟩, de⟩, hdec⟩ : ∃ r, decV bs = r := ⟨_, rfl⟩
      obtain ⟨n64', hle, hel⟩ := dec_small hdec
      have NX := Lib.hid (show Calls Try.prog 36 #[.slice D bs.length d] w5 (DecS w5 dn dl.length dl dk de) from (viewDecode_any D d w5.heap.size bs w5 q5.rd (Nat.le_refl _) q5.cap (by omega)).mono fun _ _ h => h.to dn dl dl.length dk de hdec rfl)
      have B2 := Lib.hid b2
      have T2 := Lib.hid t2
      have U2 := Lib.hid u2
      have LL5 := Lib.hid L5
      have MM5 := Lib.hid M5
      have QQ5 := Lib.hid q5
      have HR := Lib.hid hdec
      have HEL := Lib.hid hel
      clear b2 t2 u2 l5 m5 q5 L5 M5 hdec hel
      go_upto_region 6 with (go_at_call 36; refine NX.out.mono ?_; rintro e w6 ⟨A6, c6, rfl, hc6, hr6, hq6⟩)
      have b7 := (B2.out.trans (hq6.mono sg)).alloc (Nat.le_trans sg hq6.size) (.cells #[.int .i64 dn, .slice A6 dl.length c6] 31)
      have s7 : G ≤ (w6.alloc (.cells #[.int .i64 dn, .slice A6 dl.length c6] 31)).heap.size := by have := hq6.size; simp; omega
      have T7 := (blk_up T2.out hq6).alloc (.cells #[.int .i64 dn, .slice A6 dl.length c6] 31)
      have U7 := (blk_up U2.out hq6).alloc (.cells #[.int .i64 dn, .slice A6 dl.length c6] 31)
      have X7 := Blk.new w6 31 #[.int .i64 dn, .slice A6 dl.length c6]
      have L7 := (LL5.out.up hq6).new (.cells #[.int .i64 dn, .slice A6 dl.length c6] 31)
      have M7 := (MM5.out.up hq6).new (.cells #[.int .i64 dn, .slice A6 dl.length c6] 31)
      have Q7 := (QQ5.out.up hq6).new (.cells #[.int .i64 dn, .slice A6 dl.length c6] 31)
      have N7 : LS (w6.alloc (.cells #[.int .i64 dn, .slice A6 dl.length c6] 31)) _ dl A6 c6 := (LS.of hr6 rfl hc6 (by omega) HEL.out).new _
      clear NX k5 B2 T2 U2 LL5 MM5 QQ5 hq6 hr6 sg
      generalize (w6.alloc (.cells #[.int .i64 dn, .slice A6 dl.length c6] 31)) = w7 at b7 s7 T7 U7 X7 L7 M7 Q7 N7 ⊢
      generalize w6.heap.size = g5 at X7 ⊢
      have NX := Lib.hid (show Calls Try.prog 37 #[.slice D bs.length d] w7 (DecS w7 dn dl.length dl dk de) from (refDecode_any D d w7.heap.size bs w7 Q7.rd (Nat.le_refl _) Q7.cap (by omega)).mono fun _ _ h => h.to dn dl dl.length dk de HR.out rfl)
      have B7 := Lib.hid b7
      have TT7 := Lib.hid T7
      have UU7 := Lib.hid U7
      have XX7 := Lib.hid X7
      have LL7 := Lib.hid L7
      have MM7 := Lib.hid M7
      have NN7 := Lib.hid N7
      clear b7 T7 U7 X7 L7 M7 Q7 N7
      go_upto_region 7 with (go_at_call 37; refine NX.out.mono ?_; rintro e w8 ⟨A8, c8, rfl, hc8, hr8, hq8⟩)
      have b9 := (B7.out.trans (hq8.mono s7)).alloc (Nat.le_trans s7 hq8.size) (.cells #[.int .i64 dn, .slice A8 dl.length c8] 31)
      have s9 : G ≤ (w8.alloc (.cells #[.int .i64 dn, .slice A8 dl.length c8] 31)).heap.size := by have := hq8.size; simp; omega
      have T9 := (blk_up TT7.out hq8).alloc (.cells #[.int .i64 dn, .slice A8 dl.length c8] 31)
      have U9 := (blk_up UU7.out hq8).alloc (.cells #[.int .i64 dn, .slice A8 dl.length c8] 31)
      have X9 := (blk_up XX7.out hq8).alloc (.cells #[.int .i64 dn, .slice A8 dl.length c8] 31)
      have W9 := Blk.new w8 31 #[.int .i64 dn, .slice A8 dl.length c8]
      have L9 := (LL7.out.up hq8).new (.cells #[.int .i64 dn, .slice A8 dl.length c8] 31)
      have M9 := (MM7.out.up hq8).new (.cells #[.int .i64 dn, .slice A8 dl.length c8] 31)
      have N9 := (NN7.out.up hq8).new (.cells #[.int .i64 dn, .slice A8 dl.length c8] 31)
      have O9 : LS (w8.alloc (.cells #[.int .i64 dn, .slice A8 dl.length c8] 31)) _ dl A8 c8 := (LS.of hr8 rfl hc8 (by omega) HEL.out).new _
      clear NX B7 TT7 UU7 XX7 LL7 MM7 NN7 hq8 hr8 s7 HR HEL
      generalize (w8.alloc (.cells #[.int .i64 dn, .slice A8 dl.length c8] 31)) = w9 at b9 s9 T9 U9 X9 W9 L9 M9 N9 O9 ⊢
      generalize w8.heap.size = g7 at W9 ⊢
      have BB9 := Lib.hid b9
      have B0 := Lib.hid (show Qua w9 g0 g1 g5 g7 #[.int .i64 num, .slice A l.length c] #[.int .i64 n2, .slice A2 m.length c2] #[.int .i64 dn, .slice A6 dl.length c6] #[.int .i64 dn, .slice A8 dl.length c8] from ⟨T9, U9, X9, W9⟩)
      have KE := Lib.hid (fun (W : World) (hW : Below w9.heap.size w9 W) => show Calls Try.prog 38 #[.agg #[.int .i64 num, .slice A l.length c]] W (OwnS W.heap.size W (encV num l) (encV num l).length) from (viewEncode_any num l A c _ W ((L9.vw num hn).below hW) hW.size).mono fun _ _ h => h.to _ _ rfl rfl)
      have KF := Lib.hid (fun (W : World) (hW : Below w9.heap.size w9 W) => show Calls Try.prog 39 #[.agg #[.int .i64 num, .slice A l.length c]] W (OwnS W.heap.size W (encV num l) (encV num l).length) from (refEncode_any num l A c _ W ((L9.vw num hn).below hW) hW.size).mono fun _ _ h => h.to _ _ rfl rfl)
      have KS := Lib.hid (fun (W : World) (hW : Below w9.heap.size w9 W) => show Calls Try.prog 26 #[.agg #[.int .i64 dn, .slice A6 dl.length c6], .agg #[.int .i64 dn, .slice A8 dl.length c8]] W (PB W true) from (refSame_any dn dn dl dl A6 A8 c6 c8 _ W ((N9.vw dn n64').below hW) ((O9.vw dn n64').below hW) hW.size).mono fun _ _ h => by rw [sameW_refl] at h; exact h)
      have KD := Lib.hid (fun (W : World) (hW : Below w9.heap.size w9 W) => show Calls Try.prog 40 #[.agg #[.int .i64 num, .slice A l.length c], .agg #[.int .i64 n2, .slice A2 m.length c2]] W (OutI W (diff num l n2 m) (diff num l n2 m).length) from (viewDiff_any num n2 l m A A2 c c2 _ W ((L9.vw num hn).below hW) ((M9.vw n2 hn2).below hW) hW.size).mono fun _ _ h => h.to _ _ rfl rfl)
      have KG := Lib.hid (fun (W : World) (hW : Below w9.heap.size w9 W) => show Calls Try.prog 41 #[.agg #[.int .i64 num, .slice A l.length c], .agg #[.int .i64 n2, .slice A2 m.length c2]] W (OutI W (diff num l n2 m) (diff num l n2 m).length) from (refDiff_any num n2 l m A A2 c c2 _ W ((L9.vw num hn).below hW) ((M9.vw n2 hn2).below hW) hW.size).mono fun _ _ h => h.to _ _ rfl rfl)
      have HD := Lib.hid (show (diff num l n2 m).length ≤ 1000 from by have := diff_len' num n2 l m; omega)
      generalize encV num l = E at *
      generalize diff num l n2 m = X at *
      have SA := Lib.hid same_at
      clear L9 M9 N9 O9 T9 U9 X9 W9 b9
      refine wp_region_held_drew (S := (fun wx => Below w9.heap.size w9 wx)) (by kernel_rfl) ?_ (fun hHeld => ?_)
      · exact (Below.refl _ _).drew
      refine wpAnyH_take (i := 0) (v := ?_) (by first | (simp only [List.getElem?_toArray, List.getElem?_cons_succ, List.getElem?_cons_zero]; done) | (simp only [List.getElem?_toArray, List.getElem?_cons_succ, List.getElem?_cons_zero]; rfl)) (by kernel_rfl) (by kernel_rfl) (by kernel_rfl) (by exact fun _ _ _ h => h) (Or.inl ⟨by rfl, ?_⟩) hHeld ?_
      rotate_left 1
      · intro wq hSw
        have K8 := (B0.out.below hSw).eight
        go_simp
        all_goals with_reducible rfl
      try simp only [Act.put, List.setIfInBounds_toArray, List.set_cons_zero, List.set_cons_succ]
      refine wpAnyH_take (i := 3) (v := ?_) (by first | (simp only [List.getElem?_toArray, List.getElem?_cons_succ, List.getElem?_cons_zero]; done) | (simp only [List.getElem?_toArray, List.getElem?_cons_succ, List.getElem?_cons_zero]; rfl)) (by kernel_rfl) (by kernel_rfl) (by kernel_rfl) (by exact fun _ _ _ h => h) (Or.inl ⟨by rfl, ?_⟩) hHeld ?_
      rotate_left 1
      · intro wq hSw
        have K8 := (B0.out.below hSw).eight
        go_simp
        all_goals with_reducible rfl
      try simp only [Act.put, List.setIfInBounds_toArray, List.set_cons_zero, List.set_cons_succ]
      refine wpAnyH_ready (rs := [1]) (by kernel_rfl) (by simp) ?_
      refine AllReadyH.cons (by first | (simp only [List.getElem?_toArray, List.getElem?_cons_succ, List.getElem?_cons_zero]; done) | (simp only [List.getElem?_toArray, List.getElem?_cons_succ, List.getElem?_cons_zero]; rfl)) (fun K hK => ?_) AllReadyH.nil
      go_simp
      (go_at_call 38; (with_reducible refine (KE.out _ hHeld).mono ?_); rintro e y1 ⟨X1, z1, rfl, hc1, ho1, hr1, hq1⟩; have h1 : Below w9.heap.size w9 y1 := ((Below.refl _ _).drew).trans hq1)
      refine hK.out _ _ ?_ (fun hHeld => ?_)
      · exact h1
      clear hK K
      try simp only [Act.put, List.setIfInBounds_toArray, List.set_cons_zero, List.set_cons_succ]
      refine wpAnyH_mono (S' := (fun wx => Below y1.heap.size y1 wx)) (fun wx hx => bstep h1 hx) _ _ _ _ ?_
      replace hHeld := Below.refl y1.heap.size y1
      refine wpAnyH_take (i := 2) (v := ?_) (by first | (simp only [List.getElem?_toArray, List.getElem?_cons_succ, List.getElem?_cons_zero]; done) | (simp only [List.getElem?_toArray, List.getElem?_cons_succ, List.getElem?_cons_zero]; rfl)) (by kernel_rfl) (by kernel_rfl) (by kernel_rfl) (by exact fun _ _ _ h => h) (Or.inl ⟨by rfl, ?_⟩) hHeld ?_
      rotate_left 1
      · intro wq hSw
        have E1 := str_at (z := z1) ((hr1.below hSw).more hSw.size)
        go_simp
        all_goals with_reducible rfl
      try simp only [Act.put, List.setIfInBounds_toArray, List.set_cons_zero, List.set_cons_succ]
      refine wpAnyH_ready (rs := [4]) (by kernel_rfl) (by simp) ?_
      refine AllReadyH.cons (by first | (simp only [List.getElem?_toArray, List.getElem?_cons_succ, List.getElem?_cons_zero]; done) | (simp only [List.getElem?_toArray, List.getElem?_cons_succ, List.getElem?_cons_zero]; rfl)) (fun K hK => ?_) AllReadyH.nil
      go_simp
      (go_at_call 39; (with_reducible refine (KF.out _ (by exact h1)).mono ?_); rintro e y2 ⟨X2, z2, rfl, hc2, ho2, hr2, hq2⟩; have h2 : Below w9.heap.size w9 y2 := bstep h1 hq2)
      refine hK.out _ _ ?_ (fun hHeld => ?_)
      · exact hq2
      clear hK K
      try simp only [Act.put, List.setIfInBounds_toArray, List.set_cons_zero, List.set_cons_succ]
      refine wpAnyH_mono (S' := (fun wx => Below y2.heap.size y2 wx)) (fun wx hx => bstep hq2 hx) _ _ _ _ ?_
      replace hHeld := Below.refl y2.heap.size y2
      refine wpAnyH_take (i := 5) (v := ?_) (by first | (simp only [List.getElem?_toArray, List.getElem?_cons_succ, List.getElem?_cons_zero]; done) | (simp only [List.getElem?_toArray, List.getElem?_cons_succ, List.getElem?_cons_zero]; rfl)) (by kernel_rfl) (by kernel_rfl) (by kernel_rfl) (by exact fun _ _ _ h => h) (Or.inl ⟨by rfl, ?_⟩) hHeld ?_
      rotate_left 1
      · intro wq hSw
        have E2 := str_at (z := z2) ((hr2.below hSw).more hSw.size)
        go_simp
        all_goals with_reducible rfl
      try simp only [Act.put, List.setIfInBounds_toArray, List.set_cons_zero, List.set_cons_succ]
      refine wpAnyH_take (i := 6) (v := ?_) (by first | (simp only [List.getElem?_toArray, List.getElem?_cons_succ, List.getElem?_cons_zero]; done) | (simp only [List.getElem?_toArray, List.getElem?_cons_succ, List.getElem?_cons_zero]; rfl)) (by kernel_rfl) (by kernel_rfl) (by kernel_rfl) (by exact fun _ _ _ h => h) (Or.inl ⟨by rfl, ?_⟩) hHeld ?_
      rotate_left 1
      · intro wq hSw
        go_simp
        all_goals with_reducible rfl
      try simp only [Act.put, List.setIfInBounds_toArray, List.set_cons_zero, List.set_cons_succ]
      refine wpAnyH_take (i := 7) (v := ?_) (by first | (simp only [List.getElem?_toArray, List.getElem?_cons_succ, List.getElem?_cons_zero]; done) | (simp only [List.getElem?_toArray, List.getElem?_cons_succ, List.getElem?_cons_zero]; rfl)) (by kernel_rfl) (by kernel_rfl) (by kernel_rfl) (by exact fun _ _ _ h => h) (Or.inl ⟨by rfl, ?_⟩) hHeld ?_
      rotate_left 1
      · intro wq hSw
        go_simp
        all_goals with_reducible rfl
      try simp only [Act.put, List.setIfInBounds_toArray, List.set_cons_zero, List.set_cons_succ]
      refine wpAnyH_take (i := 8) (v := ?_) (by first | (simp only [List.getElem?_toArray, List.getElem?_cons_succ, List.getElem?_cons_zero]; done) | (simp only [List.getElem?_toArray, List.getElem?_cons_succ, List.getElem?_cons_zero]; rfl)) (by kernel_rfl) (by kernel_rfl) (by kernel_rfl) (by exact fun _ _ _ h => h) (Or.inl ⟨by rfl, ?_⟩) hHeld ?_
      rotate_left 1
      · intro wq hSw
        have K8 := (B0.out.below (bstep h2 hSw)).eight
        go_simp
        all_goals with_reducible rfl
      try simp only [Act.put, List.setIfInBounds_toArray, List.set_cons_zero, List.set_cons_succ]
      refine wpAnyH_take (i := 9) (v := ?_) (by first | (simp only [List.getElem?_toArray, List.getElem?_cons_succ, List.getElem?_cons_zero]; done) | (simp only [List.getElem?_toArray, List.getElem?_cons_succ, List.getElem?_cons_zero]; rfl)) (by kernel_rfl) (by kernel_rfl) (by kernel_rfl) (by exact fun _ _ _ h => h) (Or.inl ⟨by rfl, ?_⟩) hHeld ?_
      rotate_left 1
      · intro wq hSw
        have K8 := (B0.out.below (bstep h2 hSw)).eight
        go_simp
        all_goals with_reducible rfl
      try simp only [Act.put, List.setIfInBounds_toArray, List.set_cons_zero, List.set_cons_succ]
      refine wpAnyH_ready (rs := [10]) (by kernel_rfl) (by simp) ?_
      refine AllReadyH.cons (by first | (simp only [List.getElem?_toArray, List.getElem?_cons_succ, List.getElem?_cons_zero]; done) | (simp only [List.getElem?_toArray, List.getElem?_cons_succ, List.getElem?_cons_zero]; rfl)) (fun K hK => ?_) AllReadyH.nil
      go_simp
      (go_at_call 26; (with_reducible refine (KS.out _ (by exact h2)).mono ?_); rintro e y3 ⟨rfl, hq3⟩; have h3 : Below w9.heap.size w9 y3 := bstep h2 hq3)
      refine hK.out _ _ ?_ (fun hHeld => ?_)
      · exact hq3
      clear hK K
      try simp only [Act.put, List.setIfInBounds_toArray, List.set_cons_zero, List.set_cons_succ]
      refine wpAnyH_mono (S' := (fun wx => Below y3.heap.size y3 wx)) (fun wx hx => bstep hq3 hx) _ _ _ _ ?_
      replace hHeld := Below.refl y3.heap.size y3
      refine wpAnyH_take (i := 11) (v := ?_) (by first | (simp only [List.getElem?_toArray, List.getElem?_cons_succ, List.getElem?_cons_zero]; done) | (simp only [List.getElem?_toArray, List.getElem?_cons_succ, List.getElem?_cons_zero]; rfl)) (by kernel_rfl) (by kernel_rfl) (by kernel_rfl) (by exact fun _ _ _ h => h) (Or.inl ⟨by rfl, ?_⟩) hHeld ?_
      rotate_left 1
      · intro wq hSw
        go_simp
        all_goals with_reducible rfl
      try simp only [Act.put, List.setIfInBounds_toArray, List.set_cons_zero, List.set_cons_succ]
      refine wpAnyH_take (i := 12) (v := ?_) (by first | (simp only [List.getElem?_toArray, List.getElem?_cons_succ, List.getElem?_cons_zero]; done) | (simp only [List.getElem?_toArray, List.getElem?_cons_succ, List.getElem?_cons_zero]; rfl)) (by kernel_rfl) (by kernel_rfl) (by kernel_rfl) (by exact fun _ _ _ h => h) (Or.inl ⟨by rfl, ?_⟩) hHeld ?_
      rotate_left 1
      · intro wq hSw
        go_simp
        all_goals with_reducible rfl
      try simp only [Act.put, List.setIfInBounds_toArray, List.set_cons_zero, List.set_cons_succ]
      refine wpAnyH_take (i := 13) (v := ?_) (by first | (simp only [List.getElem?_toArray, List.getElem?_cons_succ, List.getElem?_cons_zero]; done) | (simp only [List.getElem?_toArray, List.getElem?_cons_succ, List.getElem?_cons_zero]; rfl)) (by kernel_rfl) (by kernel_rfl) (by kernel_rfl) (by exact fun _ _ _ h => h) (Or.inl ⟨by rfl, ?_⟩) hHeld ?_
      rotate_left 1
      · intro wq hSw
        go_simp
        all_goals with_reducible rfl
      try simp only [Act.put, List.setIfInBounds_toArray, List.set_cons_zero, List.set_cons_succ]
      refine wpAnyH_take (i := 14) (v := ?_) (by first | (simp only [List.getElem?_toArray, List.getElem?_cons_succ, List.getElem?_cons_zero]; done) | (simp only [List.getElem?_toArray, List.getElem?_cons_succ, List.getElem?_cons_zero]; rfl)) (by kernel_rfl) (by kernel_rfl) (by kernel_rfl) (by exact fun _ _ _ h => h) (Or.inl ⟨by rfl, ?_⟩) hHeld ?_
      rotate_left 1
      · intro wq hSw
        go_simp
        all_goals with_reducible rfl
      try simp only [Act.put, List.setIfInBounds_toArray, List.set_cons_zero, List.set_cons_succ]
      refine wpAnyH_take (i := 15) (v := ?_) (by first | (simp only [List.getElem?_toArray, List.getElem?_cons_succ, List.getElem?_cons_zero]; done) | (simp only [List.getElem?_toArray, List.getElem?_cons_succ, List.getElem?_cons_zero]; rfl)) (by kernel_rfl) (by kernel_rfl) (by kernel_rfl) (by exact fun _ _ _ h => h) (Or.inl ⟨by rfl, ?_⟩) hHeld ?_
      rotate_left 1
      · intro wq hSw
        go_simp
        all_goals with_reducible rfl
      try simp only [Act.put, List.setIfInBounds_toArray, List.set_cons_zero, List.set_cons_succ]
      refine wpAnyH_take (i := 16) (v := ?_) (by first | (simp only [List.getElem?_toArray, List.getElem?_cons_succ, List.getElem?_cons_zero]; done) | (simp only [List.getElem?_toArray, List.getElem?_cons_succ, List.getElem?_cons_zero]; rfl)) (by kernel_rfl) (by kernel_rfl) (by kernel_rfl) (by exact fun _ _ _ h => h) (Or.inl ⟨by rfl, ?_⟩) hHeld ?_
      rotate_left 1
      · intro wq hSw
        go_simp
        all_goals with_reducible rfl
      try simp only [Act.put, List.setIfInBounds_toArray, List.set_cons_zero, List.set_cons_succ]
      refine wpAnyH_take (i := 17) (v := ?_) (by first | (simp only [List.getElem?_toArray, List.getElem?_cons_succ, List.getElem?_cons_zero]; done) | (simp only [List.getElem?_toArray, List.getElem?_cons_succ, List.getElem?_cons_zero]; rfl)) (by kernel_rfl) (by kernel_rfl) (by kernel_rfl) (by exact fun _ _ _ h => h) (Or.inl ⟨by rfl, ?_⟩) hHeld ?_
      rotate_left 1
      · intro wq hSw
        go_simp
        all_goals with_reducible rfl
      try simp only [Act.put, List.setIfInBounds_toArray, List.set_cons_zero, List.set_cons_succ]
      refine wpAnyH_take (i := 18) (v := ?_) (by first | (simp only [List.getElem?_toArray, List.getElem?_cons_succ, List.getElem?_cons_zero]; done) | (simp only [List.getElem?_toArray, List.getElem?_cons_succ, List.getElem?_cons_zero]; rfl)) (by kernel_rfl) (by kernel_rfl) (by kernel_rfl) (by exact fun _ _ _ h => h) (Or.inl ⟨by rfl, ?_⟩) hHeld ?_
      rotate_left 1
      · intro wq hSw
        go_simp
        all_goals with_reducible rfl
      try simp only [Act.put, List.setIfInBounds_toArray, List.set_cons_zero, List.set_cons_succ]
      refine wpAnyH_take (i := 19) (v := ?_) (by first | (simp only [List.getElem?_toArray, List.getElem?_cons_succ, List.getElem?_cons_zero]; done) | (simp only [List.getElem?_toArray, List.getElem?_cons_succ, List.getElem?_cons_zero]; rfl)) (by kernel_rfl) (by kernel_rfl) (by kernel_rfl) (by exact fun _ _ _ h => h) (Or.inl ⟨by rfl, ?_⟩) hHeld ?_
      rotate_left 1
      · intro wq hSw
        go_simp
        all_goals with_reducible rfl
      try simp only [Act.put, List.setIfInBounds_toArray, List.set_cons_zero, List.set_cons_succ]
      refine wpAnyH_take (i := 20) (v := ?_) (by first | (simp only [List.getElem?_toArray, List.getElem?_cons_succ, List.getElem?_cons_zero]; done) | (simp only [List.getElem?_toArray, List.getElem?_cons_succ, List.getElem?_cons_zero]; rfl)) (by kernel_rfl) (by kernel_rfl) (by kernel_rfl) (by exact fun _ _ _ h => h) (Or.inl ⟨by rfl, ?_⟩) hHeld ?_
      rotate_left 1
      · intro wq hSw
        go_simp
        all_goals with_reducible rfl
      try simp only [Act.put, List.setIfInBounds_toArray, List.set_cons_zero, List.set_cons_succ]
      refine wpAnyH_take (i := 21) (v := ?_) (by first | (simp only [List.getElem?_toArray, List.getElem?_cons_succ, List.getElem?_cons_zero]; done) | (simp only [List.getElem?_toArray, List.getElem?_cons_succ, List.getElem?_cons_zero]; rfl)) (by kernel_rfl) (by kernel_rfl) (by kernel_rfl) (by exact fun _ _ _ h => h) (Or.inl ⟨by rfl, ?_⟩) hHeld ?_
      rotate_left 1
      · intro wq hSw
        go_simp
        all_goals with_reducible rfl
      try simp only [Act.put, List.setIfInBounds_toArray, List.set_cons_zero, List.set_cons_succ]
      refine wpAnyH_take (i := 22) (v := ?_) (by first | (simp only [List.getElem?_toArray, List.getElem?_cons_succ, List.getElem?_cons_zero]; done) | (simp only [List.getElem?_toArray, List.getElem?_cons_succ, List.getElem?_cons_zero]; rfl)) (by kernel_rfl) (by kernel_rfl) (by kernel_rfl) (by exact fun _ _ _ h => h) (Or.inl ⟨by rfl, ?_⟩) hHeld ?_
      rotate_left 1
      · intro wq hSw
        go_simp
        all_goals with_reducible rfl
      try simp only [Act.put, List.setIfInBounds_toArray, List.set_cons_zero, List.set_cons_succ]
      refine wpAnyH_take (i := 23) (v := ?_) (by first | (simp only [List.getElem?_toArray, List.getElem?_cons_succ, List.getElem?_cons_zero]; done) | (simp only [List.getElem?_toArray, List.getElem?_cons_succ, List.getElem?_cons_zero]; rfl)) (by kernel_rfl) (by kernel_rfl) (by kernel_rfl) (by exact fun _ _ _ h => h) (Or.inl ⟨by rfl, ?_⟩) hHeld ?_
      rotate_left 1
      · intro wq hSw
        have K8 := (B0.out.below (bstep h3 hSw)).eight
        go_simp
        all_goals with_reducible rfl
      try simp only [Act.put, List.setIfInBounds_toArray, List.set_cons_zero, List.set_cons_succ]
      refine wpAnyH_take (i := 24) (v := ?_) (by first | (simp only [List.getElem?_toArray, List.getElem?_cons_succ, List.getElem?_cons_zero]; done) | (simp only [List.getElem?_toArray, List.getElem?_cons_succ, List.getElem?_cons_zero]; rfl)) (by kernel_rfl) (by kernel_rfl) (by kernel_rfl) (by exact fun _ _ _ h => h) (Or.inl ⟨by rfl, ?_⟩) hHeld ?_
      rotate_left 1
      · intro wq hSw
        have K8 := (B0.out.below (bstep h3 hSw)).eight
        go_simp
        all_goals with_reducible rfl
      try simp only [Act.put, List.setIfInBounds_toArray, List.set_cons_zero, List.set_cons_succ]
      refine wpAnyH_take (i := 26) (v := ?_) (by first | (simp only [List.getElem?_toArray, List.getElem?_cons_succ, List.getElem?_cons_zero]; done) | (simp only [List.getElem?_toArray, List.getElem?_cons_succ, List.getElem?_cons_zero]; rfl)) (by kernel_rfl) (by kernel_rfl) (by kernel_rfl) (by exact fun _ _ _ h => h) (Or.inl ⟨by rfl, ?_⟩) hHeld ?_
      rotate_left 1
      · intro wq hSw
        have K8 := (B0.out.below (bstep h3 hSw)).eight
        go_simp
        all_goals with_reducible rfl
      try simp only [Act.put, List.setIfInBounds_toArray, List.set_cons_zero, List.set_cons_succ]
      refine wpAnyH_take (i := 27) (v := ?_) (by first | (simp only [List.getElem?_toArray, List.getElem?_cons_succ, List.getElem?_cons_zero]; done) | (simp only [List.getElem?_toArray, List.getElem?_cons_succ, List.getElem?_cons_zero]; rfl)) (by kernel_rfl) (by kernel_rfl) (by kernel_rfl) (by exact fun _ _ _ h => h) (Or.inl ⟨by rfl, ?_⟩) hHeld ?_
      rotate_left 1
      · intro wq hSw
        have K8 := (B0.out.below (bstep h3 hSw)).eight
        go_simp
        all_goals with_reducible rfl
      try simp only [Act.put, List.setIfInBounds_toArray, List.set_cons_zero, List.set_cons_succ]
      refine wpAnyH_ready (rs := [25]) (by kernel_rfl) (by simp) ?_
      refine AllReadyH.cons (by first | (simp only [List.getElem?_toArray, List.getElem?_cons_succ, List.getElem?_cons_zero]; done) | (simp only [List.getElem?_toArray, List.getElem?_cons_succ, List.getElem?_cons_zero]; rfl)) (fun K hK => ?_) AllReadyH.nil
      go_simp
      (go_at_call 40; (with_reducible refine (KD.out _ (by exact h3)).mono ?_); rintro e y4 ⟨X4, z4, rfl, hc4, ho4, hr4, hq4⟩; have h4 : Below w9.heap.size w9 y4 := bstep h3 hq4)
      refine hK.out _ _ ?_ (fun hHeld => ?_)
      · exact hq4
      clear hK K
      try simp only [Act.put, List.setIfInBounds_toArray, List.set_cons_zero, List.set_cons_succ]
      refine wpAnyH_mono (S' := (fun wx => Below y4.heap.size y4 wx)) (fun wx hx => bstep hq4 hx) _ _ _ _ ?_
      replace hHeld := Below.refl y4.heap.size y4
      refine wpAnyH_ready (rs := [28]) (by kernel_rfl) (by simp) ?_
      refine AllReadyH.cons (by first | (simp only [List.getElem?_toArray, List.getElem?_cons_succ, List.getElem?_cons_zero]; done) | (simp only [List.getElem?_toArray, List.getElem?_cons_succ, List.getElem?_cons_zero]; rfl)) (fun K hK => ?_) AllReadyH.nil
      go_simp
      (go_at_call 41; (with_reducible refine (KG.out _ (by exact h4)).mono ?_); rintro e y5 ⟨X5, z5, rfl, hc5, ho5, hr5, hq5⟩; have h5 : Below w9.heap.size w9 y5 := bstep h4 hq5)
      refine hK.out _ _ ?_ (fun hHeld => ?_)
      · exact hq5
      clear hK K
      try simp only [Act.put, List.setIfInBounds_toArray, List.set_cons_zero, List.set_cons_succ]
      refine wpAnyH_mono (S' := (fun wx => Below y5.heap.size y5 wx)) (fun wx hx => bstep hq5 hx) _ _ _ _ ?_
      replace hHeld := Below.refl y5.heap.size y5
      refine wpAnyH_ready (rs := [29]) (by kernel_rfl) (by simp) ?_
      refine AllReadyH.cons (by first | (simp only [List.getElem?_toArray, List.getElem?_cons_succ, List.getElem?_cons_zero]; done) | (simp only [List.getElem?_toArray, List.getElem?_cons_succ, List.getElem?_cons_zero]; rfl)) (fun K hK => ?_) AllReadyH.nil
      go_simp
      (go_at_call 29; (with_reducible refine (SA.out _ X X4 X5 X.length z4 z5 rfl HD.out ((hr4.below hq5).more hq5.size) hr5).mono ?_); rintro e y6 ⟨rfl, hq6⟩; have h6 : Below w9.heap.size w9 y6 := bstep h5 hq6)
      refine hK.out _ _ ?_ (fun hHeld => ?_)
      · exact hq6
      clear hK K
      try simp only [Act.put, List.setIfInBounds_toArray, List.set_cons_zero, List.set_cons_succ]
      refine wpAnyH_mono (S' := (fun wx => Below y6.heap.size y6 wx)) (fun wx hx => bstep hq6 hx) _ _ _ _ ?_
      replace hHeld := Below.refl y6.heap.size y6
      refine wpAnyH_take (i := 30) (v := ?_) (by first | (simp only [List.getElem?_toArray, List.getElem?_cons_succ, List.getElem?_cons_zero]; done) | (simp only [List.getElem?_toArray, List.getElem?_cons_succ, List.getElem?_cons_zero]; rfl)) (by kernel_rfl) (by kernel_rfl) (by kernel_rfl) (by exact fun _ _ _ h => h) (Or.inl ⟨by rfl, ?_⟩) hHeld ?_
      rotate_left 1
      · intro wq hSw
        go_simp
        all_goals with_reducible rfl
      try simp only [Act.put, List.setIfInBounds_toArray, List.set_cons_zero, List.set_cons_succ]
      refine wpAnyH_take (i := 31) (v := ?_) (by first | (simp only [List.getElem?_toArray, List.getElem?_cons_succ, List.getElem?_cons_zero]; done) | (simp only [List.getElem?_toArray, List.getElem?_cons_succ, List.getElem?_cons_zero]; rfl)) (by kernel_rfl) (by kernel_rfl) (by kernel_rfl) (by exact fun _ _ _ h => h) (Or.inl ⟨by rfl, ?_⟩) hHeld ?_
      rotate_left 1
      · intro wq hSw
        go_simp
        all_goals with_reducible rfl
      try simp only [Act.put, List.setIfInBounds_toArray, List.set_cons_zero, List.set_cons_succ]
      refine wpAnyH_done (by kernel_rfl) ?_ _
      all_goals
        go_wp2
        go_ret
        refine ⟨?_, ?_⟩
        · simp
        · rw [HG.out]; exact BB9.out.trans (h6.mono s9)
    · have fb : (1000 : Int) < (bs.length : Int) := by omega
      go_wp2_with (go_at_call 11; refine SM.out.mono ?_; rintro e ws ⟨rfl, rfl⟩)
      go_ret
      exact ⟨rfl, by rw [HG.out]; exact b2⟩
  · have SM := Lib.hid (small2_at wa A A2 l.length m.length c c2 hl hm false (by simp; omega))
    have b2 := b1.out.alloc sa (.cells #[.slice A l.length c, .slice A2 m.length c2] 22)
    go_wp2_with (go_at_call 11; refine SM.out.mono ?_; rintro e ws ⟨rfl, rfl⟩)
    go_ret
    exact ⟨rfl, by rw [HG.out]; exact b2⟩
end Go.Proofs.Yteiolhbjgfkdeaa.V
