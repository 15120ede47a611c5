/- Package view: Diff, Next. -/
import Derived.Test.YteiolhbjgfkdeaaVView5
import Derived.Deep.RegionHeld3
namespace Go.Proofs.Yteiolhbjgfkdeaa.V
set_option linter.unusedVariables false
open Go.RowKit
open Go.Proofs.Yteiolhbjgfkdeaa.W

set_option maxRecDepth 100000 in
set_option maxHeartbeats 1000000 in
theorem viewDiff_any (n1 n2 : Int) (l l2 : List Int) (A A2 : Option Addr) (c c2 B : Nat) (w : World) (h : VW w B n1 l A c) (h' : VW w B n2 l2 A2 c2) (hB : B ≤ w.heap.size) :
    Calls Try.prog 40 #[vwV n1 A l.length c, vwV n2 A2 l2.length c2] w (OwnI w (diff n1 l n2 l2)) := by
  have h01 : Below w.heap.size w ((w.alloc (.cells #[.int .i64 n1, .slice A l.length c] 31)).alloc (.cells #[.int .i64 n2, .slice A2 l2.length c2] 31)) := ((Below.refl w.heap.size w).alloc (Nat.le_refl _) _).alloc (by simp) _
  have hz := two_blk w 31 #[.int .i64 n1, .slice A l.length c] #[.int .i64 n2, .slice A2 l2.length c2]
  have hs0 : ((w.alloc (.cells #[.int .i64 n1, .slice A l.length c] 31)).alloc (.cells #[.int .i64 n2, .slice A2 l2.length c2] 31)).heap.size = w.heap.size + 2 := by simp
  have FB := Lib.hid (fun W (hW : Below ((w.alloc (.cells #[.int .i64 n1, .slice A l.length c] 31)).alloc (.cells #[.int .i64 n2, .slice A2 l2.length c2] 31)).heap.size ((w.alloc (.cells #[.int .i64 n1, .slice A l.length c] 31)).alloc (.cells #[.int .i64 n2, .slice A2 l2.length c2] 31)) W) => h01.trans (hW.mono (by rw [hs0]; omega)))
  have FV := Lib.hid (fun W (hW : Below ((w.alloc (.cells #[.int .i64 n1, .slice A l.length c] 31)).alloc (.cells #[.int .i64 n2, .slice A2 l2.length c2] 31)).heap.size ((w.alloc (.cells #[.int .i64 n1, .slice A l.length c] 31)).alloc (.cells #[.int .i64 n2, .slice A2 l2.length c2] 31)) W) => cells22 (hz.1.below hW hz.1.lt) (hz.2.below hW hz.2.lt))
  have r0 := Below.refl ((w.alloc (.cells #[.int .i64 n1, .slice A l.length c] 31)).alloc (.cells #[.int .i64 n2, .slice A2 l2.length c2] 31)).heap.size ((w.alloc (.cells #[.int .i64 n1, .slice A l.length c] 31)).alloc (.cells #[.int .i64 n2, .slice A2 l2.length c2] 31))
  have CV := Lib.hid (fun W (hW : Below ((w.alloc (.cells #[.int .i64 n1, .slice A l.length c] 31)).alloc (.cells #[.int .i64 n2, .slice A2 l2.length c2] 31)).heap.size ((w.alloc (.cells #[.int .i64 n1, .slice A l.length c] 31)).alloc (.cells #[.int .i64 n2, .slice A2 l2.length c2] 31)) W) => viewValid_any n1 l A c w.heap.size W ((h.more hB).below (FB.out W hW)) (FB.out W hW).size)
  have CW := Lib.hid (fun W (hW : Below ((w.alloc (.cells #[.int .i64 n1, .slice A l.length c] 31)).alloc (.cells #[.int .i64 n2, .slice A2 l2.length c2] 31)).heap.size ((w.alloc (.cells #[.int .i64 n1, .slice A l.length c] 31)).alloc (.cells #[.int .i64 n2, .slice A2 l2.length c2] 31)) W) => viewValid_any n2 l2 A2 c2 w.heap.size W ((h'.more hB).below (FB.out W hW)) (FB.out W hW).size)
  have CS := Lib.hid (fun W (hW : Below ((w.alloc (.cells #[.int .i64 n1, .slice A l.length c] 31)).alloc (.cells #[.int .i64 n2, .slice A2 l2.length c2] 31)).heap.size ((w.alloc (.cells #[.int .i64 n1, .slice A l.length c] 31)).alloc (.cells #[.int .i64 n2, .slice A2 l2.length c2] 31)) W) (g1 : validV n1 l = true) (g2 : validV n2 l2 = true) =>
    (split_any A A2 c c2 w.heap.size l l2 W ((h.ls.more hB).below (FB.out W hW)) ((h'.ls.more hB).below (FB.out W hW)) (FB.out W hW).size
      (validM_iff.1 (validV_iff.1 g1).2.2).2.2.1 (validM_iff.1 (validV_iff.1 g2).2.2).2.2.1 (Nat.le_trans (validM_iff.1 (validV_iff.1 g1).2.2).2.1 (by omega)) (Nat.le_trans (validM_iff.1 (validV_iff.1 g2).2.2).2.1 (by omega))).mono fun _ _ h => h.to)
  dsimp only [vwV] at *
  clear h h' hz h01 hs0
  cases h1 : validV n1 l
  · have ht := Lib.hid (show diff n1 l n2 l2 = [] by unfold diff; rw [h1]; simp)
    rw [h1] at CV
    clear CW CS
    go_enter Try.func40, Try.ntmps40
    go_wp2_with (go_at_call 27; (with_reducible refine (CV.out _ r0).mono ?_); rintro e w1 ⟨rfl, b1⟩; obtain ⟨q0, q1, z0, z1, f0, f1⟩ := FV.out _ b1)
    go_ret
    exact ⟨_, rfl, by rw [ht.out]; exact World.ownsRow_nil _ _ _ _, FB.out _ b1⟩
  cases h2 : validV n2 l2
  · have ht := Lib.hid (show diff n1 l n2 l2 = [] by unfold diff; rw [h1, h2]; simp)
    rw [h1] at CV
    rw [h2] at CW
    clear CS
    go_enter Try.func40, Try.ntmps40
    go_wp2_with (first | (go_at_call 27; (with_reducible refine (CV.out _ r0).mono ?_); rintro e w1 ⟨rfl, b1⟩; obtain ⟨q0, q1, z0, z1, f0, f1⟩ := FV.out _ b1) | (go_at_call 27; (with_reducible refine (CW.out _ b1).mono ?_); rintro e w2 ⟨rfl, hq2⟩; (have b2 := bstep b1 hq2); clear q0 q1 z0 z1 f0 f1; obtain ⟨q0, q1, z0, z1, f0, f1⟩ := FV.out _ b2))
    go_ret
    exact ⟨_, rfl, by rw [ht.out]; exact World.ownsRow_nil _ _ _ _, FB.out _ b2⟩
  have ht : diff n1 l n2 l2 = insAll (among l l2 false) (among l2 l false) := by unfold diff; rw [h1, h2]; simp
  have CS2 := Lib.hid (fun W hW => CS.out W hW h1 h2)
  have g1 := validM_iff.1 (validV_iff.1 h1).2.2
  have g2 := validM_iff.1 (validV_iff.1 h2).2.2
  have hP0 : (among l l2 false).length ≤ 16 := Nat.le_trans (among_le _ _ _) g1.2.1
  have hJ0 : (among l2 l false).length ≤ 16 := Nat.le_trans (among_le _ _ _) g2.2.1
  have HM := Lib.hid (show mgF (among l l2 false) (among l2 l false) = diff n1 l n2 l2 by
    rw [ht]
    refine mgF_eq (among_asc g1.2.2.1) (among_asc g2.2.2.1) fun x hx hx2 => ?_
    rw [mem_among] at hx hx2
    have := hx2.2
    simp at this hx
    exact this hx.1)
  rw [h1] at CV
  rw [h2] at CW
  clear g1 g2 CS h1 h2 ht
  generalize among l l2 false = P0 at *
  generalize among l l2 true = M0 at *
  generalize among l2 l false = J at *
  have CM := Lib.hid (fun W A3 c3 A4 c4 (r3 : Reads W W.heap.size 1 A3 P0.length (P0.map intV)) (r4 : Reads W W.heap.size 1 A4 J.length (J.map intV)) (h4 : J.length ≤ c4) => merged_any A3 A4 c3 c4 P0 J W r3 r4 h4 (by omega) (by omega))
  go_enter Try.func40, Try.ntmps40
  go_wp2_with (first
    | (go_at_call 27; (with_reducible refine (CV.out _ r0).mono ?_); rintro e w1 ⟨rfl, b1⟩; obtain ⟨q0, q1, z0, z1, f0, f1⟩ := FV.out _ b1)
    | (go_at_call 27; (with_reducible refine (CW.out _ b1).mono ?_); rintro e w2 ⟨rfl, hq2⟩; (have b2 := bstep b1 hq2); clear q0 q1 z0 z1 f0 f1; obtain ⟨q0, q1, z0, z1, f0, f1⟩ := FV.out _ b2)
    | (go_at_call 47; (with_reducible refine (CS2.out _ b2).mono ?_); rintro e w3 ⟨A3, c3, A5, c5, A4, c4, rfl, ⟨k3, k5, k4⟩, ht3, ⟨r3, r5, r4⟩, hq3⟩; (have b3 := bstep b2 hq3); clear q0 q1 z0 z1 f0 f1; obtain ⟨q0, q1, z0, z1, f0, f1⟩ := FV.out _ b3)
    | (go_at_call 48; (with_reducible refine (CM.out _ _ _ _ _ r3 r4 k4).mono ?_); rintro e w4 ⟨v4, rfl, ho4, hq4⟩))
  go_ret
  exact ⟨_, rfl, by rw [← HM.out]; exact own_base ho4 (FB.out _ b3).size, (FB.out _ b3).trans (hq4.mono (FB.out _ b3).size)⟩

set_option maxRecDepth 100000 in
set_option maxHeartbeats 2000000 in
theorem viewNext_any (num : Int) (l q : List Int) (A C : Option Addr) (c d B : Nat) (w : World) (h : VW w B num l A c) (h' : LS w B q C d) (hB : B ≤ w.heap.size) :
    Calls Try.prog 24 #[vwV num A l.length c, .slice C q.length d] w (NextPost w (next num l q)) := by
  have h01 : Below w.heap.size w ((w.alloc (.cells #[.int .i64 num, .slice A l.length c] 31)).alloc (.cells #[.int .i64 0, .slice none 0 0] 31)) := ((Below.refl w.heap.size w).alloc (Nat.le_refl _) _).alloc (by simp) _
  have hz := two_blk w 31 #[.int .i64 num, .slice A l.length c] #[.int .i64 0, .slice none 0 0]
  have hs0 : ((w.alloc (.cells #[.int .i64 num, .slice A l.length c] 31)).alloc (.cells #[.int .i64 0, .slice none 0 0] 31)).heap.size = w.heap.size + 2 := by simp
  have FB := Lib.hid (fun W (hW : Below ((w.alloc (.cells #[.int .i64 num, .slice A l.length c] 31)).alloc (.cells #[.int .i64 0, .slice none 0 0] 31)).heap.size ((w.alloc (.cells #[.int .i64 num, .slice A l.length c] 31)).alloc (.cells #[.int .i64 0, .slice none 0 0] 31)) W) => h01.trans (hW.mono (by rw [hs0]; omega)))
  have FV := Lib.hid (fun W (hW : Below ((w.alloc (.cells #[.int .i64 num, .slice A l.length c] 31)).alloc (.cells #[.int .i64 0, .slice none 0 0] 31)).heap.size ((w.alloc (.cells #[.int .i64 num, .slice A l.length c] 31)).alloc (.cells #[.int .i64 0, .slice none 0 0] 31)) W) => cells22 (hz.1.below hW hz.1.lt) (hz.2.below hW hz.2.lt))
  have r0 := Below.refl ((w.alloc (.cells #[.int .i64 num, .slice A l.length c] 31)).alloc (.cells #[.int .i64 0, .slice none 0 0] 31)).heap.size ((w.alloc (.cells #[.int .i64 num, .slice A l.length c] 31)).alloc (.cells #[.int .i64 0, .slice none 0 0] 31))
  have CV := Lib.hid (fun W (hW : Below ((w.alloc (.cells #[.int .i64 num, .slice A l.length c] 31)).alloc (.cells #[.int .i64 0, .slice none 0 0] 31)).heap.size ((w.alloc (.cells #[.int .i64 num, .slice A l.length c] 31)).alloc (.cells #[.int .i64 0, .slice none 0 0] 31)) W) => viewValid_any num l A c w.heap.size W ((h.more hB).below (FB.out W hW)) (FB.out W hW).size)
  have CT := Lib.hid (fun W (hW : Below ((w.alloc (.cells #[.int .i64 num, .slice A l.length c] 31)).alloc (.cells #[.int .i64 0, .slice none 0 0] 31)).heap.size ((w.alloc (.cells #[.int .i64 num, .slice A l.length c] 31)).alloc (.cells #[.int .i64 0, .slice none 0 0] 31)) W) => viewValidC_any C d w.heap.size q W ((h'.more hB).below (FB.out W hW)) (FB.out W hW).size)
  have CS := Lib.hid (fun W (hW : Below ((w.alloc (.cells #[.int .i64 num, .slice A l.length c] 31)).alloc (.cells #[.int .i64 0, .slice none 0 0] 31)).heap.size ((w.alloc (.cells #[.int .i64 num, .slice A l.length c] 31)).alloc (.cells #[.int .i64 0, .slice none 0 0] 31)) W) (g : (validV num l && validC q) = true) =>
    (split_any A C c d w.heap.size l q W ((h.ls.more hB).below (FB.out W hW)) ((h'.more hB).below (FB.out W hW)) (FB.out W hW).size
      (valid_parts g).2.2.2.2.1 (valid_parts g).2.2.2.2.2.2.2.2.1 (Nat.le_trans (valid_parts g).2.2.2.1 (by omega)) (valid_parts g).2.2.2.2.2.2.2.1).mono fun _ _ h => h.to)
  obtain ⟨m1, m2⟩ := h.num64
  have hl40 := h.l40
  have hq40 := h'.l40
  dsimp only [vwV] at *
  clear h h' hz h01 hs0
  cases h1 : validV num l
  · have ht := Lib.hid (show next num l q = ((0, []), 1) by unfold next; rw [h1]; simp)
    rw [h1] at CV
    clear CT CS
    go_enter Try.func24, Try.ntmps24
    go_wp2_with (go_at_call 27; (with_reducible refine (CV.out _ r0).mono ?_); rintro e w1 ⟨rfl, b1⟩; obtain ⟨q0, q1, z0, z1, f0, f1⟩ := FV.out _ b1)
    refine bodyPost_ret (v := .tuple #[vwV 0 none 0 0, .int .i64 1]) (by simp [results, Try.results24, go_sem, vwV, z0, z1]) rfl ⟨none, 0, ?_, ?_, ?_, ?_⟩
    · rw [ht.out]; rfl
    · rw [ht.out]; exact Nat.le_refl _
    · rw [ht.out]; exact Reads.none_
    · repeat (with_reducible refine below_setV ?_ (by simp) _)
      exact FB.out _ b1
  cases h2 : validC q
  · have ht := Lib.hid (show next num l q = ((0, []), 1) by unfold next; rw [h1, h2]; simp)
    rw [h1] at CV
    rw [h2] at CT
    clear CS
    go_enter Try.func24, Try.ntmps24
    go_wp2_with (first | (go_at_call 27; (with_reducible refine (CV.out _ r0).mono ?_); rintro e w1 ⟨rfl, b1⟩; obtain ⟨q0, q1, z0, z1, f0, f1⟩ := FV.out _ b1) | (go_at_call 14; (with_reducible refine (CT.out _ b1).mono ?_); rintro e w2 ⟨rfl, hq2⟩; (have b2 := bstep b1 hq2); clear q0 q1 z0 z1 f0 f1; obtain ⟨q0, q1, z0, z1, f0, f1⟩ := FV.out _ b2))
    refine bodyPost_ret (v := .tuple #[vwV 0 none 0 0, .int .i64 1]) (by simp [results, Try.results24, go_sem, vwV, z0, z1]) rfl ⟨none, 0, ?_, ?_, ?_, ?_⟩
    · rw [ht.out]; rfl
    · rw [ht.out]; exact Nat.le_refl _
    · rw [ht.out]; exact Reads.none_
    · repeat (with_reducible refine below_setV ?_ (by simp) _)
      exact FB.out _ b2
  have hv : (validV num l && validC q) = true := by rw [h1, h2]; rfl
  have hpl := parts_len hv
  have hnx : next num l q = if 2 * (svs num l q).length ≤ l.length then ((0, []), 9) else if num = 1099511627776 ∨ 16 < (svs num l q).length + (jns num l q).length then ((0, []), 5) else ((num + 1, insAll (svs num l q) (jns num l q)), 0) := by
    unfold next
    rw [hv]
    simp
  obtain ⟨v1, v2, v3, v4, _⟩ := valid_parts hv
  have hSl : (svs num l q).length ≤ 16 := by omega
  have hJl : (jns num l q).length ≤ 32 := by have := (valid_parts hv).2.2.2.2.2.2.2.1; omega
  have CS2 := Lib.hid (fun W hW => by
    have h := CS.out W hW hv
    rw [← svs_eq hv, ← jns_eq hv] at h
    exact h)
  have HM := Lib.hid (show mgF (svs num l q) (jns num l q) = insAll (svs num l q) (jns num l q) from
    mgF_eq (parts_asc hv).2.2 (parts_asc hv).2.1 fun x hx hs => ((parts_mem hv x).2.1.1 hx).2 ((parts_mem hv x).2.2.1 hs).1)
  rw [h1] at CV
  rw [h2] at CT
  clear CS
  generalize svs num l q = S at *
  generalize jns num l q = J at *
  generalize among l q true = M0 at *
  have wm : IntKind.i64.wrap (2 * (S.length : Int)) = 2 * (S.length : Int) := IntWalk.i64_in _ (by omega)
  clear hv hpl h1 h2
  by_cases hm : 2 * S.length ≤ l.length
  · have ht := Lib.hid (show next num l q = ((0, []), 9) by rw [hnx, if_pos hm])
    have fm : 2 * (S.length : Int) ≤ (l.length : Int) := by omega
    clear hnx hm
    go_enter Try.func24, Try.ntmps24
    go_wp2_with (first | (go_at_call 27; (with_reducible refine (CV.out _ r0).mono ?_); rintro e w1 ⟨rfl, b1⟩; obtain ⟨q0, q1, z0, z1, f0, f1⟩ := FV.out _ b1) | (go_at_call 14; (with_reducible refine (CT.out _ b1).mono ?_); rintro e w2 ⟨rfl, hq2⟩; (have b2 := bstep b1 hq2); clear q0 q1 z0 z1 f0 f1; obtain ⟨q0, q1, z0, z1, f0, f1⟩ := FV.out _ b2) | (go_at_call 47; (with_reducible refine (CS2.out _ b2).mono ?_); rintro e w3 ⟨A3, c3, A5, c5, A4, c4, rfl, ⟨k3, k5, k4⟩, ht3, ⟨r3, r5, r4⟩, hq3⟩; (have b3 := bstep b2 hq3); clear q0 q1 z0 z1 f0 f1; obtain ⟨q0, q1, z0, z1, f0, f1⟩ := FV.out _ b3))
    refine bodyPost_ret (v := .tuple #[vwV 0 none 0 0, .int .i64 9]) (by simp [results, Try.results24, go_sem, vwV, z0, z1]) rfl ⟨none, 0, ?_, ?_, ?_, ?_⟩
    · rw [ht.out]; rfl
    · rw [ht.out]; exact Nat.le_refl _
    · rw [ht.out]; exact Reads.none_
    · repeat (with_reducible refine below_setV ?_ (by simp) _)
      exact FB.out _ b3
  have fm : ¬ 2 * (S.length : Int) ≤ (l.length : Int) := by omega
  rw [if_neg hm] at hnx
  by_cases hx : num = 1099511627776
  · have ht := Lib.hid (show next num l q = ((0, []), 5) by rw [hnx, if_pos (.inl hx)])
    have fx : (num == 1099511627776) = true := beqT hx
    clear hnx hm hx
    go_enter Try.func24, Try.ntmps24
    go_wp2_with (first | (go_at_call 27; (with_reducible refine (CV.out _ r0).mono ?_); rintro e w1 ⟨rfl, b1⟩; obtain ⟨q0, q1, z0, z1, f0, f1⟩ := FV.out _ b1) | (go_at_call 14; (with_reducible refine (CT.out _ b1).mono ?_); rintro e w2 ⟨rfl, hq2⟩; (have b2 := bstep b1 hq2); clear q0 q1 z0 z1 f0 f1; obtain ⟨q0, q1, z0, z1, f0, f1⟩ := FV.out _ b2) | (go_at_call 47; (with_reducible refine (CS2.out _ b2).mono ?_); rintro e w3 ⟨A3, c3, A5, c5, A4, c4, rfl, ⟨k3, k5, k4⟩, ht3, ⟨r3, r5, r4⟩, hq3⟩; (have b3 := bstep b2 hq3); clear q0 q1 z0 z1 f0 f1; obtain ⟨q0, q1, z0, z1, f0, f1⟩ := FV.out _ b3))
    refine bodyPost_ret (v := .tuple #[vwV 0 none 0 0, .int .i64 5]) (by simp [results, Try.results24, go_sem, vwV, z0, z1]) rfl ⟨none, 0, ?_, ?_, ?_, ?_⟩
    · rw [ht.out]; rfl
    · rw [ht.out]; exact Nat.le_refl _
    · rw [ht.out]; exact Reads.none_
    · repeat (with_reducible refine below_setV ?_ (by simp) _)
      exact FB.out _ b3
  have fx : (num == 1099511627776) = false := beqF hx
  have wa : IntKind.i64.wrap ((S.length : Int) + (J.length : Int)) = (S.length : Int) + (J.length : Int) := IntWalk.i64_in _ (by omega)
  by_cases hy : 16 < S.length + J.length
  · have ht := Lib.hid (show next num l q = ((0, []), 5) by rw [hnx, if_pos (.inr hy)])
    have fy : (16 : Int) < (S.length : Int) + (J.length : Int) := by omega
    clear hnx hm hx hy
    go_enter Try.func24, Try.ntmps24
    go_wp2_with (first | (go_at_call 27; (with_reducible refine (CV.out _ r0).mono ?_); rintro e w1 ⟨rfl, b1⟩; obtain ⟨q0, q1, z0, z1, f0, f1⟩ := FV.out _ b1) | (go_at_call 14; (with_reducible refine (CT.out _ b1).mono ?_); rintro e w2 ⟨rfl, hq2⟩; (have b2 := bstep b1 hq2); clear q0 q1 z0 z1 f0 f1; obtain ⟨q0, q1, z0, z1, f0, f1⟩ := FV.out _ b2) | (go_at_call 47; (with_reducible refine (CS2.out _ b2).mono ?_); rintro e w3 ⟨A3, c3, A5, c5, A4, c4, rfl, ⟨k3, k5, k4⟩, ht3, ⟨r3, r5, r4⟩, hq3⟩; (have b3 := bstep b2 hq3); clear q0 q1 z0 z1 f0 f1; obtain ⟨q0, q1, z0, z1, f0, f1⟩ := FV.out _ b3))
    refine bodyPost_ret (v := .tuple #[vwV 0 none 0 0, .int .i64 5]) (by simp [results, Try.results24, go_sem, vwV, z0, z1]) rfl ⟨none, 0, ?_, ?_, ?_, ?_⟩
    · rw [ht.out]; rfl
    · rw [ht.out]; exact Nat.le_refl _
    · rw [ht.out]; exact Reads.none_
    · repeat (with_reducible refine below_setV ?_ (by simp) _)
      exact FB.out _ b3
  have fy : ¬ (16 : Int) < (S.length : Int) + (J.length : Int) := by omega
  have ht := Lib.hid (show next num l q = ((num + 1, mgF S J), 0) by rw [hnx, if_neg (by omega), HM.out])
  have wn : IntKind.i64.wrap (num + 1) = num + 1 := IntWalk.i64_in _ (by omega)
  have HL := Lib.hid (len_mgF (a := S) (b := J))
  have CM := Lib.hid (fun W A3 c3 A4 c4 (r3 : Reads W W.heap.size 1 A3 S.length (S.map intV)) (r4 : Reads W W.heap.size 1 A4 J.length (J.map intV)) (h4 : J.length ≤ c4) => (merged_any A3 A4 c3 c4 S J W r3 r4 h4 (by omega) hJl).mono fun _ _ h => h.to (mgF S J) (mgF S J).length rfl rfl)
  clear hnx hm hx
  go_enter Try.func24, Try.ntmps24
  go_wp2_with (first | (go_at_call 27; (with_reducible refine (CV.out _ r0).mono ?_); rintro e w1 ⟨rfl, b1⟩; obtain ⟨q0, q1, z0, z1, f0, f1⟩ := FV.out _ b1) | (go_at_call 14; (with_reducible refine (CT.out _ b1).mono ?_); rintro e w2 ⟨rfl, hq2⟩; (have b2 := bstep b1 hq2); clear q0 q1 z0 z1 f0 f1; obtain ⟨q0, q1, z0, z1, f0, f1⟩ := FV.out _ b2) | (go_at_call 47; (with_reducible refine (CS2.out _ b2).mono ?_); rintro e w3 ⟨A3, c3, A5, c5, A4, c4, rfl, ⟨k3, k5, k4⟩, ht3, ⟨r3, r5, r4⟩, hq3⟩; (have b3 := bstep b2 hq3); clear q0 q1 z0 z1 f0 f1; obtain ⟨q0, q1, z0, z1, f0, f1⟩ := FV.out _ b3))
  have hg3 : w.heap.size + 2 ≤ w3.heap.size := by have := b3.size; simpa using this
  have HZ3 := Lib.hid (⟨z0, z1⟩ : w3.cell? ⟨w.heap.size + 1, 0, none⟩ = _ ∧ w3.cell? ⟨w.heap.size + 1, 1, none⟩ = _)
  have CMd := Lib.hid (CM.out w3.drew A3 c3 A4 c4 (show Reads w3.drew w3.drew.heap.size 1 A3 S.length (S.map intV) from r3) (show Reads w3.drew w3.drew.heap.size 1 A4 J.length (J.map intV) from r4) k4)
  clear z0 z1
  generalize mgF S J = P at *
  go_region_held3 (fun w' => w'.cell? ⟨w.heap.size, 0, none⟩ = some (.int .i64 num))
    (first
      | exact q0
      | exact (World.cell?_setCell_other _ _ _ _ (by simp)).trans q0
      | exact (World.cell?_setCell_other _ _ _ _ (by simp)).trans ((World.cell?_setCell_other _ _ _ _ (by simp)).trans q0)
      | fail)
    (first
      | (go_at_call 48; (with_reducible refine CMd.out.mono ?_); rintro e w5 ⟨A6, c6, rfl, hc6, ho6, hr6, hq5'⟩; (have hq5 : Below w3.heap.size w3 w5 := (Below.refl _ _).drew.trans hq5'); (have b5 := bstep b3 hq5); clear q0 q1 f0 f1; obtain ⟨q0, q1, z0, z1, f0, f1⟩ := FV.out _ b5)
      | fail)
  have ho7 := own_base (base := w.heap.size + 2) ho6 hg3
  go_wp2
  refine bodyPost_ret (v := .tuple #[vwV (num + 1) A6 P.length c6, .int .i64 0]) (by simp [results, Try.results24, go_sem, vwV, z0, z1]) rfl ⟨A6, c6, ?_, ?_, ?_, ?_⟩
  · rw [ht.out]; rfl
  · rw [ht.out]; exact hc6
  · rw [ht.out]; exact Reads.of_own (base := w.heap.size + 2) (e := 3) (by ((repeat (with_reducible refine own_setV ?_ (by simp) _)); exact ho7))
  · repeat (with_reducible refine below_setV ?_ (by simp) _)
    exact FB.out _ b5
end Go.Proofs.Yteiolhbjgfkdeaa.V
