/- The reference of layer 3: Diff, Next. -/
import Derived.Test.YteiolhbjgfkdeaaVRef3
namespace Go.Proofs.Yteiolhbjgfkdeaa.V
set_option linter.unusedVariables false
open Go.RowKit
open Go.Proofs.Yteiolhbjgfkdeaa.W

theorem two_blk (w : World) (t : TypeId) (x y : Array Value) : Blk ((w.alloc (.cells x t)).alloc (.cells y t)) w.heap.size t x ∧ Blk ((w.alloc (.cells x t)).alloc (.cells y t)) (w.heap.size + 1) t y := by
  refine ⟨(Blk.new w t x).alloc _, ?_⟩
  have h := Blk.new (w.alloc (.cells x t)) t y
  rwa [show (w.alloc (.cells x t)).heap.size = w.heap.size + 1 by simp] at h
theorem cells22 {W : World} {g1 g2 : Nat} {t : TypeId} {a0 a1 b0 b1 : Value} (h : Blk W g1 t #[a0, a1]) (h' : Blk W g2 t #[b0, b1]) :
    W.cell? ⟨g1, 0, none⟩ = some a0 ∧ W.cell? ⟨g1, 1, none⟩ = some a1 ∧ W.cell? ⟨g2, 0, none⟩ = some b0 ∧ W.cell? ⟨g2, 1, none⟩ = some b1 ∧ W.frozen? ⟨g2, 0, none⟩ = false ∧ W.frozen? ⟨g2, 1, none⟩ = false :=
  ⟨h.cell 0, h.cell 1, h'.cell 0, h'.cell 1, h'.frozen 0, h'.frozen 1⟩
theorem insAll_snoc {l j : List Int} {k : Nat} {x : Int} (h : j[k]? = some x) : insAll l (j.take (k + 1)) = ins x (insAll l (j.take k)) := by
  unfold insAll
  rw [List.take_add_one, h, List.foldl_append]
  rfl
theorem among_in {l m : List Int} {b : Bool} (h : ∀ x ∈ l, In64 x) : ∀ x ∈ among l m b, In64 x := fun x hx => h x (List.mem_filter.1 hx).1
set_option maxRecDepth 100000 in
set_option maxHeartbeats 1000000 in
theorem refDiff_any (n1 n2 : Int) (l l2 : List Int) (A A2 : Option Addr) (c c2 B : Nat) (w : World) (h : VW w B n1 l A c) (h' : VW w B n2 l2 A2 c2) (hB : B ≤ w.heap.size) :
    Calls Try.prog 41 #[vwV n1 A l.length c, vwV n2 A2 l2.length c2] w (OwnI w (diff n1 l n2 l2)) := by
  have h01 : Below w.heap.size w ((w.alloc (.cells #[.int .i64 n1, .slice A l.length c] 31)).alloc (.cells #[.int .i64 n2, .slice A2 l2.length c2] 31)) := ((Below.refl w.heap.size w).alloc (Nat.le_refl _) _).alloc (by simp) _
  have hz := two_blk w 31 #[.int .i64 n1, .slice A l.length c] #[.int .i64 n2, .slice A2 l2.length c2]
  have hs0 : ((w.alloc (.cells #[.int .i64 n1, .slice A l.length c] 31)).alloc (.cells #[.int .i64 n2, .slice A2 l2.length c2] 31)).heap.size = w.heap.size + 2 := by simp
  have FB := Lib.hid (fun W (hW : Below ((w.alloc (.cells #[.int .i64 n1, .slice A l.length c] 31)).alloc (.cells #[.int .i64 n2, .slice A2 l2.length c2] 31)).heap.size ((w.alloc (.cells #[.int .i64 n1, .slice A l.length c] 31)).alloc (.cells #[.int .i64 n2, .slice A2 l2.length c2] 31)) W) => h01.trans (hW.mono (by rw [hs0]; omega)))
  have FV := Lib.hid (fun W (hW : Below ((w.alloc (.cells #[.int .i64 n1, .slice A l.length c] 31)).alloc (.cells #[.int .i64 n2, .slice A2 l2.length c2] 31)).heap.size ((w.alloc (.cells #[.int .i64 n1, .slice A l.length c] 31)).alloc (.cells #[.int .i64 n2, .slice A2 l2.length c2] 31)) W) => cells22 (hz.1.below hW hz.1.lt) (hz.2.below hW hz.2.lt))
  have r0 := Below.refl ((w.alloc (.cells #[.int .i64 n1, .slice A l.length c] 31)).alloc (.cells #[.int .i64 n2, .slice A2 l2.length c2] 31)).heap.size ((w.alloc (.cells #[.int .i64 n1, .slice A l.length c] 31)).alloc (.cells #[.int .i64 n2, .slice A2 l2.length c2] 31))
  have CV := Lib.hid (fun W (hW : Below ((w.alloc (.cells #[.int .i64 n1, .slice A l.length c] 31)).alloc (.cells #[.int .i64 n2, .slice A2 l2.length c2] 31)).heap.size ((w.alloc (.cells #[.int .i64 n1, .slice A l.length c] 31)).alloc (.cells #[.int .i64 n2, .slice A2 l2.length c2] 31)) W) => refValid_any n1 l A c w.heap.size W ((h.more hB).below (FB.out W hW)) (FB.out W hW).size)
  have CW := Lib.hid (fun W (hW : Below ((w.alloc (.cells #[.int .i64 n1, .slice A l.length c] 31)).alloc (.cells #[.int .i64 n2, .slice A2 l2.length c2] 31)).heap.size ((w.alloc (.cells #[.int .i64 n1, .slice A l.length c] 31)).alloc (.cells #[.int .i64 n2, .slice A2 l2.length c2] 31)) W) => refValid_any n2 l2 A2 c2 w.heap.size W ((h'.more hB).below (FB.out W hW)) (FB.out W hW).size)
  have CA := Lib.hid (fun W (hW : Below ((w.alloc (.cells #[.int .i64 n1, .slice A l.length c] 31)).alloc (.cells #[.int .i64 n2, .slice A2 l2.length c2] 31)).heap.size ((w.alloc (.cells #[.int .i64 n1, .slice A l.length c] 31)).alloc (.cells #[.int .i64 n2, .slice A2 l2.length c2] 31)) W) => (refAmong_any A A2 c c2 w.heap.size l l2 false W ((h.ls.more hB).below (FB.out W hW)) ((h'.ls.more hB).below (FB.out W hW)) (FB.out W hW).size).mono fun _ _ h => h.to (among l l2 false) (among l l2 false).length rfl rfl)
  have CB := Lib.hid (fun W (hW : Below ((w.alloc (.cells #[.int .i64 n1, .slice A l.length c] 31)).alloc (.cells #[.int .i64 n2, .slice A2 l2.length c2] 31)).heap.size ((w.alloc (.cells #[.int .i64 n1, .slice A l.length c] 31)).alloc (.cells #[.int .i64 n2, .slice A2 l2.length c2] 31)) W) => (refAmong_any A2 A c2 c w.heap.size l2 l false W ((h'.ls.more hB).below (FB.out W hW)) ((h.ls.more hB).below (FB.out W hW)) (FB.out W hW).size).mono fun _ _ h => h.to (among l2 l false) (among l2 l false).length rfl rfl)
  have hl1 := Nat.le_trans (among_le l l2 false) h.l40
  have hl2 := Nat.le_trans (among_le l2 l false) h'.l40
  dsimp only [vwV] at *
  clear h h' hz h01 hs0
  cases h1 : validV n1 l
  · have ht := Lib.hid (show diff n1 l n2 l2 = [] by unfold diff; rw [h1]; simp)
    rw [h1] at CV
    clear CW CA CB
    go_enter Try.func41, Try.ntmps41
    go_wp2_with (go_at_call 28; (with_reducible refine (CV.out _ r0).mono ?_); rintro e w1 ⟨rfl, b1⟩; obtain ⟨q0, q1, z0, z1, f0, f1⟩ := FV.out _ b1)
    go_ret
    exact ⟨_, rfl, by rw [ht.out]; exact World.ownsRow_nil _ _ _ _, FB.out _ b1⟩
  cases h2 : validV n2 l2
  · have ht := Lib.hid (show diff n1 l n2 l2 = [] by unfold diff; rw [h1, h2]; simp)
    rw [h1] at CV
    rw [h2] at CW
    clear CA CB
    go_enter Try.func41, Try.ntmps41
    go_wp2_with (first | (go_at_call 28; (with_reducible refine (CV.out _ r0).mono ?_); rintro e w1 ⟨rfl, b1⟩; obtain ⟨q0, q1, z0, z1, f0, f1⟩ := FV.out _ b1) | (go_at_call 28; (with_reducible refine (CW.out _ b1).mono ?_); rintro e w2 ⟨rfl, hq2⟩; (have b2 := bstep b1 hq2); clear q0 q1 z0 z1 f0 f1; obtain ⟨q0, q1, z0, z1, f0, f1⟩ := FV.out _ b2))
    go_ret
    exact ⟨_, rfl, by rw [ht.out]; exact World.ownsRow_nil _ _ _ _, FB.out _ b2⟩
  have ht := Lib.hid (show diff n1 l n2 l2 = insAll (among l l2 false) (among l2 l false) by unfold diff; rw [h1, h2]; simp)
  rw [h1] at CV
  rw [h2] at CW
  have g1 := validM_iff.1 (validV_iff.1 h1).2.2
  have g2 := validM_iff.1 (validV_iff.1 h2).2.2
  have hP0 : (among l l2 false).length ≤ 16 := Nat.le_trans (among_le _ _ _) g1.2.1
  have hJ0 : (among l2 l false).length ≤ 16 := Nat.le_trans (among_le _ _ _) g2.2.1
  clear g1 g2 hl1 hl2
  generalize among l l2 false = P0 at *
  generalize among l2 l false = J at *
  go_enter Try.func41, Try.ntmps41
  go_wp2_with (first
    | (go_at_call 28; (with_reducible refine (CV.out _ r0).mono ?_); rintro e w1 ⟨rfl, b1⟩; obtain ⟨q0, q1, z0, z1, f0, f1⟩ := FV.out _ b1)
    | (go_at_call 28; (with_reducible refine (CW.out _ b1).mono ?_); rintro e w2 ⟨rfl, hq2⟩; (have b2 := bstep b1 hq2); clear q0 q1 z0 z1 f0 f1; obtain ⟨q0, q1, z0, z1, f0, f1⟩ := FV.out _ b2)
    | (go_at_call 52; (with_reducible refine (CA.out _ b2).mono ?_); rintro e w3 ⟨A3, c3, rfl, hc3, ho3, hr3, hq3⟩; (have b3 := bstep b2 hq3); clear q0 q1 z0 z1 f0 f1; obtain ⟨q0, q1, z0, z1, f0, f1⟩ := FV.out _ b3)
    | (go_at_call 52; (with_reducible refine (CB.out _ b3).mono ?_); rintro e w4 ⟨A4, c4, rfl, hc4, ho4, hr4, hq4⟩; (have b4 := bstep b3 hq4)))
  have ho3b := own_base (own_below ho3 hq4) (FB.out _ b2).size
  have hw4 := FB.out _ b4
  go_loopw [5, 7] (fun out i wr => ∃ (k : Nat) (P : List Int), k ≤ J.length ∧ i = .int .i64 k ∧ P.length ≤ P0.length + k ∧ P = insAll P0 (J.take k) ∧ wr.ownsRow w.heap.size 3 1 out P.length (P.map intV) ∧ Below w4.heap.size w4 wr) (fun _ i _ => J.length - (intOf i).toNat)
  case atStart => exact ⟨0, P0, Nat.zero_le _, rfl, Nat.le_refl _, rfl, ho3b, Below.refl _ _⟩
  case round =>
    obtain ⟨k, P, hk, rfl, hPl, hPe, hown, hbel⟩ := hrel
    by_cases hlt : k < J.length
    · obtain ⟨ad, u, rfl, _, hx, hcell⟩ := (hr4.below hbel).at_ hlt
      obtain ⟨x, hxk⟩ : ∃ x, J[k]? = some x := ⟨_, List.getElem?_eq_getElem hlt⟩
      have hux : u = .int .i64 x := by simp [hxk, intV] at hx; exact hx.symm
      rw [hux] at hcell
      have hsn := Lib.hid (show insAll P0 (J.take (k + 1)) = ins x P by rw [insAll_snoc hxk, hPe])
      obtain ⟨A5, c5, hv5, hc5, hr5⟩ := SliceOf.of_own (xs := P.map intV) (base := w.heap.size) (e := 3) (by rw [List.length_map]; exact hown)
      rw [List.length_map] at hv5 hc5 hr5
      have CI := Lib.hid ((refInsert_any A5 c5 P x wr hr5 (by omega)).mono fun _ _ h => h.to (ins x P) (P.length + 1) rfl len_ins)
      have hlt2 : (k : Int) < (J.length : Int) := by omega
      have HV := Lib.hid hv5
      have hbw := hw4.trans (hbel.mono hw4.size)
      clear hx hux hxk hPe
      subst hv5
      go_wp2_with (go_at_call 49; (with_reducible refine CI.out.mono ?_); rintro e w6 ⟨A6, c6, rfl, hc6, ho6, hr6, hq6⟩)
      go_roundw
      case rel => exact ⟨k + 1, ins x P, by omega, by go_num, by rw [len_ins]; omega, hsn.out.symm, by rw [len_ins]; exact own_base ho6 hbw.size, bstep hbel hq6⟩
      case measure => simp [intOf]; omega
    · have he := Lib.hid (show diff n1 l n2 l2 = P by rw [ht.out, hPe, List.take_of_length_le (by omega)])
      have hlt2 : ¬ (k : Int) < (J.length : Int) := by omega
      clear hPe
      go_wp2
      go_ret
      exact ⟨_, rfl, by rw [he.out]; exact hown, hw4.trans (hbel.mono hw4.size)⟩
theorem below_setV {B : Nat} {a w : World} (h : Below B a w) {p : Addr} (hp : B ≤ p.block) (u : Value) : Below B a (w.setCell p u) := h.setCell hp u
theorem own_setV {B : Nat} {w : World} {e : TypeId} {size : Nat} {v : Value} {n : Nat} {xs : List Value} (h : w.ownsRow B e size v n xs) {p : Addr} (hp : p.block < B) (u : Value) : (w.setCell p u).ownsRow B e size v n xs :=
  ownsRow_setCell_below h hp u
/-- What Next leaves. -/
def NextPost (w : World) (r : (Int × List Int) × Nat) (e : Ending) (w' : World) : Prop :=
  ∃ A c, e = .returned (.tuple #[vwV r.1.1 A r.1.2.length c, .int .i64 r.2]) ∧ r.1.2.length ≤ c ∧ Reads w' w'.heap.size 1 A r.1.2.length (r.1.2.map intV) ∧ Below w.heap.size w w'
set_option maxRecDepth 100000 in
set_option maxHeartbeats 2000000 in
theorem refNext_any (num : Int) (l q : List Int) (A C : Option Addr) (c d B : Nat) (w : World) (h : VW w B num l A c) (h' : LS w B q C d) (hB : B ≤ w.heap.size) :
    Calls Try.prog 25 #[vwV num A l.length c, .slice C q.length d] w (NextPost w (next num l q)) := by
  have h01 : Below w.heap.size w ((w.alloc (.cells #[.int .i64 num, .slice A l.length c] 31)).alloc (.cells #[.int .i64 0, .slice none 0 0] 31)) := ((Below.refl w.heap.size w).alloc (Nat.le_refl _) _).alloc (by simp) _
  have hz := two_blk w 31 #[.int .i64 num, .slice A l.length c] #[.int .i64 0, .slice none 0 0]
  have hs0 : ((w.alloc (.cells #[.int .i64 num, .slice A l.length c] 31)).alloc (.cells #[.int .i64 0, .slice none 0 0] 31)).heap.size = w.heap.size + 2 := by simp
  have FB := Lib.hid (fun W (hW : Below ((w.alloc (.cells #[.int .i64 num, .slice A l.length c] 31)).alloc (.cells #[.int .i64 0, .slice none 0 0] 31)).heap.size ((w.alloc (.cells #[.int .i64 num, .slice A l.length c] 31)).alloc (.cells #[.int .i64 0, .slice none 0 0] 31)) W) => h01.trans (hW.mono (by rw [hs0]; omega)))
  have FV := Lib.hid (fun W (hW : Below ((w.alloc (.cells #[.int .i64 num, .slice A l.length c] 31)).alloc (.cells #[.int .i64 0, .slice none 0 0] 31)).heap.size ((w.alloc (.cells #[.int .i64 num, .slice A l.length c] 31)).alloc (.cells #[.int .i64 0, .slice none 0 0] 31)) W) => cells22 (hz.1.below hW hz.1.lt) (hz.2.below hW hz.2.lt))
  have r0 := Below.refl ((w.alloc (.cells #[.int .i64 num, .slice A l.length c] 31)).alloc (.cells #[.int .i64 0, .slice none 0 0] 31)).heap.size ((w.alloc (.cells #[.int .i64 num, .slice A l.length c] 31)).alloc (.cells #[.int .i64 0, .slice none 0 0] 31))
  have CV := Lib.hid (fun W (hW : Below ((w.alloc (.cells #[.int .i64 num, .slice A l.length c] 31)).alloc (.cells #[.int .i64 0, .slice none 0 0] 31)).heap.size ((w.alloc (.cells #[.int .i64 num, .slice A l.length c] 31)).alloc (.cells #[.int .i64 0, .slice none 0 0] 31)) W) => refValid_any num l A c w.heap.size W ((h.more hB).below (FB.out W hW)) (FB.out W hW).size)
  have CT := Lib.hid (fun W (hW : Below ((w.alloc (.cells #[.int .i64 num, .slice A l.length c] 31)).alloc (.cells #[.int .i64 0, .slice none 0 0] 31)).heap.size ((w.alloc (.cells #[.int .i64 num, .slice A l.length c] 31)).alloc (.cells #[.int .i64 0, .slice none 0 0] 31)) W) => (refValidC_any C d w.heap.size q W ((h'.rd.more hB).below (FB.out W hW)) h'.l40 h'.el).mono fun _ _ h => h.pb)
  have CS := Lib.hid (fun W (hW : Below ((w.alloc (.cells #[.int .i64 num, .slice A l.length c] 31)).alloc (.cells #[.int .i64 0, .slice none 0 0] 31)).heap.size ((w.alloc (.cells #[.int .i64 num, .slice A l.length c] 31)).alloc (.cells #[.int .i64 0, .slice none 0 0] 31)) W) => (refSurvivors_any num l q A C c d w.heap.size W ((h.more hB).below (FB.out W hW)) ((h'.more hB).below (FB.out W hW)) (FB.out W hW).size).mono fun _ _ h => h.to (svs num l q) (svs num l q).length rfl rfl)
  have CJ := Lib.hid (fun W (hW : Below ((w.alloc (.cells #[.int .i64 num, .slice A l.length c] 31)).alloc (.cells #[.int .i64 0, .slice none 0 0] 31)).heap.size ((w.alloc (.cells #[.int .i64 num, .slice A l.length c] 31)).alloc (.cells #[.int .i64 0, .slice none 0 0] 31)) W) => (refJoiners_any num l q A C c d w.heap.size W ((h.more hB).below (FB.out W hW)) ((h'.more hB).below (FB.out W hW)) (FB.out W hW).size).mono fun _ _ h => h.to (jns num l q) (jns num l q).length rfl rfl)
  obtain ⟨m1, m2⟩ := h.num64
  have hl40 := h.l40
  have hq40 := h'.l40
  dsimp only [vwV] at *
  clear h h' hz h01 hs0
  cases h1 : validV num l
  · have ht := Lib.hid (show next num l q = ((0, []), 1) by unfold next; rw [h1]; simp)
    rw [h1] at CV
    clear CT CS CJ
    go_enter Try.func25, Try.ntmps25
    go_wp2_with (go_at_call 28; (with_reducible refine (CV.out _ r0).mono ?_); rintro e w1 ⟨rfl, b1⟩; obtain ⟨q0, q1, z0, z1, f0, f1⟩ := FV.out _ b1)
    refine bodyPost_ret (v := .tuple #[vwV 0 none 0 0, .int .i64 1]) (by simp [results, Try.results25, go_sem, vwV, z0, z1]) rfl ⟨none, 0, ?_, ?_, ?_, ?_⟩
    · rw [ht.out]; rfl
    · rw [ht.out]; exact Nat.le_refl _
    · rw [ht.out]; exact Reads.none_
    · repeat (with_reducible refine below_setV ?_ (by simp) _)
      exact FB.out _ b1
  cases h2 : validC q
  · have ht := Lib.hid (show next num l q = ((0, []), 1) by unfold next; rw [h1, h2]; simp)
    rw [h1] at CV
    rw [h2] at CT
    clear CS CJ
    go_enter Try.func25, Try.ntmps25
    go_wp2_with (first | (go_at_call 28; (with_reducible refine (CV.out _ r0).mono ?_); rintro e w1 ⟨rfl, b1⟩; obtain ⟨q0, q1, z0, z1, f0, f1⟩ := FV.out _ b1) | (go_at_call 15; (with_reducible refine (CT.out _ b1).mono ?_); rintro e w2 ⟨rfl, hq2⟩; (have b2 := bstep b1 hq2); clear q0 q1 z0 z1 f0 f1; obtain ⟨q0, q1, z0, z1, f0, f1⟩ := FV.out _ b2))
    refine bodyPost_ret (v := .tuple #[vwV 0 none 0 0, .int .i64 1]) (by simp [results, Try.results25, go_sem, vwV, z0, z1]) rfl ⟨none, 0, ?_, ?_, ?_, ?_⟩
    · rw [ht.out]; rfl
    · rw [ht.out]; exact Nat.le_refl _
    · rw [ht.out]; exact Reads.none_
    · repeat (with_reducible refine below_setV ?_ (by simp) _)
      exact FB.out _ b2
  have hv : (validV num l && validC q) = true := by rw [h1, h2]; rfl
  have hpl := parts_len hv
  have hnx : next num l q = if 2 * (svs num l q).length ≤ l.length then ((0, []), 9) else if num = 1099511627776 ∨ 16 < (svs num l q).length + (jns num l q).length then ((0, []), 5) else ((num + 1, insAll (svs num l q) (jns num l q)), 0) := by
    unfold next
    rw [hv]
    simp
  obtain ⟨v1, v2, v3, v4, _⟩ := valid_parts hv
  have hSl : (svs num l q).length ≤ 16 := by omega
  have hJl : (jns num l q).length ≤ 1099511627776 := by omega
  rw [h1] at CV
  rw [h2] at CT
  generalize svs num l q = S at *
  generalize jns num l q = J at *
  have wm : IntKind.i64.wrap (2 * (S.length : Int)) = 2 * (S.length : Int) := IntWalk.i64_in _ (by omega)
  clear hv hpl h1 h2
  by_cases hm : 2 * S.length ≤ l.length
  · have ht := Lib.hid (show next num l q = ((0, []), 9) by rw [hnx, if_pos hm])
    have fm : 2 * (S.length : Int) ≤ (l.length : Int) := by omega
    clear CJ hnx hm
    go_enter Try.func25, Try.ntmps25
    go_wp2_with (first | (go_at_call 28; (with_reducible refine (CV.out _ r0).mono ?_); rintro e w1 ⟨rfl, b1⟩; obtain ⟨q0, q1, z0, z1, f0, f1⟩ := FV.out _ b1) | (go_at_call 15; (with_reducible refine (CT.out _ b1).mono ?_); rintro e w2 ⟨rfl, hq2⟩; (have b2 := bstep b1 hq2); clear q0 q1 z0 z1 f0 f1; obtain ⟨q0, q1, z0, z1, f0, f1⟩ := FV.out _ b2) | (go_at_call 35; (with_reducible refine (CS.out _ b2).mono ?_); rintro e w3 ⟨A3, c3, rfl, hc3, ho3, hr3, hq3⟩; (have b3 := bstep b2 hq3); clear q0 q1 z0 z1 f0 f1; obtain ⟨q0, q1, z0, z1, f0, f1⟩ := FV.out _ b3))
    refine bodyPost_ret (v := .tuple #[vwV 0 none 0 0, .int .i64 9]) (by simp [results, Try.results25, go_sem, vwV, z0, z1]) rfl ⟨none, 0, ?_, ?_, ?_, ?_⟩
    · rw [ht.out]; rfl
    · rw [ht.out]; exact Nat.le_refl _
    · rw [ht.out]; exact Reads.none_
    · repeat (with_reducible refine below_setV ?_ (by simp) _)
      exact FB.out _ b3
  have fm : ¬ 2 * (S.length : Int) ≤ (l.length : Int) := by omega
  rw [if_neg hm] at hnx
  by_cases hx : num = 1099511627776
  · have ht := Lib.hid (show next num l q = ((0, []), 5) by rw [hnx, if_pos (.inl hx)])
    have fx : (num == 1099511627776) = true := beqT hx
    clear hnx hm hx
    go_enter Try.func25, Try.ntmps25
    go_wp2_with (first | (go_at_call 28; (with_reducible refine (CV.out _ r0).mono ?_); rintro e w1 ⟨rfl, b1⟩; obtain ⟨q0, q1, z0, z1, f0, f1⟩ := FV.out _ b1) | (go_at_call 15; (with_reducible refine (CT.out _ b1).mono ?_); rintro e w2 ⟨rfl, hq2⟩; (have b2 := bstep b1 hq2); clear q0 q1 z0 z1 f0 f1; obtain ⟨q0, q1, z0, z1, f0, f1⟩ := FV.out _ b2) | (go_at_call 35; (with_reducible refine (CS.out _ b2).mono ?_); rintro e w3 ⟨A3, c3, rfl, hc3, ho3, hr3, hq3⟩; (have b3 := bstep b2 hq3); clear q0 q1 z0 z1 f0 f1; obtain ⟨q0, q1, z0, z1, f0, f1⟩ := FV.out _ b3) | (go_at_call 33; (with_reducible refine (CJ.out _ b3).mono ?_); rintro e w4 ⟨A4, c4, rfl, hc4, ho4, hr4, hq4⟩; (have b4 := bstep b3 hq4); clear q0 q1 z0 z1 f0 f1; obtain ⟨q0, q1, z0, z1, f0, f1⟩ := FV.out _ b4))
    refine bodyPost_ret (v := .tuple #[vwV 0 none 0 0, .int .i64 5]) (by simp [results, Try.results25, go_sem, vwV, z0, z1]) rfl ⟨none, 0, ?_, ?_, ?_, ?_⟩
    · rw [ht.out]; rfl
    · rw [ht.out]; exact Nat.le_refl _
    · rw [ht.out]; exact Reads.none_
    · repeat (with_reducible refine below_setV ?_ (by simp) _)
      exact FB.out _ b4
  have fx : (num == 1099511627776) = false := beqF hx
  have wa : IntKind.i64.wrap ((S.length : Int) + (J.length : Int)) = (S.length : Int) + (J.length : Int) := IntWalk.i64_in _ (by omega)
  by_cases hy : 16 < S.length + J.length
  · have ht := Lib.hid (show next num l q = ((0, []), 5) by rw [hnx, if_pos (.inr hy)])
    have fy : (16 : Int) < (S.length : Int) + (J.length : Int) := by omega
    clear hnx hm hx hy
    go_enter Try.func25, Try.ntmps25
    go_wp2_with (first | (go_at_call 28; (with_reducible refine (CV.out _ r0).mono ?_); rintro e w1 ⟨rfl, b1⟩; obtain ⟨q0, q1, z0, z1, f0, f1⟩ := FV.out _ b1) | (go_at_call 15; (with_reducible refine (CT.out _ b1).mono ?_); rintro e w2 ⟨rfl, hq2⟩; (have b2 := bstep b1 hq2); clear q0 q1 z0 z1 f0 f1; obtain ⟨q0, q1, z0, z1, f0, f1⟩ := FV.out _ b2) | (go_at_call 35; (with_reducible refine (CS.out _ b2).mono ?_); rintro e w3 ⟨A3, c3, rfl, hc3, ho3, hr3, hq3⟩; (have b3 := bstep b2 hq3); clear q0 q1 z0 z1 f0 f1; obtain ⟨q0, q1, z0, z1, f0, f1⟩ := FV.out _ b3) | (go_at_call 33; (with_reducible refine (CJ.out _ b3).mono ?_); rintro e w4 ⟨A4, c4, rfl, hc4, ho4, hr4, hq4⟩; (have b4 := bstep b3 hq4); clear q0 q1 z0 z1 f0 f1; obtain ⟨q0, q1, z0, z1, f0, f1⟩ := FV.out _ b4))
    refine bodyPost_ret (v := .tuple #[vwV 0 none 0 0, .int .i64 5]) (by simp [results, Try.results25, go_sem, vwV, z0, z1]) rfl ⟨none, 0, ?_, ?_, ?_, ?_⟩
    · rw [ht.out]; rfl
    · rw [ht.out]; exact Nat.le_refl _
    · rw [ht.out]; exact Reads.none_
    · repeat (with_reducible refine below_setV ?_ (by simp) _)
      exact FB.out _ b4
  have fy : ¬ (16 : Int) < (S.length : Int) + (J.length : Int) := by omega
  have ht := Lib.hid (show next num l q = ((num + 1, insAll S J), 0) by rw [hnx, if_neg (by omega)])
  have wn : IntKind.i64.wrap (num + 1) = num + 1 := IntWalk.i64_in _ (by omega)
  clear hnx hm hx
  go_enter Try.func25, Try.ntmps25
  go_wp2_with (first | (go_at_call 28; (with_reducible refine (CV.out _ r0).mono ?_); rintro e w1 ⟨rfl, b1⟩; obtain ⟨q0, q1, z0, z1, f0, f1⟩ := FV.out _ b1) | (go_at_call 15; (with_reducible refine (CT.out _ b1).mono ?_); rintro e w2 ⟨rfl, hq2⟩; (have b2 := bstep b1 hq2); clear q0 q1 z0 z1 f0 f1; obtain ⟨q0, q1, z0, z1, f0, f1⟩ := FV.out _ b2) | (go_at_call 35; (with_reducible refine (CS.out _ b2).mono ?_); rintro e w3 ⟨A3, c3, rfl, hc3, ho3, hr3, hq3⟩; (have b3 := bstep b2 hq3); clear q0 q1 z0 z1 f0 f1; obtain ⟨q0, q1, z0, z1, f0, f1⟩ := FV.out _ b3) | (go_at_call 33; (with_reducible refine (CJ.out _ b3).mono ?_); rintro e w4 ⟨A4, c4, rfl, hc4, ho4, hr4, hq4⟩; (have b4 := bstep b3 hq4); clear q0 q1 z0 z1 f0 f1; obtain ⟨q0, q1, z0, z1, f0, f1⟩ := FV.out _ b4))
  have hs2 : w.heap.size + 2 ≤ w2.heap.size := by have := b2.size; simpa using this
  have hs4 : w.heap.size + 2 ≤ w4.heap.size := by have := b4.size; simpa using this
  have ho3b := own_base (own_below ho3 hq4) hs2
  have hw4 := FB.out _ b4
  clear q0 q1 z0 z1 f0 f1
  go_loopw [6, 8] (fun out i wr => ∃ (k : Nat) (P : List Int), k ≤ J.length ∧ i = .int .i64 k ∧ P.length ≤ S.length + k ∧ P = insAll S (J.take k) ∧ wr.ownsRow (w.heap.size + 2) 3 1 out P.length (P.map intV) ∧ Below w4.heap.size w4 wr) (fun _ i _ => J.length - (intOf i).toNat)
  case atStart => exact ⟨0, S, Nat.zero_le _, rfl, Nat.le_refl _, rfl, ho3b, Below.refl _ _⟩
  case round =>
    obtain ⟨k, P, hk, rfl, hPl, hPe, hown, hbel⟩ := hrel
    have hbw := hw4.trans (hbel.mono hw4.size)
    by_cases hlt : k < J.length
    · obtain ⟨ad, u, rfl, _, hx, hcell⟩ := (hr4.below hbel).at_ hlt
      obtain ⟨x, hxk⟩ : ∃ x, J[k]? = some x := ⟨_, List.getElem?_eq_getElem hlt⟩
      have hux : u = .int .i64 x := by simp [hxk, intV] at hx; exact hx.symm
      rw [hux] at hcell
      have hsn := Lib.hid (show insAll S (J.take (k + 1)) = ins x P by rw [insAll_snoc hxk, hPe])
      obtain ⟨A5, c5, hv5, hc5, hr5⟩ := SliceOf.of_own (xs := P.map intV) (base := w.heap.size + 2) (e := 3) (by rw [List.length_map]; exact hown)
      rw [List.length_map] at hv5 hc5 hr5
      have CI := Lib.hid ((refInsert_any A5 c5 P x wr hr5 (by omega)).mono fun _ _ h => h.to (ins x P) (P.length + 1) rfl len_ins)
      have hlt2 : (k : Int) < (J.length : Int) := by omega
      clear hx hux hxk hPe
      subst hv5
      go_wp2_with (go_at_call 49; (with_reducible refine CI.out.mono ?_); rintro e w6 ⟨A6, c6, rfl, hc6, ho6, hr6, hq6⟩)
      go_roundw
      case rel => exact ⟨k + 1, ins x P, by omega, by go_num, by rw [len_ins]; omega, hsn.out.symm, by rw [len_ins]; exact own_base ho6 (Nat.le_trans hs4 hbel.size), bstep hbel hq6⟩
      case measure => simp [intOf]; omega
    · have he := Lib.hid (show next num l q = ((num + 1, P), 0) by rw [ht.out, hPe, List.take_of_length_le (by omega)])
      have hlt2 : ¬ (k : Int) < (J.length : Int) := by omega
      obtain ⟨A5, c5, hv5, hc5, hr5⟩ := SliceOf.of_own (xs := P.map intV) (base := w.heap.size + 2) (e := 3) (by rw [List.length_map]; exact hown)
      rw [List.length_map] at hv5 hc5 hr5
      have bw := bstep b4 hbel
      obtain ⟨q0, q1, z0, z1, f0, f1⟩ := FV.out _ bw
      clear hPe
      subst hv5
      go_wp2
      refine bodyPost_ret (v := .tuple #[vwV (num + 1) A5 P.length c5, .int .i64 0]) (by simp [results, Try.results25, go_sem, vwV, z0, z1]) rfl ⟨A5, c5, ?_, ?_, ?_, ?_⟩
      · rw [he.out]; rfl
      · rw [he.out]; exact hc5
      · rw [he.out]; exact Reads.of_own (base := w.heap.size + 2) (e := 3) (by ((repeat (with_reducible refine own_setV ?_ (by simp) _)); exact hown))
      · repeat (with_reducible refine below_setV ?_ (by simp) _)
        exact hbw
end Go.Proofs.Yteiolhbjgfkdeaa.V
