/- Package probe: what its functions leave; New. -/
import Derived.Test.YtihgbadglaogdaaDoorBProb2
namespace Go.Proofs.YtihgbadglaogdaaDoor.Pb
set_option linter.unusedVariables false
open Go.RowKit Go.Sort Go.Lib
open Go.Proofs.YtihgbadglaogdaaDoor.W
open Go.Proofs.YtihgbadglaogdaaDoor.V
open Go.Proofs.YtihgbadglaogdaaDoor.O

/-- A list of the call's own that is not empty. -/
def OwnL (w' : World) (B g c : Nat) (l : List Int) : Prop := w'.ownsRow B 3 1 (.slice (some ⟨g, 0, none⟩) l.length c) l.length (l.map intV)
/-- What New leaves. -/
structure NewPF (w : World) (me num : Int) (l : List Int) (e : Ending) (w' : World) : Prop where
  bel : Below w.heap.size w w'
  yes : okN num l me = true → ∃ g c E, e = .returned (.tuple #[detV me num (some ⟨g, 0, none⟩) l.length c E, .int .i64 0]) ∧ w.heap.size ≤ g ∧ OwnL w' w.heap.size g c l ∧ OwnE w' w.heap.size E (newE K l me)
  no : okN num l me = false → e = .returned (.tuple #[zeroD, .int .i64 1])
/-- What Heard leaves, and what copied leaves. -/
structure DetPF (w : World) (ok : Bool) (me num : Int) (l : List Int) (es : List Edge) (e : Ending) (w' : World) : Prop where
  bel : Below w.heap.size w w'
  yes : ok = true → ∃ g c E, e = .returned (detV me num (some ⟨g, 0, none⟩) l.length c E) ∧ w.heap.size ≤ g ∧ OwnL w' w.heap.size g c l ∧ OwnE w' w.heap.size E es
  no : ok = false → e = .returned zeroD
/-- What Tick leaves. -/
structure TickPF (w : World) (ok : Bool) (me num : Int) (l : List Int) (es : List Edge) (as_ : List Alr) (e : Ending) (w' : World) : Prop where
  bel : Below w.heap.size w w'
  yes : ok = true → ∃ g c E AL, e = .returned (.tuple #[detV me num (some ⟨g, 0, none⟩) l.length c E, AL]) ∧ w.heap.size ≤ g ∧ OwnL w' w.heap.size g c l ∧ OwnE w' w.heap.size E es ∧ OwnA w' w.heap.size AL as_
  no : ok = false → e = .returned (.tuple #[zeroD, .slice none 0 0])
theorem ok_pos {num : Int} {l : List Int} {me : Int} (h : okN num l me = true) : 1 ≤ l.length := by
  unfold okN at h
  rw [Bool.and_eq_true] at h
  exact List.length_pos_of_mem (hasB_iff.1 h.2)
/-- slices.Clone of a list that came in. -/
theorem clone_at (L : Option Addr) (c B : Nat) (l : List Int) (w : World) (h : LS w B l L c) (hB : B ≤ w.heap.size) (h1 : 1 ≤ l.length) :
    Calls Tryd.prog 33 #[.slice L l.length c] w (fun e w' => ∃ g cap, e = .returned (.slice (some ⟨g, 0, none⟩) l.length cap) ∧ w.heap.size ≤ g ∧ OwnL w' w.heap.size g cap l ∧ Below w.heap.size w w') :=
  (clone_any L c B l w h hB h1).mono fun _ _ h => own_open h h1

set_option maxRecDepth 1000000 in
set_option maxHeartbeats 4000000 in
theorem probeNew_any (me num : Int) (A : Option Addr) (c B : Nat) (l : List Int) (w : World) (h : VW w B num l A c) (hB : B ≤ w.heap.size) (hs : In64 me) (hT : H.Tab w) :
    Calls Tryd.prog 17 #[vwV num A l.length c, .int .i64 me] w (NewPF w me num l) := by
  have h01 : Below w.heap.size w ((w.alloc (.cells #[.int .i64 num, .slice A l.length c] 31)).alloc (.cells #[.int .i64 0, .int .i64 0, .slice none 0 0, .slice none 0 0] 34)) := ((Below.refl w.heap.size w).alloc (Nat.le_refl _) _).alloc (by simp) _
  have hz := two_blk w 31 34 #[.int .i64 num, .slice A l.length c] #[.int .i64 0, .int .i64 0, .slice none 0 0, .slice none 0 0]
  have FB := Lib.hid (fun W (hW : Below ((w.alloc (.cells #[.int .i64 num, .slice A l.length c] 31)).alloc (.cells #[.int .i64 0, .int .i64 0, .slice none 0 0, .slice none 0 0] 34)).heap.size ((w.alloc (.cells #[.int .i64 num, .slice A l.length c] 31)).alloc (.cells #[.int .i64 0, .int .i64 0, .slice none 0 0, .slice none 0 0] 34)) W) => h01.trans (hW.mono (by simp; omega)))
  have FV := Lib.hid (fun W (hW : Below ((w.alloc (.cells #[.int .i64 num, .slice A l.length c] 31)).alloc (.cells #[.int .i64 0, .int .i64 0, .slice none 0 0, .slice none 0 0] 34)).heap.size ((w.alloc (.cells #[.int .i64 num, .slice A l.length c] 31)).alloc (.cells #[.int .i64 0, .int .i64 0, .slice none 0 0, .slice none 0 0] 34)) W) => And.intro ((hz.1.below hW hz.1.lt).frozen 1) (cells24 (hz.1.below hW hz.1.lt) (hz.2.below hW hz.2.lt)))
  have r0 := Below.refl ((w.alloc (.cells #[.int .i64 num, .slice A l.length c] 31)).alloc (.cells #[.int .i64 0, .int .i64 0, .slice none 0 0, .slice none 0 0] 34)).heap.size ((w.alloc (.cells #[.int .i64 num, .slice A l.length c] 31)).alloc (.cells #[.int .i64 0, .int .i64 0, .slice none 0 0, .slice none 0 0] 34))
  have KV := Lib.hid (fun W (hW : Below ((w.alloc (.cells #[.int .i64 num, .slice A l.length c] 31)).alloc (.cells #[.int .i64 0, .int .i64 0, .slice none 0 0, .slice none 0 0] 34)).heap.size ((w.alloc (.cells #[.int .i64 num, .slice A l.length c] 31)).alloc (.cells #[.int .i64 0, .int .i64 0, .slice none 0 0, .slice none 0 0] 34)) W) => viewValid_any num l A c w.heap.size W ((h.more hB).below (FB.out W hW)) (FB.out W hW).size)
  have LSH := Lib.hid (fun W (hW : Below ((w.alloc (.cells #[.int .i64 num, .slice A l.length c] 31)).alloc (.cells #[.int .i64 0, .int .i64 0, .slice none 0 0, .slice none 0 0] 34)).heap.size ((w.alloc (.cells #[.int .i64 num, .slice A l.length c] 31)).alloc (.cells #[.int .i64 0, .int .i64 0, .slice none 0 0, .slice none 0 0] 34)) W) => ((h.ls.more hB).below (FB.out W hW)))
  have KC := Lib.hid (fun W (hW : Below ((w.alloc (.cells #[.int .i64 num, .slice A l.length c] 31)).alloc (.cells #[.int .i64 0, .int .i64 0, .slice none 0 0, .slice none 0 0] 34)).heap.size ((w.alloc (.cells #[.int .i64 num, .slice A l.length c] 31)).alloc (.cells #[.int .i64 0, .int .i64 0, .slice none 0 0, .slice none 0 0] 34)) W) => viewContains_any A c w.heap.size l me W (LSH.out W hW) (FB.out W hW).size)
  have HT := Lib.hid (show okN num l me = (validV num l && hasB l me) from rfl)
  have hn64 := h.num64
  dsimp only [vwV] at *
  cases hv : validV num l
  · have ht := Lib.hid (show okN num l me = false by rw [HT.out, hv]; rfl)
    rw [hv] at KV
    clear h hz h01 hT
    go_enter Tryd.func17, Tryd.ntmps17
    go_wp2_with (go_at_call 30; (with_reducible refine (KV.out _ r0).mono ?_); rintro e w1 ⟨rfl, b1⟩; obtain ⟨fq, q0, q1, z0, z1, z2, z3, f0, f1, f2, f3⟩ := FV.out _ b1)
    refine bodyPost_ret (v := .tuple #[zeroD, .int .i64 1]) (by simp [results, Tryd.results17, go_sem, zeroD, z0, z1, z2, z3]) rfl ⟨?_, (fun h => by rw [ht.out] at h; cases h), fun _ => rfl⟩
    repeat (with_reducible refine below_setV ?_ (by simp) _)
    exact FB.out _ b1
  cases hh : hasB l me
  · have ht := Lib.hid (show okN num l me = false by rw [HT.out, hh]; simp)
    rw [hv] at KV
    rw [hh] at KC
    clear h hz h01 hT
    go_enter Tryd.func17, Tryd.ntmps17
    go_wp2_with (first
      | (go_at_call 30; (with_reducible refine (KV.out _ r0).mono ?_); rintro e w1 ⟨rfl, b1⟩; obtain ⟨fq, q0, q1, z0, z1, z2, z3, f0, f1, f2, f3⟩ := FV.out _ b1)
      | (go_at_call 31; (with_reducible refine (KC.out _ b1).mono ?_); rintro e w2 ⟨rfl, b2⟩; obtain ⟨gq, p0, p1, y0, y1, y2, y3, g0, g1, g2, g3⟩ := FV.out _ (W.bstep b1 b2))
      | fail)
    refine bodyPost_ret (v := .tuple #[zeroD, .int .i64 1]) (by simp [results, Tryd.results17, go_sem, zeroD, y0, y1, y2, y3]) rfl ⟨?_, (fun h => by rw [ht.out] at h; cases h), fun _ => rfl⟩
    repeat (with_reducible refine below_setV ?_ (by simp) _)
    exact FB.out _ (W.bstep b1 b2)
  have hokn : okN num l me = true := by rw [HT.out, hv, hh]; rfl
  have ht := Lib.hid hokn
  have hl1 := ok_pos hokn
  rw [hv] at KV
  rw [hh] at KC
  have KS := Lib.hid (fun W (hW : Below ((w.alloc (.cells #[.int .i64 num, .slice A l.length c] 31)).alloc (.cells #[.int .i64 0, .int .i64 0, .slice none 0 0, .slice none 0 0] 34)).heap.size ((w.alloc (.cells #[.int .i64 num, .slice A l.length c] 31)).alloc (.cells #[.int .i64 0, .int .i64 0, .slice none 0 0, .slice none 0 0] 34)) W) => (overSubjects_any me A c w.heap.size l W (LSH.out W hW) (FB.out W hW).size hs (hT.on (FB.out W hW))).mono fun _ _ h => h.to (subL K l me) (subL K l me).length rfl rfl)
  have KL := Lib.hid (fun W (hW : Below ((w.alloc (.cells #[.int .i64 num, .slice A l.length c] 31)).alloc (.cells #[.int .i64 0, .int .i64 0, .slice none 0 0, .slice none 0 0] 34)).heap.size ((w.alloc (.cells #[.int .i64 num, .slice A l.length c] 31)).alloc (.cells #[.int .i64 0, .int .i64 0, .slice none 0 0, .slice none 0 0] 34)) W) => (clone_at A c w.heap.size l W (LSH.out W hW) (FB.out W hW).size hl1))
  have hsl := subL_len (K := K) (l := l) (x := me)
  have HSL := Lib.hid (show newE K l me = mkE 0 (subL K l me) from rfl)
  generalize subL K l me = sl at *
  obtain ⟨ns, hns⟩ : ∃ n, n = sl.length := ⟨_, rfl⟩
  have HNS := Lib.hid hns
  rw [← hns] at KS hsl
  clear h hz h01 hns HT hv hh hT hokn hl1
  go_enter Tryd.func17, Tryd.ntmps17
  go_upto_region 4 with (first
      | (go_at_call 30; (with_reducible refine (KV.out _ r0).mono ?_); rintro e w1 ⟨rfl, b1⟩; obtain ⟨fq, q0, q1, z0, z1, z2, z3, f0, f1, f2, f3⟩ := FV.out _ b1)
      | (go_at_call 31; (with_reducible refine (KC.out _ b1).mono ?_); rintro e w2 ⟨rfl, b2⟩; obtain ⟨gq, p0, p1, y0, y1, y2, y3, g0, g1, g2, g3⟩ := FV.out _ (W.bstep b1 b2))
      | fail)
  have HB12 := Lib.hid (W.bstep b1 b2)
  have b12 := HB12.out
  clear b1 b2 fq q0 q1 z0 z1 z2 z3 f0 f1 f2 f3 gq p0 y0 y1 y2 y3 g0 g1 g2 g3 KV KC r0
  go_wp2_with (first
      | (go_at_call 32; (with_reducible refine (KS.out _ b12).mono ?_); rintro e w3 ⟨A3, c3, rfl, hc3, ho3, hr3, hq3⟩)
      | fail)
  have HR3 := Lib.hid hr3
  have HB3 := Lib.hid (W.bstep b12 hq3)
  have hs3 : w.heap.size + 2 ≤ w3.heap.size := by have := HB3.out.size; simp at this; omega
  have HS3 := Lib.hid hs3
  clear hr3 ho3 hq3 b12 p1 KS hc3 hs3
  go_loopg [6, 7, 8, 25] ns (fun gk s6 _ _ s25 wr => ∃ (k : Nat) (P : List Edge), k + gk = ns ∧ s25 = .int .i64 k ∧ Hid (P = mkE 0 (sl.take k)) ∧ P.length = k ∧ Hid (OwnE wr w3.heap.size s6 P) ∧ Hid (Below w3.heap.size w3 wr))
  case atStart =>
    exact ⟨0, [], by omega, rfl, rfl, rfl, World.ownsRow_nil _ _ _ _, Below.refl _ _⟩
  case round =>
    obtain ⟨k, P, hkg, rfl, HP, hPk, HO, HW⟩ := hrel
    obtain ⟨AE, cE, rfl, hcE, _⟩ := OwnE.open_ HO.out
    obtain ⟨np, hnp⟩ : ∃ n, n = P.length := ⟨_, rfl⟩
    have HNP := Lib.hid hnp
    rw [← hnp] at HO hcE hPk ⊢
    have HPK := Lib.hid hPk
    have hws := HW.out.size
    clear hnp hPk
    cases gk with
    | zero =>
      have hkz : ¬ ((k : Int) < (ns : Int)) := by omega
      have hbr := W.bstep HB3.out HW.out
      obtain ⟨fq, q0, q1, z0, z1, z2, z3, f0, f1, f2, f3⟩ := FV.out _ hbr
      go_wp2_with (first
        | (go_at_call 33; (with_reducible refine (KL.out _ hbr).mono ?_); rintro e w4 ⟨g, cap, rfl, hg, hL, b4⟩; obtain ⟨fr, r0, r1, y0, y1, y2, y3, g0, g1, g2, g3⟩ := FV.out _ (W.bstep hbr b4))
        | fail)
      have ht2 := Lib.hid (show newE K l me = P by rw [HSL.out, HP.out, List.take_of_length_le (by have := HNS.out; omega)])
      refine bodyPost_ret (v := .tuple #[detV me num (some ⟨g, 0, none⟩) l.length cap (.slice AE np cE), .int .i64 0]) (by simp [results, Tryd.results17, go_sem, detV, y0, y1, y2, y3]) rfl ⟨?_, (fun _ => ⟨_, _, _, rfl, ?_, ?_, ?_⟩), (fun h => by rw [ht.out] at h; cases h)⟩
      · repeat (with_reducible refine below_setV ?_ (by simp) _)
        exact FB.out _ (W.bstep hbr b4)
      · have := HS3.out; omega
      · unfold OwnL at hL ⊢
        refine own_base (base' := wr.heap.size) ?_ (by have := HS3.out; omega)
        repeat (with_reducible refine own_setV ?_ (by first | (show w.heap.size + 1 < wr.heap.size; have := HS3.out; omega) | (show w.heap.size < wr.heap.size; have := HS3.out; omega)) _)
        exact hL
      · rw [ht2.out]
        have ho := own_below (show wr.ownsRow _ _ _ _ _ _ from HO.out) b4
        unfold OwnE
        refine own_base (base' := w3.heap.size) ?_ (by have := HS3.out; omega)
        repeat (with_reducible refine own_setV ?_ (by first | (show w.heap.size + 1 < w3.heap.size; have := HS3.out; omega) | (show w.heap.size < w3.heap.size; have := HS3.out; omega)) _)
        exact ho
    | succ gk =>
      have hkz : (k : Int) < (ns : Int) := by omega
      obtain ⟨ad, u, hA, hadb, hx, hcell⟩ := (HR3.out.below HW.out).at_ (k := k) (by omega)
      obtain ⟨y, hyk⟩ : ∃ y, sl[k]? = some y := ⟨_, List.getElem?_eq_getElem (by have := HNS.out; omega)⟩
      have huy : u = .int .i64 y := by simp [hyk, intV] at hx; exact hx.symm
      rw [huy] at hcell
      subst hA
      have HYK := Lib.hid hyk
      clear hx huy hyk hadb
      go_wp2_with (first
        | (at_builtin; refine wp_append_edge _ rfl (.tmp 30) (.tmp 34) rfl w3.heap.size _ P ⟨k, y, false, false, 0, 0⟩ _ _ _ rfl (World.ownsRow.alloc (by have := HO.out; unfold OwnE at this; exact this) _) rfl (reads_blk _ _ _) (by have := HPK.out; have := HNP.out; omega) (by simp; omega) ?_; intro v4 w4 ho4 hb4)
        | fail)
      go_roundg gk
      case measure => omega
      case rel =>
        refine ⟨k + 1, P ++ [⟨k, y, false, false, 0, 0⟩], by omega, by go_num, ?_, ?_, ?_, ?_⟩
        · show _ = _
          rw [HP.out, List.take_add_one, HYK.out]
          show _ = mkE 0 (sl.take k ++ [y])
          rw [mkE_snoc, List.length_take]
          have h1 := HNS.out
          rw [show min k sl.length = k by omega]
          simp
        · have := HPK.out; have := HNP.out; simp; omega
        · exact ho4
        · exact HW.out.trans (((Below.refl _ _).alloc hws _).trans hb4)
end Go.Proofs.YtihgbadglaogdaaDoor.Pb
