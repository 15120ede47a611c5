/- Layer 8: Small, awake. -/
import Derived.Test.YtmnagkjdnmnbkaaFLaw0
namespace Go.Proofs.Ytmnagkjdnmnbkaa.Fv
set_option linter.unusedVariables false
set_option linter.unusedSimpArgs false
open Go.RowKit
open Go.Proofs.Ytmnagkjdnmnbkaa.W
open Go.Proofs.Ytmnagkjdnmnbkaa.V

def smallF (n : Nat) (ps : List Pbl) : Bool := ps.all (fun p => decide (p.cut.length ≤ 60)) && (decide (n ≤ 60) && decide (ps.length ≤ 60))
theorem all_drop {ps : List Pbl} {k : Nat} {x : Pbl} (h : ps[k]? = some x) : (ps.drop k).all (fun p => decide (p.cut.length ≤ 60)) = (decide (x.cut.length ≤ 60) && (ps.drop (k + 1)).all fun p => decide (p.cut.length ≤ 60)) := by
  rw [List.drop_eq_getElem_cons (List.getElem?_eq_some_iff.1 h).1, (List.getElem?_eq_some_iff.1 h).2]; rfl
set_option maxRecDepth 1000000 in
set_option maxHeartbeats 4000000 in
theorem small8_any (num : Int) (A E : Option Addr) (n c cE B : Nat) (ps : List Pbl) (w : World) (hr : Reads w B 2 E ps.length (balsC ps)) (hB : B ≤ w.heap.size) (hm : ps.length ≤ 9223372036854775807) :
    Calls Try.prog 8 #[.agg #[.int .i64 num, .slice A n c], .slice E ps.length cE] w (PB w (smallF n ps)) := by
  have hb0 := (Below.refl w.heap.size w).alloc (Nat.le_refl _) (.cells #[.int .i64 num, .slice A n c] 24)
  have hz := Blk.new w 24 #[.int .i64 num, .slice A n c]
  have RS := Lib.hid (fun W (hW : Below w.heap.size w W) => (hr.more hB).below hW)
  obtain ⟨t, ht⟩ : ∃ t, t = smallF n ps := ⟨_, rfl⟩
  have HT := Lib.hid (show t = (ps.all (fun p => decide (p.cut.length ≤ 60)) && (decide (n ≤ 60) && decide (ps.length ≤ 60))) from ht)
  rw [← ht]
  obtain ⟨ns, hns⟩ : ∃ n, n = ps.length := ⟨_, rfl⟩
  have HNS := Lib.hid hns
  rw [← hns] at RS HT hm ⊢
  have B0 := Lib.hid hb0
  have Z1 := Lib.hid hz
  clear hb0 hz hns ht hr
  go_enter Try.func8, Try.ntmps8
  go_upto_region 1 with fail
  generalize w.alloc (.cells #[.int .i64 num, .slice A n c] 24) = w0 at *
  have p0 := blk2 Z1.out
  go_wp2_with fail
  go_loopg [5] ns (fun gk s5 wr => ∃ k : Nat, k + gk = ns ∧ s5 = .int .i64 k ∧ w0 = wr ∧ Hid (t = ((ps.drop k).all (fun p => decide (p.cut.length ≤ 60)) && (decide (n ≤ 60) && decide (ns ≤ 60)))))
  case atStart => exact ⟨0, by omega, rfl, rfl, HT.out⟩
  case round =>
    obtain ⟨k, hkg, rfl, rfl, HK⟩ := hrel
    cases gk with
    | zero =>
      have hkz : ¬ ((k : Int) < (ns : Int)) := by omega
      have HF := Lib.hid (show t = (decide (n ≤ 60) && decide (ns ≤ 60)) by
        rw [HK.out, List.drop_eq_nil_of_le (by have := HNS.out; omega)]; rfl)
      by_cases h1 : n ≤ 60
      · by_cases h2 : ns ≤ 60
        · have ht := Lib.hid (show t = true by rw [HF.out]; simp [h1, h2])
          have d1 : decide ((n : Int) ≤ 60) = true := by simp; omega
          have d2 : decide ((ns : Int) ≤ 60) = true := by simp; omega
          clear h1 h2
          go_wp2_with fail
          all_goals try (exfalso; simp at d1 d2; omega)
          go_ret
          exact ⟨by rw [ht.out]; rfl, B0.out⟩
        · have ht := Lib.hid (show t = false by rw [HF.out]; simp [h2])
          have d1 : decide ((n : Int) ≤ 60) = true := by simp; omega
          have d2 : decide ((ns : Int) ≤ 60) = false := by simp; omega
          clear h1 h2
          go_wp2_with fail
          all_goals try (exfalso; simp at d1 d2; omega)
          go_ret
          exact ⟨by rw [ht.out]; rfl, B0.out⟩
      · have ht := Lib.hid (show t = false by rw [HF.out]; simp [h1])
        have d1 : decide ((n : Int) ≤ 60) = false := by simp; omega
        clear h1
        go_wp2_with fail
        all_goals try (exfalso; simp at d1; omega)
        go_ret
        exact ⟨by rw [ht.out]; rfl, B0.out⟩
    | succ gk =>
      have hkz : (k : Int) < (ns : Int) := by omega
      have hk0 : ¬ (k : Int) < 0 := by omega
      obtain ⟨x, hx⟩ : ∃ x, ps[k]? = some x := ⟨_, List.getElem?_eq_getElem (by have := HNS.out; omega)⟩
      obtain ⟨ad, rfl, -, -, x0, x1⟩ := bal_at (RS.out _ B0.out) hx
      have HD := Lib.hid (all_drop hx)
      obtain ⟨xm, xp, xc, xl⟩ := x
      dsimp only at *
      obtain ⟨nq, hnq⟩ : ∃ q, q = xl.length := ⟨_, rfl⟩
      rw [← hnq] at x1 HD
      clear hx hnq
      by_cases h : 60 < nq
      · have g : decide ((60 : Int) < (nq : Int)) = true := by simp; omega
        have HF := Lib.hid (show t = false by rw [HK.out, HD.out, decide_eq_false (show ¬ nq ≤ 60 by omega)]; rfl)
        clear h
        go_wp2_with fail
        all_goals try (exfalso; simp at g; omega)
        go_ret
        exact ⟨by rw [HF.out]; rfl, B0.out⟩
      · have g : decide ((60 : Int) < (nq : Int)) = false := by simp; omega
        have HF := Lib.hid (show t = ((ps.drop (k + 1)).all (fun p => decide (p.cut.length ≤ 60)) && (decide (n ≤ 60) && decide (ns ≤ 60))) by rw [HK.out, HD.out, decide_eq_true (show nq ≤ 60 by omega), Bool.true_and])
        clear h
        go_wp2_with fail
        all_goals try (exfalso; simp at g; omega)
        go_roundg gk
        case measure => omega
        case rel => exact ⟨k + 1, by omega, by go_num, rfl, HF.out⟩

theorem OutBx.to {w w' : World} {R : List Bal} {n err : Nat} {e : Ending} (h : OutBx w R n err e w') (R' : List Bal) (n' err' : Nat) (h1 : R = R') (h2 : n = n') (h3 : err = err') : OutBx w R' n' err' e w' := by subst h1 h2 h3; exact h
theorem OutWn.to {w w' : World} {R : List Int} {n : Nat} {b : Bool} {e : Ending} (h : OutWn w R n b e w') (R' : List Int) (n' : Nat) (b' : Bool) (h1 : R = R') (h2 : n = n') (h3 : b = b') : OutWn w R' n' b' e w' := by subst h1 h2 h3; exact h
theorem cuts_ok {ps : List Pbl} {k : Nat} (h : ps.map Pbl.bal = boxA k) : ∀ p ∈ ps, p.cut.length ≤ 1000 := fun p hp => by
  have h1 : p.bal ∈ boxA k := by rw [← h]; exact List.mem_map.2 ⟨p, hp, rfl⟩
  have h2 : p.cut = [4] := cutA h1
  rw [h2]; simp
/-- A list of one element in a block of its own. -/
theorem ls_one {W : World} {x : Int} {g : Nat} (h : Blk W g 3 #[.int .i64 x]) (hx : In64 x) : LS W W.heap.size [x] (some ⟨g, 0, none⟩) 1 := by
  refine ⟨⟨rfl, fun _ => ⟨_, rfl, h.lt, fun j u hu => ?_⟩⟩, by show 1 ≤ _; omega, fun y hy => by rw [List.mem_singleton.1 hy]; exact hx, Nat.le_refl _⟩
  match j, hu with
  | 0, hu =>
    have e : (⟨g, 0, none⟩ : Addr).add 0 = ⟨g, 0, none⟩ := by simp [Addr.add]
    rw [e, h.cell 0]
    exact hu
theorem reads_lit {W : World} {g n sz : Nat} {t : TypeId} {cs : Array Value} (h : Blk W g t cs) (hn : cs.size = n * sz) : Reads W W.heap.size sz (some ⟨g, 0, none⟩) n cs.toList := by
  refine ⟨by simpa using hn, fun _ => ⟨_, rfl, h.lt, fun j u hu => ?_⟩⟩
  have e : (⟨g, 0, none⟩ : Addr).add j = ⟨g, j, none⟩ := by unfold Addr.add; split <;> simp_all
  rw [e, h.cell j, ← hu]
  simp
theorem blkN {w : World} {t : TypeId} {cs : Array Value} {g : Nat} (hg : g = w.heap.size) : Blk (w.alloc (.cells cs t)) g t cs := by subst hg; exact Blk.new w t cs
theorem ls_nil (W : World) (B : Nat) (A : Option Addr) (c : Nat) : LS W B [] A c := ⟨⟨rfl, fun h => absurd h (by simp)⟩, by show 0 ≤ _; omega, fun x hx => (by cases hx), Nat.zero_le _⟩
set_option maxRecDepth 1000000 in
set_option maxHeartbeats 16000000 in
theorem awake_of (C : VoteC) (w : World) : Calls Try.prog 7 #[] w (PB w true) := by
  have b0 := (Below.refl w.heap.size w).alloc (Nat.le_refl _) (.cells #[.int .i64 1, .int .i64 2, .int .i64 3, .int .i64 4] 3)
  have hL : LS (w.alloc (.cells #[.int .i64 1, .int .i64 2, .int .i64 3, .int .i64 4] 3)) _ [1, 2, 3, 4] (some ⟨w.heap.size, 0, none⟩) 4 := ls_lit w #[.int .i64 1, .int .i64 2, .int .i64 3, .int .i64 4] [1, 2, 3, 4] 4 rfl rfl (by decide) (in_lit (by decide))
  obtain ⟨w0, hw0⟩ : ∃ W, W = w.alloc (.cells #[.int .i64 1, .int .i64 2, .int .i64 3, .int .i64 4] 3) := ⟨_, rfl⟩
  rw [← hw0] at b0 hL
  have hs0 : w0.heap.size = w.heap.size + 1 := by rw [hw0]; simp
  have VV := Lib.hid (fun W (hW : Below w0.heap.size w0 W) => show VW W W.heap.size 0 [1, 2, 3, 4] (some ⟨w.heap.size, 0, none⟩) 4 from (VW.below ⟨⟨by decide, by decide⟩, hL.rd, hL.l40, hL.el, hL.cap⟩ hW).more hW.size)
  have KC := Lib.hid (fun (k : Nat) (hk : k < 4) (ps : List Pbl) (hp : ps.map Pbl.bal = boxA k) (q : Pbl) (hq : q.bal = ⟨4 - (k : Int), [4]⟩) E cE W (hW : Below w0.heap.size w0 W) (hE : BS W W.heap.size ps E cE) (hQ : PG W W.heap.size q) => by
    have hl := len_map_eq hp
    rw [lenA] at hl
    have e1 := castA ⟨k, hk⟩
    have r := (C.cast 0 [1, 2, 3, 4] (some ⟨w.heap.size, 0, none⟩) E 4 cE W.heap.size ps q W (VV.out W hW) hE hQ (Nat.le_refl _) (by omega)).mono fun _ _ h => h.to (boxA (k + 1)) (k + 1) 0 (by rw [hp, hq, castB_ok e1]; rfl) (by rw [hp, hq, castB_ok e1, len_insF, lenA]) (by rw [hp, hq]; exact e1)
    rw [hl] at r
    exact r)
  have KC4 := Lib.hid (fun (ps : List Pbl) (hp : ps.map Pbl.bal = boxA 4) (q : Pbl) (hq : q.bal = ⟨1, [4]⟩) E cE W (hW : Below w0.heap.size w0 W) (hE : BS W W.heap.size ps E cE) (hQ : PG W W.heap.size q) => by
    have hl := len_map_eq hp
    rw [lenA] at hl
    have r := (C.cast 0 [1, 2, 3, 4] (some ⟨w.heap.size, 0, none⟩) E 4 cE W.heap.size ps q W (VV.out W hW) hE hQ (Nat.le_refl _) (by omega)).mono fun _ _ h => h.to [] 0 7 (by rw [hp, hq]; exact castB_no (by rw [castA4]; decide)) (by rw [hp, hq, castB_no (by rw [castA4]; decide)]; rfl) (by rw [hp, hq]; exact castA4)
    rw [hl] at r
    exact r)
  have KW := Lib.hid (fun (k : Nat) (hk : k < 4) (ps : List Pbl) (hp : ps.map Pbl.bal = boxA k) E cE W (hW : Below w0.heap.size w0 W) (hE : BS W W.heap.size ps E cE) => by
    have hl := len_map_eq hp
    rw [lenA] at hl
    have r := (C.win 0 [1, 2, 3, 4] (some ⟨w.heap.size, 0, none⟩) E 4 cE W.heap.size ps W (VV.out W hW) hE (Nat.le_refl _) (by omega) (by decide) (cuts_ok hp)).mono fun _ _ h => h.to [] 0 false (by rw [hp, winA ⟨k, hk⟩]; rfl) (by rw [hp, winA ⟨k, hk⟩]; rfl) (by rw [hp, winA ⟨k, hk⟩]; rfl)
    rw [hl] at r
    exact r)
  have KW4 := Lib.hid (fun (ps : List Pbl) (hp : ps.map Pbl.bal = boxA 4) E cE W (hW : Below w0.heap.size w0 W) (hE : BS W W.heap.size ps E cE) => by
    have hl := len_map_eq hp
    rw [lenA] at hl
    have r := (C.win 0 [1, 2, 3, 4] (some ⟨w.heap.size, 0, none⟩) E 4 cE W.heap.size ps W (VV.out W hW) hE (Nat.le_refl _) (by omega) (by decide) (cuts_ok hp)).mono fun _ _ h => h.to [4] 1 true (by rw [hp, winA4]; rfl) (by rw [hp, winA4]; rfl) (by rw [hp, winA4]; rfl)
    rw [hl] at r
    exact r)
  have KO4 := Lib.hid (fun (ps : List Pbl) (hp : ps.map Pbl.bal = boxA 4) E cE G W (hE : BS W W.heap.size ps E cE) (hG : LS W W.heap.size [4] G 1) => by
    have hl := len_map_eq hp
    rw [lenA] at hl
    have r := C.votes E G cE 1 W.heap.size ps [4] W hE hG (Nat.le_refl _) (by omega) (by decide) (cuts_ok hp)
    rw [hl, hp, votesA4] at r
    exact r)
  simp only [List.length_cons, List.length_nil, Nat.zero_add, Nat.reduceAdd] at KC KC4 KW KW4 KO4
  clear hL
  go_enter Try.func7, Try.ntmps7
  go_upto_region 2 with fail
  rw [← hw0]
  have B1 := Lib.hid (show Below w0.heap.size w0 (w0.alloc (.cells #[.int .i64 0, .slice (some ⟨w.heap.size, 0, none⟩) 4 4] 24)) from (Below.refl _ _).alloc (Nat.le_refl _) _)
  have Z1 := Lib.hid (show Blk (w0.alloc (.cells #[.int .i64 0, .slice (some ⟨w.heap.size, 0, none⟩) 4 4] 24)) (w.heap.size + 1) 24 #[.int .i64 0, .slice (some ⟨w.heap.size, 0, none⟩) 4 4] from by rw [← hs0]; exact Blk.new _ _ _)
  have BW := Lib.hid b0
  clear hw0 hs0 b0
  generalize w0.alloc (.cells #[.int .i64 0, .slice (some ⟨w.heap.size, 0, none⟩) 4 4] 24) = w1 at *
  have FB := Lib.hid (fun W (hW : Below w1.heap.size w1 W) => (blk2 (Z1.out.below hW Z1.out.lt)))
  go_wp2_with fail
  go_loopg [2, 3, 4, 5, 6] 4 (fun gk s2 s3 _ _ _ wr => ∃ (k : Nat) (ps : List Pbl) (X : Option Addr) (cX : Nat), k + gk = 4 ∧ s3 = .int .i64 ((k + 1 : Nat) : Int) ∧ s2 = .slice X k cX ∧ Hid (ps.map Pbl.bal = boxA k) ∧ Hid (BS wr wr.heap.size ps X cX) ∧ Hid (Below w1.heap.size w1 wr))
  case atStart => exact ⟨0, [], none, 0, by omega, rfl, rfl, rfl, BS.nil, Below.refl _ _⟩
  case round =>
    obtain ⟨k, ps, X, cX, hkg, rfl, rfl, HPS, HE, HW⟩ := hrel
    have U := Lib.hid (below2 B1.out HW.out)
    have p0 := FB.out _ HW.out
    cases gk with
    | zero =>
      have hk4 : k = 4 := by omega
      subst hk4
      have hkz : ¬ (((4 : Nat) : Int) + 1 ≤ 4) := by omega
      have KCX := Lib.hid (show Calls Try.prog 9 #[.agg #[.int .i64 0, .slice (some ⟨w.heap.size, 0, none⟩) 4 4], .slice X 4 cX, .agg #[.int .i64 1, .slice (some ⟨wr.heap.size, 0, none⟩) 1 1]] (wr.alloc (.cells #[.int .i64 4] 3)) (OutBx (wr.alloc (.cells #[.int .i64 4] 3)) [] 0 7) from
        KC4.out ps HPS.out ⟨1, some ⟨wr.heap.size, 0, none⟩, 1, [4]⟩ rfl X cX _ (below2 U.out ((Below.refl _ _).alloc (Nat.le_refl _) _)) (HE.out.step ((Below.refl _ _).alloc (Nat.le_refl _) _)) ⟨ls_one (Blk.new wr 3 #[.int .i64 4]) ⟨by decide, by decide⟩, show In64 1 from ⟨by decide, by decide⟩⟩)
      have BA := Lib.hid (fun (W : World) (cs : Array Value) (t : TypeId) => (Below.refl W.heap.size W).alloc (Nat.le_refl _) (.cells cs t))
      have KWX := Lib.hid (fun W (hW : Below wr.heap.size wr W) => KW4.out ps HPS.out X cX W (below2 U.out hW) (HE.out.step hW))
      have KOX := Lib.hid (fun W (hW : Below wr.heap.size wr W) => KO4.out ps HPS.out X cX (some ⟨W.heap.size, 0, none⟩) (W.alloc (.cells #[.int .i64 4] 3)) (HE.out.step (below2 hW (BA.out W _ _))) (ls_one (Blk.new W 3 #[.int .i64 4]) ⟨by decide, by decide⟩))
      have KUX := Lib.hid (fun (g1 g2 g3 : Nat) W (hW : Below wr.heap.size wr W) (h1 : Blk W g1 3 #[.int .i64 4]) (h2 : Blk W g2 3 #[.int .i64 3]) (h3 : Blk W g3 27 #[.int .i64 1, .slice (some ⟨g1, 0, none⟩) 1 1, .int .i64 2, .slice (some ⟨g2, 0, none⟩) 1 1]) => show Calls Try.prog 20 #[.agg #[.int .i64 0, .slice (some ⟨w.heap.size, 0, none⟩) 4 4], .slice (some ⟨g3, 0, none⟩) 2 2] W (PB W true) by
        have r := C.und 0 [1, 2, 3, 4] (some ⟨w.heap.size, 0, none⟩) (some ⟨g3, 0, none⟩) 4 2 W.heap.size [⟨1, some ⟨g1, 0, none⟩, 1, [4]⟩, ⟨2, some ⟨g2, 0, none⟩, 1, [3]⟩] W (VV.out W (below2 U.out hW)) ⟨reads_lit (n := 2) (sz := 2) h3 rfl, by show 2 ≤ _; omega, by
            intro p hp
            simp at hp
            rcases hp with rfl | rfl
            · exact ⟨ls_one h1 ⟨by decide, by decide⟩, show In64 1 from ⟨by decide, by decide⟩⟩
            · exact ⟨ls_one h2 ⟨by decide, by decide⟩, show In64 2 from ⟨by decide, by decide⟩⟩, Nat.le_refl _⟩ (Nat.le_refl _) (by show 2 ≤ 1000; decide) (by decide) (by
            intro p hp
            simp at hp
            rcases hp with rfl | rfl <;> (show 1 ≤ 1000; decide))
        rw [show ([⟨1, some ⟨g1, 0, none⟩, 1, [4]⟩, ⟨2, some ⟨g2, 0, none⟩, 1, [3]⟩] : List Pbl).map Pbl.bal = [⟨1, [4]⟩, ⟨2, [3]⟩] from rfl, undA] at r
        exact r)
      have KSX := Lib.hid (fun (g : Nat) W => show Calls Try.prog 14 #[.slice none 0 0, .slice (some ⟨g, 0, none⟩) 0 0] W (PB W true) from
        C.same [] [] none (some ⟨g, 0, none⟩) 0 0 W.heap.size W (ls_nil _ _ _ _) (ls_nil _ _ _ _) (Nat.le_refl _) (by decide) (by decide))
      have UU := Lib.hid (fun W (hW : Below wr.heap.size wr W) => below2 BW.out (below2 U.out hW))
      clear KC KC4 KW KW4 KO4
      go_upto_region 15 with (first
        | (go_at_call 9; go_loud (with_reducible refine KCX.out.mono ?_); rintro e w4 ⟨A4, c4, ps4, rfl, -, -, -, q4⟩; (have v4 := below2 (BA.out wr _ _) q4); (have p4 := FB.out _ (below2 HW.out v4)))
        | (go_at_call 16; go_loud (with_reducible refine (KWX.out _ v4).mono ?_); rintro e w5 ⟨A5, c5, rfl, -, l5, q5⟩; (have v5 := below2 v4 q5); (have p5 := FB.out _ (below2 HW.out v5)))
        | fail)
      obtain ⟨ad, u, rfl, -, hxu, hcell⟩ := l5.rd.at_ (k := 0) (by decide)
      have hux : u = .int .i64 4 := by simp [intV] at hxu; exact hxu.symm
      rw [hux, show ad.add 0 = ad by simp [Addr.add]] at hcell
      have n1 : (0 : Int) < 1 := by decide
      clear hux hxu l5 KCX KWX p0 p4
      go_wp2_with (first
        | (go_at_call 18; go_loud (with_reducible refine (KOX.out _ v5).mono ?_); rintro e w7 ⟨rfl, q7⟩; (have v7 := below2 v5 (below2 (BA.out w5 _ _) q7)); (have p7 := FB.out _ (below2 HW.out v7)))
        | (go_at_call 20; go_loud (with_reducible refine (KUX.out w7.heap.size (w7.heap.size + 1) (w7.heap.size + 2) _ (below2 v7 (below2 (below2 (BA.out w7 _ _) (BA.out _ _ _)) (BA.out _ _ _))) (((Blk.new w7 _ _).alloc _).alloc _) ((blkN (by simp)).alloc _) (blkN (by simp))).mono ?_); rintro e w8 ⟨rfl, q8⟩)
        | (go_at_call 14; go_loud (with_reducible refine (KSX.out _ _).mono ?_); rintro e w9 ⟨rfl, q9⟩)
        | fail)
      go_ret
      refine ⟨rfl, ?_⟩
      have v8 := below2 v7 (below2 (below2 (below2 (BA.out w7 (#[.int .i64 4]) 3) (BA.out _ (#[.int .i64 3]) 3)) (BA.out _ _ _)) q8)
      exact below2 (UU.out _ v8) (below2 (BA.out w8 _ _) q9)
    | succ gi =>
      have hkz : ((k : Int) + 1 ≤ 4) := by omega
      have w5 : IntKind.i64.wrap (5 - ((k : Int) + 1)) = 5 - ((k : Int) + 1) := IntWalk.i64_in _ (by omega)
      have e54 : (5 - ((k : Int) + 1)) = 4 - (k : Int) := by omega
      have KWX := Lib.hid (KW.out k (by omega) ps HPS.out X cX wr U.out HE.out)
      have KCX := Lib.hid (fun w4 (q4 : Below wr.heap.size wr w4) => show Calls Try.prog 9 #[.agg #[.int .i64 0, .slice (some ⟨w.heap.size, 0, none⟩) 4 4], .slice X k cX, .agg #[.int .i64 (5 - ((k : Int) + 1)), .slice (some ⟨w4.heap.size, 0, none⟩) 1 1]] (w4.alloc (.cells #[.int .i64 4] 3)) (OutBx (w4.alloc (.cells #[.int .i64 4] 3)) (boxA (k + 1)) (k + 1) 0) by
        rw [e54]
        exact KC.out k (by omega) ps HPS.out ⟨4 - (k : Int), some ⟨w4.heap.size, 0, none⟩, 1, [4]⟩ rfl X cX _ (below2 U.out (q4.alloc q4.size _)) (HE.out.step (q4.alloc q4.size _)) ⟨ls_one (Blk.new w4 3 #[.int .i64 4]) ⟨by decide, by decide⟩, show In64 (4 - (k : Int)) from ⟨by omega, by omega⟩⟩)
      clear KC KC4 KW KW4 KO4 e54
      go_wp2_with (first
        | (go_at_call 16; (with_reducible refine KWX.out.mono ?_); rintro e w4 ⟨A4, c4, rfl, -, l4, q4⟩; (have p4 := FB.out _ (below2 HW.out q4)))
        | (go_at_call 9; go_loud (with_reducible refine (KCX.out w4 q4).mono ?_); rintro e w6 ⟨A6, c6, ps6, rfl, -, hp6, hb6, q6⟩)
        | fail)
      have V6 := Lib.hid (below2 HW.out (below2 (q4.alloc q4.size _) q6))
      go_roundg gi
      case measure => omega
      case rel => exact ⟨k + 1, ps6, A6, c6, by omega, by go_num, rfl, hp6, hb6, V6.out⟩
end Go.Proofs.Ytmnagkjdnmnbkaa.Fv
