/- The reference of layer 6: Merge. -/
import Derived.Test.YtojhdljbpmjigaaGreatDoorARef5
namespace Go.Proofs.YtojhdljbpmjigaaGreatDoor.Al
set_option linter.unusedVariables false
open Go.RowKit
open Go.Proofs.YtojhdljbpmjigaaGreatDoor.W
open Go.Proofs.YtojhdljbpmjigaaGreatDoor.V
open Go.Proofs.YtojhdljbpmjigaaGreatDoor.O
open Go.Proofs.YtojhdljbpmjigaaGreatDoor.Pb (Alr alrC alrsC len_alrsC alrsC_app alrsC_one alrsC_get alrsC_cell alrInfo step_append_alr reads_blk two_blk)

theorem merge_snoc {a b : List Alr} {k : Nat} {x : Alr} (h : b[k]? = some x) : mergeA a (b.take (k + 1)) = putA (mergeA a (b.take k)) x := by
  rw [take_snoc h]
  unfold mergeA
  rw [List.foldl_append]
  rfl
theorem outMrg_no {w w' : World} {num : Int} {l : List Int} {a b : List Alr} {e : Ending} (hk : (okS K num l a && okS K num l b) = false) (he : e = .returned (.tuple #[.slice none 0 0, .int .i64 1])) (hb : Below w.heap.size w w') :
    OutMrg w (mrgS K num l a b) (mrgE K num l a b) e w' := by
  unfold mrgS mrgE
  rw [hk]
  exact ⟨none, 0, he, AS.nil, hb⟩
theorem outMrg_yes {w w' : World} {num : Int} {l : List Int} {a b : List Alr} {e : Ending} {X : Option Addr} {cX : Nat} (hk : (okS K num l a && okS K num l b) = true) (he : e = .returned (.tuple #[.slice X (mergeA a b).length cX, .int .i64 0])) (ho : AS w' w'.heap.size (mergeA a b) X cX) (hb : Below w.heap.size w w') :
    OutMrg w (mrgS K num l a b) (mrgE K num l a b) e w' := by
  unfold mrgS mrgE
  rw [hk]
  exact ⟨X, cX, he, ho, hb⟩
set_option maxRecDepth 1000000 in
set_option maxHeartbeats 4000000 in
theorem refMerge_any (num : Int) (l : List Int) (A E F : Option Addr) (c cE cF B : Nat) (a b : List Alr) (w : World) (h : VW w B num l A c) (ha : AS w B a E cE) (hb : AS w B b F cF) (hB : B ≤ w.heap.size) (hla : a.length ≤ 1000) (hlb : b.length ≤ 1000) :
    Calls Tryz.prog 7 #[.agg #[.int .i64 num, .slice A l.length c], .slice E a.length cE, .slice F b.length cF] w (OutMrg w (mrgS K num l a b) (mrgE K num l a b)) := by
  have hb0 := (Below.refl w.heap.size w).alloc (Nat.le_refl _) (.cells #[.int .i64 num, .slice A l.length c] 24)
  have hz := Blk.new w 24 #[.int .i64 num, .slice A l.length c]
  have KV := Lib.hid (fun W (hW : Below w.heap.size w W) => refValidS_any num l A E c cE w.heap.size a W ((h.more hB).below hW) ((ha.more hB).below hW) hW.size)
  have KU := Lib.hid (fun W (hW : Below w.heap.size w W) => refValidS_any num l A F c cF w.heap.size b W ((h.more hB).below hW) ((hb.more hB).below hW) hW.size)
  have RA := Lib.hid (fun W (hW : Below w.heap.size w W) => ((ha.more hB).below hW).rd)
  have RB := Lib.hid (fun W (hW : Below w.heap.size w W) => ((hb.more hB).below hW).rd)
  have EA := Lib.hid ha.el
  have EB := Lib.hid hb.el
  have N1 := Lib.hid (fun h w' e he hb => outMrg_no (w := w) (w' := w') (e := e) (num := num) (l := l) (a := a) (b := b) h he hb)
  have Y1 := Lib.hid (fun h X cX w' e he ho hb => outMrg_yes (w := w) (w' := w') (e := e) (X := X) (cX := cX) (num := num) (l := l) (a := a) (b := b) h he ho hb)
  obtain ⟨Q, hQ⟩ : ∃ Q, Q = OutMrg w (mrgS K num l a b) (mrgE K num l a b) := ⟨_, rfl⟩
  rw [← hQ] at N1 Y1 ⊢
  clear hQ
  obtain ⟨n, hn⟩ : ∃ n, n = l.length := ⟨_, rfl⟩
  obtain ⟨na, hna⟩ : ∃ m, m = a.length := ⟨_, rfl⟩
  obtain ⟨nb, hnb⟩ : ∃ m, m = b.length := ⟨_, rfl⟩
  have HNA := Lib.hid hna
  have HNB := Lib.hid hnb
  rw [← hn] at hb0 hz KV KU ⊢
  rw [← hna] at KV RA hla ⊢
  rw [← hnb] at KU RB hlb ⊢
  have B0 := Lib.hid hb0
  have Z1 := Lib.hid hz
  clear hb0 hz hn hna hnb h ha hb
  go_enter Tryz.func7, Tryz.ntmps7
  go_upto_region 1 with fail
  generalize w.alloc (.cells #[.int .i64 num, .slice A n c] 24) = w0 at *
  have FB := Lib.hid (fun W (hW : Below w0.heap.size w0 W) => (blk2 (Z1.out.below hW Z1.out.lt)))
  have p0 := FB.out _ (Below.refl _ _)
  cases hv : okS K num l a
  · have HN := Lib.hid (N1.out (by rw [hv]; rfl))
    rw [hv] at KV
    clear N1 Y1 hv
    go_wp2_with (go_at_call 18; (with_reducible refine (KV.out _ B0.out).mono ?_); rintro e w1 ⟨rfl, b1⟩)
    exact HN.out _ _ rfl (B0.out.trans (b1.mono B0.out.size))
  rw [hv] at KV N1 Y1
  simp only [Bool.true_and] at N1 Y1
  clear hv
  cases hu : okS K num l b
  · have HN := Lib.hid (N1.out hu)
    rw [hu] at KU
    clear N1 Y1 hu
    go_wp2_with (first
      | (go_at_call 18; (with_reducible refine (KV.out _ B0.out).mono ?_); rintro e w1 ⟨rfl, b1⟩; (have p1 := FB.out _ b1); (have W1 := Lib.hid (B0.out.trans (b1.mono B0.out.size))))
      | (go_at_call 18; (with_reducible refine (KU.out _ W1.out).mono ?_); rintro e w2 ⟨rfl, b2⟩)
      | fail)
    exact HN.out _ _ rfl (W.bstep W1.out b2)
  have HY := Lib.hid (Y1.out hu)
  rw [hu] at KU
  clear N1 Y1 hu
  go_upto_region 3 with (first
      | (go_at_call 18; (with_reducible refine (KV.out _ B0.out).mono ?_); rintro e w1 ⟨rfl, b1⟩; (have p1 := FB.out _ b1); (have W1 := Lib.hid (B0.out.trans (b1.mono B0.out.size))))
      | (go_at_call 18; (with_reducible refine (KU.out _ W1.out).mono ?_); rintro e w2 ⟨rfl, b2⟩)
      | fail)
  have W2 := Lib.hid (W.bstep W1.out b2)
  have hs2 := W2.out.size
  clear p0 p1 b1 b2 W1 KV KU
  go_wp2_with (first
    | (at_builtin; refine wp_append_alrs _ rfl (.tmp 20) (.tmp 21) rfl w2.heap.size _ [] a w.heap.size na _ _ rfl (own_empty (Nat.le_refl _) rfl) rfl (RA.out _ (W2.out.alloc hs2 _)) HNA.out.symm (by simp; omega) (by simp) ?_; intro v3 w3 ho3 hb3 hgx)
    | fail)
  obtain ⟨X3, c3, rfl, has3⟩ := AS.of_own ho3 (by have := HNA.out; simp; omega) (by simpa using EA.out)
  have W3 := Lib.hid (W2.out.trans ((((Below.refl _ _).alloc (Nat.le_refl _) _).trans hb3).mono hs2))
  have HAS3 := Lib.hid has3
  clear ho3 hb3 hgx has3
  simp only [List.nil_append] at HAS3 ⊢
  go_loopg [8, 9] nb (fun gk s8 s9 wr => ∃ (k : Nat) (O : List Alr) (X : Option Addr) (cX : Nat), k + gk = nb ∧ s9 = .int .i64 k ∧ s8 = .slice X O.length cX ∧ Hid (O = mergeA a (b.take k)) ∧ Hid (AS wr wr.heap.size O X cX) ∧ Hid (Below w.heap.size w wr))
  case atStart => exact ⟨0, a, X3, c3, by omega, rfl, rfl, rfl, HAS3.out, W3.out⟩
  case round =>
    obtain ⟨k, O, X, cX, hkg, rfl, rfl, HO, HS, HW⟩ := hrel
    cases gk with
    | zero =>
      have hkz : ¬ ((k : Int) < (nb : Int)) := by omega
      have hO : O = mergeA a b := by rw [HO.out, List.take_of_length_le (by have := HNB.out; omega)]
      subst hO
      go_wp2_with fail
      exact HY.out _ _ _ _ rfl HS.out HW.out
    | succ gk =>
      have hkz : (k : Int) < (nb : Int) := by omega
      obtain ⟨x, hx⟩ : ∃ x, b[k]? = some x := ⟨_, List.getElem?_eq_getElem (by have := HNB.out; omega)⟩
      obtain ⟨ad, rfl, -, -, x0, x1, x2, x3⟩ := alr_at (RB.out _ HW.out) hx
      have HX := Lib.hid (merge_snoc (a := a) hx)
      have EX := Lib.hid (EB.out x (List.mem_of_getElem? hx))
      have LO := Lib.hid (show O.length ≤ 3000 from by
        rw [HO.out]
        have := (merge_len (a := a) (b := b.take k)).2
        rw [List.length_take] at this
        have := HNA.out
        have := HNB.out
        omega)
      have KP := Lib.hid (refPut_any X cX wr.heap.size O x wr HS.out (Nat.le_refl _) (by have := LO.out; omega))
      have LP := Lib.hid (show (putA O x).length ≤ 1099511627776 from by have := (putA_len (s := O) (a := x)).2; have := LO.out; omega)
      have EP := Lib.hid (El.putA EX.out HS.out.el)
      dsimp only [alrV] at KP
      clear hx
      obtain ⟨no, hno⟩ : ∃ m, m = O.length := ⟨_, rfl⟩
      rw [← hno] at KP ⊢
      clear hno
      go_wp2_with (first
        | (go_at_call 19; (with_reducible refine KP.out.mono ?_); rintro e w4 ⟨v4, rfl, ho4, b4⟩)
        | fail)
      obtain ⟨X4, c4, rfl, has4⟩ := AS.of_own ho4 LP.out EP.out
      have H4 := Lib.hid has4
      have B4 := Lib.hid (W.bstep HW.out b4)
      clear ho4 has4 b4
      go_roundg gk
      case measure => omega
      case rel => exact ⟨k + 1, putA O x, X4, c4, by omega, by go_num, rfl, by rw [HX.out, ← HO.out]; exact rfl, H4.out, B4.out⟩
end Go.Proofs.YtojhdljbpmjigaaGreatDoor.Al
