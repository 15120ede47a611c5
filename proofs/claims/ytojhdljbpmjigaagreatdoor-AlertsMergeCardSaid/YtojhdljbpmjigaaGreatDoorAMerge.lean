/- Layer 6: the walk of AlertsMerge. -/
import Derived.Test.YtojhdljbpmjigaaGreatDoorAAwake
namespace Go.Proofs.YtojhdljbpmjigaaGreatDoor.Al
set_option linter.unusedVariables false
open Go.RowKit
open Go.Proofs.YtojhdljbpmjigaaGreatDoor.W
open Go.Proofs.YtojhdljbpmjigaaGreatDoor.V
open Go.Proofs.YtojhdljbpmjigaaGreatDoor.O
open Go.Proofs.YtojhdljbpmjigaaGreatDoor.Pb (Alr alrC alrsC two_blk)

theorem merge_len' {K : Int → Int → Nat} {num : Int} {l : List Int} {a b : List Alr} (ha : a.length ≤ 150) (hb : b.length ≤ 150) : (mrgS K num l a b).length ≤ 1000 := by
  unfold mrgS
  split
  · have := (merge_len (a := a) (b := b)).2; omega
  · simp
def OutIntN (w : World) (l : List Int) (n : Nat) (e : Ending) (w' : World) : Prop := ∃ A c, e = .returned (.slice A n c) ∧ n ≤ c ∧ Reads w' w'.heap.size 1 A n (l.map intV) ∧ Below w.heap.size w w'
theorem OutInt.to {w w' : World} {l : List Int} {e : Ending} (h : OutInt w l e w') (n : Nat) (hn : n = l.length) : OutIntN w l n e w' := by subst hn; exact h
theorem subsA_len {s : List Alr} (h : s.length ≤ 150) : (subsA s).length ≤ 1000 := by
  have := subs_len s []
  unfold subsA
  simp at this
  omega
set_option maxRecDepth 1000000 in
set_option maxHeartbeats 8000000 in
theorem lawMerge_any (num subj : Int) (l : List Int) (A E F : Option Addr) (c cE cF : Nat) (a b : List Alr) (w : World) (h : VW w w.heap.size num l A c) (ha : AS w w.heap.size a E cE) (hb : AS w w.heap.size b F cF) (hj : In64 subj) (ht : H.Tab w) :
    Calls Tryz.prog 3 #[.agg #[.int .i64 num, .slice A l.length c], .slice E a.length cE, .slice F b.length cF, .int .i64 subj] w (PB w true) := by
  have hb0 := (Below.refl w.heap.size w).alloc (Nat.le_refl _) (.cells #[.int .i64 num, .slice A l.length c] 24)
  have hz := Blk.new w 24 #[.int .i64 num, .slice A l.length c]
  have AW := Lib.hid (fun W (hW : Below w.heap.size w W) => awake_any W (ht.on hW))
  have SA := Lib.hid (fun W => small_any num A E l.length c a.length cE W)
  have SB := Lib.hid (fun W => small_any num A F l.length c b.length cF W)
  obtain ⟨sa, hsa⟩ : ∃ t, t = (decide (l.length ≤ 60) && decide (a.length ≤ 150)) := ⟨_, rfl⟩
  obtain ⟨sb, hsb⟩ : ∃ t, t = (decide (l.length ≤ 60) && decide (b.length ≤ 150)) := ⟨_, rfl⟩
  rw [← hsa] at SA
  rw [← hsb] at SB
  cases sa
  · have B0 := Lib.hid hb0
    have Z1 := Lib.hid hz
    clear hb0 hz h ha hb hj ht hsa hsb
    generalize l.length = n at *
    generalize a.length = m at *
    generalize b.length = o at *
    go_enter Tryz.func3, Tryz.ntmps3
    go_upto_region 1 with fail
    generalize w.alloc (.cells #[.int .i64 num, .slice A n c] 24) = w0 at *
    have FB := Lib.hid (fun W (hW : Below w0.heap.size w0 W) => blk2 (Z1.out.below hW Z1.out.lt))
    go_wp2_with (first
      | (go_at_call 4; (with_reducible refine (AW.out _ B0.out).mono ?_); rintro e w1 ⟨rfl, b1⟩; (have p1 := FB.out _ b1))
      | (go_at_call 5; (with_reducible refine (SA.out _).mono ?_); rintro e w2 ⟨rfl, b2⟩)
      | fail)
    go_ret
    exact ⟨rfl, below2s B0.out (below2s b1 b2)⟩
  cases sb
  · have B0 := Lib.hid hb0
    have Z1 := Lib.hid hz
    clear hb0 hz h ha hb hj ht hsa hsb
    generalize l.length = n at *
    generalize a.length = m at *
    generalize b.length = o at *
    go_enter Tryz.func3, Tryz.ntmps3
    go_upto_region 1 with fail
    generalize w.alloc (.cells #[.int .i64 num, .slice A n c] 24) = w0 at *
    have FB := Lib.hid (fun W (hW : Below w0.heap.size w0 W) => blk2 (Z1.out.below hW Z1.out.lt))
    go_wp2_with (first
      | (go_at_call 4; (with_reducible refine (AW.out _ B0.out).mono ?_); rintro e w1 ⟨rfl, b1⟩; (have p1 := FB.out _ b1))
      | (go_at_call 5; (with_reducible refine (SA.out _).mono ?_); rintro e w2 ⟨rfl, b2⟩; (have b12 := below2s b1 b2); (have p2 := FB.out _ b12))
      | (go_at_call 5; (with_reducible refine (SB.out _).mono ?_); rintro e w3 ⟨rfl, b3⟩)
      | fail)
    go_ret
    exact ⟨rfl, below2s B0.out (below2s b12 b3)⟩
  have hla : a.length ≤ 150 := by have := hsa.symm; simp at this; exact this.2
  have hlb : b.length ≤ 150 := by have := hsb.symm; simp at this; exact this.2
  have PM := Lib.hid (fun W (hW : Below w.heap.size w W) => alMerge_any num l A E F c cE cF w.heap.size a b W (h.below hW) (ha.below hW) (hb.below hW) hW.size (by omega) (by omega) (ht.on hW))
  have RM := Lib.hid (fun W (hW : Below w.heap.size w W) => refMerge_any num l A E F c cE cF w.heap.size a b W (h.below hW) (ha.below hW) (hb.below hW) hW.size (by omega) (by omega))
  have PS := Lib.hid (fun W (hW : Below w.heap.size w W) => alSubjects_any E cE w.heap.size a W (ha.below hW) hW.size (by omega))
  have RS := Lib.hid (fun W (hW : Below w.heap.size w W) => refSubjectsS_any E cE w.heap.size a W (ha.below hW) hW.size (by omega))
  have PC := Lib.hid (fun W (hW : Below w.heap.size w W) => alCount_any E cE w.heap.size a subj W (ha.below hW) hW.size (by omega) hj)
  have RC := Lib.hid (fun W (hW : Below w.heap.size w W) => refCount_any E cE w.heap.size a subj W (ha.below hW))
  have LM := Lib.hid (merge_len' (K := K) (num := num) (l := l) hla hlb)
  have LS' := Lib.hid (subsA_len hla)
  have B0 := Lib.hid hb0
  have Z1 := Lib.hid hz
  clear hb0 hz h ha hb hj ht hsa hsb hla hlb
  generalize mrgS K num l a b = O at *
  generalize mrgE K num l a b = ae at *
  generalize subsA a = L at *
  generalize cntA a subj = ct at *
  generalize l.length = n at *
  generalize a.length = m at *
  generalize b.length = o at *
  go_enter Tryz.func3, Tryz.ntmps3
  go_upto_region 1 with fail
  generalize w.alloc (.cells #[.int .i64 num, .slice A n c] 24) = w0 at *
  have FB := Lib.hid (fun W (hW : Below w0.heap.size w0 W) => blk2 (Z1.out.below hW Z1.out.lt))
  go_upto_region 7 with (first
    | (go_at_call 4; (with_reducible refine (AW.out _ B0.out).mono ?_); rintro e w1 ⟨rfl, b1⟩; (have p1 := FB.out _ b1))
    | (go_at_call 5; (with_reducible refine (SA.out _).mono ?_); rintro e w2 ⟨rfl, b2⟩; (have b12 := below2s b1 b2); (have p2 := FB.out _ b12))
    | (go_at_call 5; (with_reducible refine (SB.out _).mono ?_); rintro e w3 ⟨rfl, b3⟩; (have b13 := below2s b12 b3); (have p3 := FB.out _ b13); (have c3 := below2s B0.out b13))
    | (go_at_call 6; (with_reducible refine (PM.out _ c3).mono ?_); rintro e w4 ⟨X4, k4, rfl, as4, b4⟩; (have b14 := below2s b13 b4); (have p4 := FB.out _ b14); (have c4 := below2s c3 b4))
    | (go_at_call 7; (with_reducible refine (RM.out _ c4).mono ?_); rintro e w5 ⟨X5, k5, rfl, as5, b5⟩)
    | fail)
  have W5 := Lib.hid (below2s c4 b5)
  have A4 := Lib.hid (AS.on as4 b5)
  have A5 := Lib.hid as5
  clear p1 p2 p3 p4 as4 as5 b1 b2 b3 b4 b5 b12 b13 b14 c3 c4 PM RM AW SA SB FB
  have KS := Lib.hid (fun W (hW : Below w5.heap.size w5 W) => by
    have := refSameS_any X4 X5 k4 k5 w5.heap.size O O W (A4.out.rd.below hW) (A5.out.rd.below hW) A4.out.l40 A5.out.l40
    rw [decide_eq_true rfl] at this
    exact this)
  obtain ⟨nl, hnl⟩ : ∃ n, n = L.length := ⟨_, rfl⟩
  have HNL := Lib.hid hnl
  have PS := Lib.hid (fun W hW => (PS.out W hW).mono fun _ _ h => OutInt.to h nl hnl)
  have RS := Lib.hid (fun W hW => (RS.out W hW).mono fun _ _ h => OutInt.to h nl hnl)
  clear hnl
  go_upto_region 10 with (first
    | (go_at_call 8; (with_reducible refine (PS.out _ W5.out).mono ?_); rintro e w6 ⟨X6, k6, rfl, h6, r6, b6⟩; (have W6 := below2s W5.out b6))
    | (go_at_call 9; (with_reducible refine (RS.out _ W6).mono ?_); rintro e w7 ⟨X7, k7, rfl, h7, r7, b7⟩; (have b67 := below2s b6 b7); (have W7 := below2s W5.out b67))
    | (go_at_call 10; (with_reducible refine (KS.out _ b67).mono ?_); rintro e w8 ⟨rfl, b8⟩; (have W8 := below2s W7 b8))
    | (go_at_call 11; (with_reducible refine (PC.out _ W8).mono ?_); rintro e w9 ⟨rfl, b9⟩; (have W9 := below2s W8 b9))
    | (go_at_call 12; (with_reducible refine (RC.out _ W9).mono ?_); rintro e w10 ⟨rfl, rfl⟩)
    | fail)
  have R6 := Lib.hid (((r6.below b7).more b7.size).below (below2s b8 b9))
  have R7 := Lib.hid (r7.below (below2s b8 b9))
  have HW9 := Lib.hid W9
  clear r6 r7 b6 b7 b67 W6 W7 W8 W9 b8 b9 KS PC RC PS RS
  go_wp2_with fail
  go_loopg [15] nl (fun gk s15 wr => ∃ (k q : Nat), k + gk = nl ∧ s15 = .int .i64 k ∧ wr = w9.drewN q)
  case atStart => exact ⟨0, 0, by omega, rfl, rfl⟩
  case round =>
    obtain ⟨k, q, hkg, rfl, rfl⟩ := hrel
    have hn := LS'.out
    have hnl := HNL.out
    cases gk with
    | zero =>
      have hkz : ¬ ((k : Int) < (nl : Int)) := by omega
      clear hnl hn
      go_wp2_with fail
      go_ret
      exact ⟨rfl, below_drewN' HW9.out _⟩
    | succ gk =>
      have hkz : (k : Int) < (nl : Int) := by omega
      obtain ⟨x, hx⟩ : ∃ x, L[k]? = some x := ⟨_, List.getElem?_eq_getElem (by omega)⟩
      obtain ⟨ad, u, rfl, -, hxu, hcx⟩ := R6.out.at_ (k := k) (by omega)
      obtain ⟨bd, u', rfl, -, hyu, hcy⟩ := R7.out.at_ (k := k) (by omega)
      have h1 : u = .int .i64 x := by simp [hx, intV] at hxu; exact hxu.symm
      have h2 : u' = .int .i64 x := by simp [hx, intV] at hyu; exact hyu.symm
      rw [h1] at hcx
      rw [h2] at hcy
      have hk9 : nl ≤ 1000 := by omega
      clear h1 h2 hxu hyu hx hnl hn
      go_wp2_with fail
      go_quiet (fail)
      go_wp2_with fail
      go_roundg gk
      case measure => omega
      case rel => exact ⟨k + 1, q + nq, by omega, by go_num, by first | rfl | rw [World.drewN_drewN]⟩
end Go.Proofs.YtojhdljbpmjigaaGreatDoor.Al
