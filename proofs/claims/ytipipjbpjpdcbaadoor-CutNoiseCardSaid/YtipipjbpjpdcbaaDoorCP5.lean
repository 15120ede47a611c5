/- Package cut: divide, Unstable, Stable. -/
import Derived.Test.YtipipjbpjpdcbaaDoorCP4
namespace Go.Proofs.YtipipjbpjpdcbaaDoor.Ct
set_option linter.unusedVariables false
set_option linter.unusedSimpArgs false
open Go.RowKit
open Go.Proofs.YtipipjbpjpdcbaaDoor.W
open Go.Proofs.YtipipjbpjpdcbaaDoor.V
open Go.Proofs.YtipipjbpjpdcbaaDoor.O
open Go.Proofs.YtipipjbpjpdcbaaDoor.Pb (Alr alrsC len_alrsC reads_blk)
open Go.Proofs.YtipipjbpjpdcbaaDoor.Al

/-- Two lists come back. -/
def OutII (w : World) (u s : List Int) (nu ns : Nat) (e : Ending) (w' : World) : Prop := ∃ A c A' c', e = .returned (.tuple #[.slice A nu c, .slice A' ns c']) ∧ nu ≤ c ∧ ns ≤ c' ∧ Reads w' w'.heap.size 1 A nu (u.map intV) ∧ Reads w' w'.heap.size 1 A' ns (s.map intV) ∧ Below w.heap.size w w'
set_option maxRecDepth 1000000 in
set_option maxHeartbeats 16000000 in
theorem cutDivide_any (num : Int) (l : List Int) (A E : Option Addr) (c cE B : Nat) (s : List Alr) (w : World) (h : VW w B num l A c) (hs : AS w B s E cE) (hB : B ≤ w.heap.size) (hm : s.length ≤ 100000) (ht : H.Tab w) :
    Calls Tryd.prog 36 #[.agg #[.int .i64 num, .slice A l.length c], .slice E s.length cE] w (OutII w (susp K num l s false) (susp K num l s true) (susp K num l s false).length (susp K num l s true).length) := by
  have hb0 := (Below.refl w.heap.size w).alloc (Nat.le_refl _) (.cells #[.int .i64 num, .slice A l.length c] 24)
  have hz := Blk.new w 24 #[.int .i64 num, .slice A l.length c]
  have KC := Lib.hid (fun W (hW : Below w.heap.size w W) => cutCounts_any num l A E c cE w.heap.size s W ((h.more hB).below hW) ((hs.more hB).below hW) hW.size hm (ht.on hW))
  have KS := Lib.hid (fun (x : Int) (e i : Nat) W => cutIsSuspect_any x e i W)
  have TB := Lib.hid (fun t (ht : t ∈ tallies K num l s) => tal_bd hm ht)
  have TL := Lib.hid (tal_len (num := num) (l := l) hm)
  have HP := Lib.hid (show susp K num l s false = ((tallies K num l s).filter (isS false)).map (·.subj) from rfl)
  have HQ := Lib.hid (show susp K num l s true = ((tallies K num l s).filter (isS true)).map (·.subj) from rfl)
  obtain ⟨P, hP⟩ : ∃ P, P = susp K num l s false := ⟨_, rfl⟩
  obtain ⟨Q, hQ⟩ : ∃ P, P = susp K num l s true := ⟨_, rfl⟩
  rw [← hP] at HP ⊢
  rw [← hQ] at HQ ⊢
  clear hP hQ
  generalize tallies K num l s = T at *
  obtain ⟨n, hn⟩ : ∃ n, n = l.length := ⟨_, rfl⟩
  obtain ⟨ns, hns⟩ : ∃ m, m = s.length := ⟨_, rfl⟩
  rw [← hn] at hb0 hz KC ⊢
  rw [← hns] at KC ⊢
  obtain ⟨nt, hnt⟩ : ∃ m, m = T.length := ⟨_, rfl⟩
  have HNT := Lib.hid hnt
  have hnt5 : nt ≤ 100000 := by rw [hnt]; exact TL.out
  rw [← hnt] at KC
  have B0 := Lib.hid hb0
  have Z1 := Lib.hid hz
  clear hb0 hz hn hns hnt h hs hm hB ht
  go_enter Tryd.func36, Tryd.ntmps36
  go_upto_region 1 with fail
  generalize w.alloc (.cells #[.int .i64 num, .slice A n c] 24) = w0 at *
  have p0 := blk2 Z1.out
  go_wp2_with (first
    | (go_at_call 11; (with_reducible refine (KC.out _ B0.out).mono ?_); rintro e w1 ⟨A1, c1, rfl, hts, q1⟩)
    | fail)
  have W1 := Lib.hid (below2 B0.out q1)
  have RT := Lib.hid (fun W (hW : Below w1.heap.size w1 W) => (hts.below hW).rd)
  rw [← HNT.out] at RT
  clear p0 q1 hts KC
  go_loopg [4, 5, 7, 12] nt (fun gk s4 s5 _ s12 wr => ∃ k : Nat, k + gk = nt ∧ s12 = .int .i64 k ∧ Hid (Row3 wr w1.heap.size s4 s5 (.slice none 0 0) (((T.take k).filter (isS false)).map (·.subj)) (((T.take k).filter (isS true)).map (·.subj)) []) ∧ Hid (Below w1.heap.size w1 wr))
  case atStart => exact ⟨0, by omega, rfl, Row3.nil_ _ _, Below.refl _ _⟩
  case round =>
    obtain ⟨k, hkg, rfl, HO, HW⟩ := hrel
    have hws := HW.out.size
    have BW := Lib.hid (below2 W1.out HW.out)
    have LO := Lib.hid (show (((T.take k).filter (isS false)).map (·.subj)).length ≤ 100000 from Nat.le_trans sus_len (by have := HNT.out; omega))
    have LQ := Lib.hid (show (((T.take k).filter (isS true)).map (·.subj)).length ≤ 100000 from Nat.le_trans sus_len (by have := HNT.out; omega))
    cases gk with
    | zero =>
      have hkz : ¬ ((k : Int) < (nt : Int)) := by omega
      have HK : ∀ high, ((T.take k).filter (isS high)).map (·.subj) = (T.filter (isS high)).map (·.subj) := fun high => by rw [List.take_of_length_le (by have := HNT.out; omega)]
      have HK := Lib.hid HK
      rw [HK.out false, HK.out true, ← HP.out, ← HQ.out] at HO
      obtain ⟨A3, c3, rfl, hc3, hr3⟩ := own_out HO.out.o1
      obtain ⟨A4, c4, rfl, hc4, hr4⟩ := own_out HO.out.o2
      clear HK LO LQ
      go_wp2_with fail
      go_ret2
      exact ⟨A3, c3, A4, c4, rfl, hc3, hc4, hr3, hr4, BW.out⟩
    | succ gi =>
      have hkz : (k : Int) < (nt : Int) := by omega
      have hk0 : ¬ (k : Int) < 0 := by omega
      obtain ⟨x, hx⟩ : ∃ x, T[k]? = some x := ⟨_, List.getElem?_eq_getElem (by have := HNT.out; omega)⟩
      obtain ⟨ad, rfl, -, -, x0, x1, x2⟩ := tly_at (RT.out _ HW.out) hx
      obtain ⟨hb1, hb2⟩ := TB.out x (List.mem_of_getElem? hx)
      have HS1 := Lib.hid (sus_snoc (high := false) hx)
      have HS2 := Lib.hid (sus_snoc (high := true) hx)
      obtain ⟨xs, xe, xi⟩ := x
      dsimp only at *
      have wv : IntKind.i64.wrap ((xe : Int) + (xi : Int)) = ((xe + xi : Nat) : Int) := by rw [IntWalk.i64_in _ (by omega)]; omega
      generalize ((T.take k).filter (isS false)).map (·.subj) = O1 at *
      generalize ((T.take k).filter (isS true)).map (·.subj) = O2 at *
      have HIS := Lib.hid (fun high => show isS high ⟨xs, xe, xi⟩ = (decide (2 ≤ xe) && (decide (4 ≤ xe + xi) == high)) from rfl)
      have hzx := Blk.new wr 31 #[.int .i64 xs, .int .i64 (xe : Int), .int .i64 (xi : Int)]
      have hbx := HW.out.alloc HW.out.size (.cells #[.int .i64 xs, .int .i64 (xe : Int), .int .i64 (xi : Int)] 31)
      have hox := HO.out.alloc (.cells #[.int .i64 xs, .int .i64 (xe : Int), .int .i64 (xi : Int)] 31)
      clear hx
      go_upto_region 4 with fail
      generalize hw5 : wr.alloc (.cells #[.int .i64 xs, .int .i64 (xe : Int), .int .i64 (xi : Int)] 31) = w5 at *
      clear hw5 x0 x1 x2
      have Z5 := Lib.hid hzx
      have B5 := Lib.hid hbx
      have HO5 := Lib.hid hox
      have F5 := Lib.hid (fun W (hW : Below w5.heap.size w5 W) => blk3 (Z5.out.below hW Z5.out.lt))
      have p5 := F5.out w5 (Below.refl _ _)
      clear hbx hox hzx
      have KY := Lib.hid (fun W => KS.out xs xe xi W)
      clear KS
      cases hd : decide (2 ≤ xe)
      · rw [hd] at KY HIS
        have E1 := Lib.hid (show ((T.take (k + 1)).filter (isS false)).map (·.subj) = O1 by rw [HS1.out, HIS.out]; simp)
        have E2 := Lib.hid (show ((T.take (k + 1)).filter (isS true)).map (·.subj) = O2 by rw [HS2.out, HIS.out]; simp)
        clear hd HIS HS1 HS2
        go_wp2_with (go_at_call 31; (with_reducible refine (KY.out _).mono ?_); rintro e w6 ⟨rfl, b6⟩)
        go_roundg gi
        case measure => omega
        case rel => exact ⟨k + 1, by omega, by go_num, by rw [E1.out, E2.out]; exact HO5.out.below b6, B5.out.trans (b6.mono B5.out.size)⟩
      · rw [hd] at KY HIS
        by_cases h4 : 4 ≤ xe + xi
        · have g4 : ((xe + xi : Nat) : Int) < 4 ↔ False := ⟨fun h => by omega, fun h => h.elim⟩
          have g4' : ¬ ((xe + xi : Nat) : Int) < 4 := by omega
          have E1 := Lib.hid (show ((T.take (k + 1)).filter (isS false)).map (·.subj) = O1 by rw [HS1.out, HIS.out, decide_eq_true h4]; simp)
          have E2 := Lib.hid (show ((T.take (k + 1)).filter (isS true)).map (·.subj) = O2 ++ [xs] by rw [HS2.out, HIS.out, decide_eq_true h4]; simp)
          clear hd HIS HS1 HS2 h4 g4
          go_upto_region 7 with (go_at_call 31; (with_reducible refine (KY.out _).mono ?_); rintro e w6 ⟨rfl, b6⟩; (have p6 := F5.out _ b6); (have B6 := Lib.hid (B5.out.trans (b6.mono B5.out.size))); (have HO6 := Lib.hid (HO5.out.below b6).turn))
          go_wp2_with (first
            | (at_builtin; go_loud (refine wp_append_tri _ rfl (.tmp 30) (.tmp 33) rfl w1.heap.size _ _ _ O2 [] O1 [xs] _ _ _ _ rfl (HO6.out.alloc _) rfl (reads_one _ _) (by have := LQ.out; simp; omega) (by have := B6.out.size; simp; omega) ?_; intro v4 w4 ho4 hb4))
            | fail)
          go_roundg gi
          case measure => omega
          case rel => exact ⟨k + 1, by omega, by go_num, by rw [E1.out, E2.out]; exact ho4.turn.turn, (B6.out.alloc B6.out.size _).trans hb4⟩
        · have g4' : ((xe + xi : Nat) : Int) < 4 := by omega
          have E1 := Lib.hid (show ((T.take (k + 1)).filter (isS false)).map (·.subj) = O1 ++ [xs] by rw [HS1.out, HIS.out, decide_eq_false h4]; simp)
          have E2 := Lib.hid (show ((T.take (k + 1)).filter (isS true)).map (·.subj) = O2 by rw [HS2.out, HIS.out, decide_eq_false h4]; simp)
          clear hd HIS HS1 HS2 h4
          go_upto_region 6 with (go_at_call 31; (with_reducible refine (KY.out _).mono ?_); rintro e w6 ⟨rfl, b6⟩; (have p6 := F5.out _ b6); (have B6 := Lib.hid (B5.out.trans (b6.mono B5.out.size))); (have HO6 := Lib.hid (HO5.out.below b6)))
          go_wp2_with (first
            | (at_builtin; go_loud (refine wp_append_tri _ rfl (.tmp 25) (.tmp 28) rfl w1.heap.size _ _ _ O1 O2 [] [xs] _ _ _ _ rfl (HO6.out.alloc _) rfl (reads_one _ _) (by have := LO.out; simp; omega) (by have := B6.out.size; simp; omega) ?_; intro v4 w4 ho4 hb4))
            | fail)
          go_roundg gi
          case measure => omega
          case rel => exact ⟨k + 1, by omega, by go_num, by rw [E1.out, E2.out]; exact ho4, (B6.out.alloc B6.out.size _).trans hb4⟩
end Go.Proofs.YtipipjbpjpdcbaaDoor.Ct
