/- The reference of layer 7: Suspects. -/
import Derived.Test.YtipipjbpjpdcbaaDoorCRef1
namespace Go.Proofs.YtipipjbpjpdcbaaDoor.Ct
set_option linter.unusedVariables false
set_option linter.unusedSimpArgs false
open Go.RowKit
open Go.Proofs.YtipipjbpjpdcbaaDoor.W
open Go.Proofs.YtipipjbpjpdcbaaDoor.V
open Go.Proofs.YtipipjbpjpdcbaaDoor.O
open Go.Proofs.YtipipjbpjpdcbaaDoor.Pb (Alr alrC alrsC len_alrsC reads_blk)
open Go.Proofs.YtipipjbpjpdcbaaDoor.Al

theorem sus_snoc {T : List Tly} {high : Bool} {k : Nat} {x : Tly} (h : T[k]? = some x) : ((T.take (k + 1)).filter (isS high)).map (·.subj) = ((T.take k).filter (isS high)).map (·.subj) ++ (if isS high x then [x.subj] else []) := by
  rw [List.take_add_one, h, List.filter_append, List.map_append]
  congr 1
  show ((([x] : List Tly).filter (isS high)).map (·.subj)) = _
  rw [List.filter_cons]
  split <;> rfl
theorem tal_bd {num : Int} {l : List Int} {s : List Alr} (hm : s.length ≤ 100000) {t : Tly} (ht : t ∈ tallies K num l s) : t.expl ≤ 100000 ∧ t.impl ≤ 5 := by
  unfold tallies at ht
  split at ht
  · obtain ⟨x, _, rfl⟩ := List.mem_map.1 ht
    refine ⟨Nat.le_trans cnt_len hm, ?_⟩
    show (if 2 ≤ cntA s x then impF s x 0 (obsL K l x) else 0) ≤ 5
    split
    · refine Nat.le_trans impF_le ?_
      rcases obs_cases l x with h | h
      · rw [h]; simp
      · omega
    · omega
  · cases ht
theorem tal_len {num : Int} {l : List Int} {s : List Alr} (hm : s.length ≤ 100000) : (tallies K num l s).length ≤ 100000 := by
  unfold tallies
  split
  · rw [List.length_map]
    have := subs_len s []
    simp at this
    exact Nat.le_trans this hm
  · simp
theorem sus_len {T : List Tly} {high : Bool} {k : Nat} : (((T.take k).filter (isS high)).map (·.subj)).length ≤ T.length := by
  rw [List.length_map]
  exact Nat.le_trans (List.length_filter_le _ _) (by rw [List.length_take]; omega)
set_option maxRecDepth 1000000 in
set_option maxHeartbeats 8000000 in
theorem refSuspects_any (num : Int) (l : List Int) (A E : Option Addr) (c cE B : Nat) (s : List Alr) (high : Bool) (w : World) (h : VW w B num l A c) (hs : AS w B s E cE) (hB : B ≤ w.heap.size) (hm : s.length ≤ 100000) :
    Calls Tryd.prog 17 #[.agg #[.int .i64 num, .slice A l.length c], .slice E s.length cE, .bool high] w (OutInt w (susp K num l s high)) := by
  have hb0 := (Below.refl w.heap.size w).alloc (Nat.le_refl _) (.cells #[.int .i64 num, .slice A l.length c] 24)
  have hz := Blk.new w 24 #[.int .i64 num, .slice A l.length c]
  have KC := Lib.hid (fun W (hW : Below w.heap.size w W) => refCounts_any num l A E c cE w.heap.size s W ((h.more hB).below hW) ((hs.more hB).below hW) hW.size hm)
  have TB := Lib.hid (fun t (ht : t ∈ tallies K num l s) => tal_bd hm ht)
  have TL := Lib.hid (tal_len (num := num) (l := l) hm)
  have HP := Lib.hid (show susp K num l s high = ((tallies K num l s).filter (isS high)).map (·.subj) from rfl)
  obtain ⟨P, hP⟩ : ∃ P, P = susp K num l s high := ⟨_, rfl⟩
  rw [← hP] at HP ⊢
  clear hP
  generalize tallies K num l s = T at *
  obtain ⟨n, hn⟩ : ∃ n, n = l.length := ⟨_, rfl⟩
  obtain ⟨ns, hns⟩ : ∃ m, m = s.length := ⟨_, rfl⟩
  rw [← hn] at hb0 hz KC ⊢
  rw [← hns] at KC ⊢
  obtain ⟨nt, hnt⟩ : ∃ m, m = T.length := ⟨_, rfl⟩
  have HNT := Lib.hid hnt
  have hnt5 : nt ≤ 100000 := by rw [hnt]; exact TL.out
  rw [← hnt] at KC
  have B0 := Lib.hid hb0
  have Z1 := Lib.hid hz
  clear hb0 hz hn hns hnt h hs hm hB
  go_enter Tryd.func17, Tryd.ntmps17
  go_upto_region 1 with fail
  generalize w.alloc (.cells #[.int .i64 num, .slice A n c] 24) = w0 at *
  have p0 := blk2 Z1.out
  go_wp2_with (first
    | (go_at_call 12; (with_reducible refine (KC.out _ B0.out).mono ?_); rintro e w1 ⟨A1, c1, rfl, hts, q1⟩)
    | fail)
  have W1 := Lib.hid (below2 B0.out q1)
  have RT := Lib.hid (fun W (hW : Below w1.heap.size w1 W) => (hts.below hW).rd)
  rw [← HNT.out] at RT
  clear p0 q1 hts KC
  go_loopg [7, 9] nt (fun gk s7 s9 wr => ∃ k : Nat, k + gk = nt ∧ s9 = .int .i64 k ∧ Hid (wr.ownsRow w1.heap.size 3 1 s7 (((T.take k).filter (isS high)).map (·.subj)).length ((((T.take k).filter (isS high)).map (·.subj)).map intV)) ∧ Hid (Below w1.heap.size w1 wr))
  case atStart => exact ⟨0, by omega, rfl, World.ownsRow_nil _ _ _ _, Below.refl _ _⟩
  case round =>
    obtain ⟨k, hkg, rfl, HO, HW⟩ := hrel
    have hws := HW.out.size
    have BW := Lib.hid (below2 W1.out HW.out)
    have LO := Lib.hid (show (((T.take k).filter (isS high)).map (·.subj)).length ≤ 100000 from Nat.le_trans sus_len (by have := HNT.out; omega))
    cases gk with
    | zero =>
      have hkz : ¬ ((k : Int) < (nt : Int)) := by omega
      have HK := Lib.hid (show ((T.take k).filter (isS high)).map (·.subj) = P by rw [HP.out, List.take_of_length_le (by have := HNT.out; omega)])
      rw [HK.out] at HO LO
      obtain ⟨A3, c3, rfl, hc3, hr3⟩ := own_out HO.out
      go_wp2_with fail
      go_ret
      exact ⟨A3, c3, rfl, hc3, hr3, BW.out⟩
    | succ gi =>
      have hkz : (k : Int) < (nt : Int) := by omega
      have hk0 : ¬ (k : Int) < 0 := by omega
      obtain ⟨x, hx⟩ : ∃ x, T[k]? = some x := ⟨_, List.getElem?_eq_getElem (by have := HNT.out; omega)⟩
      obtain ⟨ad, rfl, hadb, hab, x0, x1, x2⟩ := tly_at (RT.out _ HW.out) hx
      rw [hab] at x1 x2
      obtain ⟨hb1, hb2⟩ := TB.out x (List.mem_of_getElem? hx)
      have HSN := Lib.hid (sus_snoc (high := high) hx)
      have wv : IntKind.i64.wrap ((x.expl : Int) + (x.impl : Int)) = ((x.expl + x.impl : Nat) : Int) := by rw [IntWalk.i64_in _ (by omega)]; omega
      clear hx
      generalize ((T.take k).filter (isS high)).map (·.subj) = O at *
      have HIS := Lib.hid (show isS high x = (decide (2 ≤ x.expl) && (decide (4 ≤ x.expl + x.impl) == high)) from rfl)
      have no : isS high x = false → ((T.take (k + 1)).filter (isS high)).map (·.subj) = O := fun h => by rw [HSN.out, h]; simp
      have yes : isS high x = true → ((T.take (k + 1)).filter (isS high)).map (·.subj) = O ++ [x.subj] := fun h => by rw [HSN.out, h]; simp
      have NO := Lib.hid no
      have YES := Lib.hid yes
      clear no yes
      by_cases h2 : 2 ≤ x.expl
      · have hd : decide ((2 : Int) ≤ (x.expl : Int)) = true := by simp; omega
        generalize x.expl + x.impl = z at *
        cases hq : (decide (4 ≤ z) == high)
        case false =>
          have HN := Lib.hid (NO.out (by rw [HIS.out, hq]; simp))
          have hq2 : (decide ((4 : Int) ≤ (z : Int)) == high) = false := by rw [← hq]; congr 1; exact decide_eq_decide.2 (by omega)
          clear hq
          go_wp2_with fail
          go_quiet (fail)
          go_wp2_with fail
          go_roundg gi
          case measure => omega
          case rel =>
            refine ⟨k + 1, by omega, by go_num, ?_, ?_⟩
            · rw [HN.out]; exact HO.out
            · exact below_drewN' HW.out _
        case true =>
          have HY := Lib.hid (YES.out (by rw [HIS.out, hq]; simp [h2]))
          have hq2 : (decide ((4 : Int) ≤ (z : Int)) == high) = true := by rw [← hq]; congr 1; exact decide_eq_decide.2 (by omega)
          clear hq
          go_wp2_with fail
          go_quiet (fail)
          go_wp2_with (first
            | (at_builtin; refine wp_append_intsO _ rfl (.tmp 41) (.tmp 47) rfl w1.heap.size _ O [x.subj] _ _ _ _ rfl (World.ownsRow.alloc (show (wr.drewN nq).ownsRow _ _ _ _ _ _ from HO.out) _) rfl (reads_one _ _) (by have := LO.out; simp; omega) (by simp; omega) ?_; intro v4 w4 ho4 hb4)
            | fail)
          have HO4 := Lib.hid ho4
          have V4 := Lib.hid ((show Below w1.heap.size w1 (wr.drewN nq) from below_drewN' HW.out _).alloc hws _ |>.trans hb4)
          clear ho4 hb4
          go_roundg gi
          case measure => omega
          case rel =>
            refine ⟨k + 1, by omega, by go_num, ?_, V4.out⟩
            rw [HY.out]; exact HO4.out
      · have hd : decide ((2 : Int) ≤ (x.expl : Int)) = false := by simp; omega
        have HN := Lib.hid (NO.out (by rw [HIS.out]; simp [h2]))
        go_wp2_with fail
        go_quiet (fail)
        go_wp2_with fail
        go_roundg gi
        case measure => omega
        case rel =>
          refine ⟨k + 1, by omega, by go_num, ?_, ?_⟩
          · rw [HN.out]; exact HO.out
          · exact below_drewN' HW.out _
end Go.Proofs.YtipipjbpjpdcbaaDoor.Ct
