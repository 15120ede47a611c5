/- Package alerts: Count, Subjects. -/
import Derived.Test.YtojhdljbpmjigaaGreatDoorARef9
import Derived.Test.YtojhdljbpmjigaaGreatDoorOOver4
namespace Go.Proofs.YtojhdljbpmjigaaGreatDoor.Al
set_option linter.unusedVariables false
set_option linter.unusedSimpArgs false
open Go.RowKit
open Go.Proofs.YtojhdljbpmjigaaGreatDoor.W
open Go.Proofs.YtojhdljbpmjigaaGreatDoor.V
open Go.Proofs.YtojhdljbpmjigaaGreatDoor.O
open Go.Proofs.YtojhdljbpmjigaaGreatDoor.Pb (Alr alrC alrsC len_alrsC alrsC_app alrsC_one alrsC_get alrsC_cell alrInfo step_append_alr reads_blk two_blk)

set_option maxRecDepth 1000000 in
set_option maxHeartbeats 4000000 in
theorem alCount_any (E : Option Addr) (cE B : Nat) (s : List Alr) (subj : Int) (w : World) (hs : AS w B s E cE) (hB : B ≤ w.heap.size) (hm : s.length ≤ 1000000) (hj : In64 subj) :
    Calls Tryz.prog 11 #[.slice E s.length cE, .int .i64 subj] w (PI w (cntA s subj : Nat)) := by
  have RS := Lib.hid (fun W (hW : Below w.heap.size w W) => ((hs.more hB).below hW).rd)
  obtain ⟨n, hn⟩ : ∃ n, n = s.length := ⟨_, rfl⟩
  have HN := Lib.hid hn
  rw [← hn] at RS hm ⊢
  clear hs hn hB
  obtain ⟨t, ht⟩ : ∃ t, t = cntA s subj := ⟨_, rfl⟩
  have HT := Lib.hid ht
  rw [← ht]
  clear ht
  go_enter Tryz.func11, Tryz.ntmps11
  go_wp2_with fail
  go_loopg [5, 7, 10] n (fun gk s5 _ s10 wr => ∃ k m : Nat, k + gk = n ∧ s10 = .int .i64 k ∧ s5 = .int .i64 m ∧ m ≤ k ∧ Hid (Below w.heap.size w wr) ∧ Hid (m = cntA (s.take k) subj))
  case atStart => exact ⟨0, 0, by omega, rfl, rfl, by omega, Below.refl _ _, rfl⟩
  case round =>
    obtain ⟨k, m, hkg, rfl, rfl, hmk, HW, HM⟩ := hrel
    have hws := HW.out.size
    cases gk with
    | zero =>
      have hkz : ¬ ((k : Int) < (n : Int)) := by omega
      have hf := Lib.hid (show t = m by rw [HM.out, List.take_of_length_le (by have := HN.out; omega)]; exact HT.out)
      go_wp2_with fail
      go_ret
      exact ⟨by rw [hf.out]; rfl, HW.out⟩
    | succ gk =>
      have hkz : (k : Int) < (n : Int) := by omega
      obtain ⟨x, hx⟩ : ∃ x, s[k]? = some x := ⟨_, List.getElem?_eq_getElem (by have := HN.out; omega)⟩
      obtain ⟨ad, rfl, -, -, y0, y1, y2, y3⟩ := alr_at (RS.out _ HW.out) hx
      have HDX := Lib.hid (cntA_take (subj := subj) hx)
      clear hx
      by_cases h1 : x.subj = subj
      · have f1 : (x.subj == subj) = true := beqT h1
        have hf := Lib.hid (show m + 1 = cntA (s.take (k + 1)) subj by rw [HDX.out, if_pos h1, HM.out])
        clear h1
        go_wp2_with fail
        go_roundg gk
        case measure => omega
        case rel => exact ⟨k + 1, m + 1, by omega, by go_num, by go_num, by omega, HW.out.alloc hws _, hf.out⟩
      · have f1 : (x.subj == subj) = false := beqF h1
        have hf := Lib.hid (show m = cntA (s.take (k + 1)) subj by rw [HDX.out, if_neg h1, HM.out]; rfl)
        clear h1
        go_wp2_with fail
        go_roundg gk
        case measure => omega
        case rel => exact ⟨k + 1, m, by omega, by go_num, rfl, by omega, HW.out.alloc hws _, hf.out⟩

theorem subs_compact (s : List Alr) : Lib.compact (srt (s.map (·.subj))) = subsA s := by
  obtain ⟨h1, h2⟩ := srt_facts (s.map (·.subj))
  refine Asc.ext h1 (asc_subsA s) fun x => ?_
  rw [h2, mem_subsA, List.mem_map]
theorem map_snoc {s : List Alr} {k : Nat} {x : Alr} (h : s[k]? = some x) : (s.take (k + 1)).map (·.subj) = (s.take k).map (·.subj) ++ [x.subj] := by
  rw [take_snoc h, List.map_append]; rfl
set_option maxRecDepth 1000000 in
set_option maxHeartbeats 4000000 in
theorem alSubjects_any (E : Option Addr) (cE B : Nat) (s : List Alr) (w : World) (hs : AS w B s E cE) (hB : B ≤ w.heap.size) (hm : s.length ≤ 1000000) :
    Calls Tryz.prog 8 #[.slice E s.length cE] w (OutInt w (subsA s)) := by
  have RS := Lib.hid (fun W (hW : Below w.heap.size w W) => ((hs.more hB).below hW).rd)
  have HT := Lib.hid (subs_compact s)
  obtain ⟨n, hn⟩ : ∃ n, n = s.length := ⟨_, rfl⟩
  have HN := Lib.hid hn
  rw [← hn] at RS hm ⊢
  clear hs hn hB
  generalize subsA s = res at *
  go_enter Tryz.func8, Tryz.ntmps8
  go_wp2_with fail
  go_loopg [3, 5, 8] n (fun gk s3 _ s8 wr => ∃ k : Nat, k + gk = n ∧ s8 = .int .i64 k ∧ Hid (Below w.heap.size w wr) ∧ Hid (wr.ownsRow w.heap.size 3 1 s3 ((s.take k).map (·.subj)).length (((s.take k).map (·.subj)).map intV)))
  case atStart => exact ⟨0, by omega, rfl, Below.refl _ _, World.ownsRow_nil _ _ _ _⟩
  case round =>
    obtain ⟨k, hkg, rfl, HW, HO⟩ := hrel
    have hws := HW.out.size
    cases gk with
    | zero =>
      have hkz : ¬ ((k : Int) < (n : Int)) := by omega
      have HK := Lib.hid (show s.take k = s from List.take_of_length_le (by have := HN.out; omega))
      rw [HK.out] at HO
      have HL := Lib.hid (show (s.map (·.subj)).length = n by rw [List.length_map]; exact HN.out.symm)
      have HLS := Lib.hid (show (srt (s.map (·.subj))).length = n by rw [len_srt]; exact HL.out)
      generalize s.map (·.subj) = M at *
      have ho := HO.out
      rw [HL.out] at ho
      obtain ⟨A3, c3, hv3, hc3, hr3⟩ := own_out HO.out
      rw [HL.out] at hv3
      subst hv3
      have HO3 := Lib.hid ho
      have HA := Lib.hid (show M.length ≤ 1000000 by rw [HL.out]; exact hm)
      clear ho hc3 hr3
      go_wp2_with (first
        | (go_at_call 20; go_loud (with_reducible refine (sortI_own HL.out HA.out HO3.out).mono ?_); rintro e w5 ⟨rfl, ho5, hb5⟩; (have b5 : Below w.heap.size w w5 := HW.out.trans hb5))
        | (go_at_call 21; go_loud (with_reducible refine (compactI_own HLS.out (by rw [HLS.out]; exact hm) ho5 b5.size).mono ?_); rintro e w6 ⟨v6, rfl, ho6, hb6⟩)
        | fail)
      go_ret
      obtain ⟨A6, c6, hv6, hc6, hr6⟩ := own_out ho6
      exact ⟨A6, c6, by rw [← HT.out, ← hv6]; rfl, by rw [← HT.out]; exact hc6, by rw [← HT.out]; exact hr6, b5.trans hb6⟩
    | succ gk =>
      have hkz : (k : Int) < (n : Int) := by omega
      obtain ⟨x, hx⟩ : ∃ x, s[k]? = some x := ⟨_, List.getElem?_eq_getElem (by have := HN.out; omega)⟩
      obtain ⟨ad, rfl, -, -, y0, y1, y2, y3⟩ := alr_at (RS.out _ HW.out) hx
      have HS := Lib.hid (map_snoc hx)
      have LO := Lib.hid (show ((s.take k).map (·.subj)).length ≤ n by rw [List.length_map, List.length_take]; omega)
      generalize (s.take k).map (·.subj) = P at *
      clear hx
      have hzx := Blk.new wr 38 #[.int .i64 x.view, .int .i64 x.ring, .int .i64 x.obs, .int .i64 x.subj]
      have hbx := HW.out.alloc hws (.cells #[.int .i64 x.view, .int .i64 x.ring, .int .i64 x.obs, .int .i64 x.subj] 38)
      have hox := HO.out.alloc (.cells #[.int .i64 x.view, .int .i64 x.ring, .int .i64 x.obs, .int .i64 x.subj] 38)
      go_upto_region 5 with fail
      generalize wr.alloc (.cells #[.int .i64 x.view, .int .i64 x.ring, .int .i64 x.obs, .int .i64 x.subj] 38) = w5 at *
      have p5 := blk4 hzx
      have hs5 := hbx.size
      have HO5 := Lib.hid hox
      clear y0 y1 y2 y3 hzx hox
      go_wp2_with (first
        | (at_builtin; go_loud (refine wp_append_intsO _ rfl (.tmp 12) (.tmp 15) rfl w.heap.size _ P [x.subj] _ _ _ _ rfl (HO5.out.alloc _) rfl (reads_one _ _) (by have := LO.out; simp; omega) (by simp; omega) ?_; intro v4 w4 ho4 hb4))
        | fail)
      go_roundg gk
      case measure => omega
      case rel => exact ⟨k + 1, by omega, by go_num, (hbx.alloc hs5 _).trans hb4, by rw [HS.out]; exact ho4⟩
end Go.Proofs.YtojhdljbpmjigaaGreatDoor.Al
