/- Package alerts: slices.Index and slices.Contains over alerts. -/
import Derived.Test.YtipipjbpjpdcbaaDoorAP1
import Derived.Test.YtipipjbpjpdcbaaDoorARef9
namespace Go.Proofs.YtipipjbpjpdcbaaDoor.Al
set_option linter.unusedVariables false
set_option linter.unusedSimpArgs false
open Go.RowKit
open Go.Proofs.YtipipjbpjpdcbaaDoor.W
open Go.Proofs.YtipipjbpjpdcbaaDoor.V
open Go.Proofs.YtipipjbpjpdcbaaDoor.O
open Go.Proofs.YtipipjbpjpdcbaaDoor.Pb (Alr alrC alrsC len_alrsC alrsC_app alrsC_one alrsC_get alrsC_cell alrInfo step_append_alr reads_blk two_blk)

theorem eql_alr (x y : Alr) (W : World) : (binOp .eql 48 (.agg #[.int .i64 x.view, .int .i64 x.ring, .int .i64 x.obs, .int .i64 x.subj]) (.agg #[.int .i64 y.view, .int .i64 y.ring, .int .i64 y.obs, .int .i64 y.subj])).run Tryd.prog W = .ok (.bool (decide (x = y))) W := by
  obtain ⟨a1, a2, a3, a4⟩ := x
  obtain ⟨b1, b2, b3, b4⟩ := y
  by_cases h1 : a1 = b1 <;> by_cases h2 : a2 = b2 <;> by_cases h3 : a3 = b3 <;> by_cases h4 : a4 = b4 <;> simp [go_sem, h1, h2, h3, h4]
theorem not_mem_take {s : List Alr} {k : Nat} {x a : Alr} (h : a ∉ s.take k) (hx : s[k]? = some x) (hne : a ≠ x) : a ∉ s.take (k + 1) := by
  rw [take_snoc hx]
  intro hm
  rcases List.mem_append.1 hm with hm | hm
  · exact h hm
  · exact hne (by simpa using hm)
set_option maxRecDepth 1000000 in
set_option maxHeartbeats 4000000 in
theorem alIndex_any (E : Option Addr) (cE B n : Nat) (s : List Alr) (a : Alr) (w : World) (hr : Reads w B 4 E n (alrsC s)) (hn : n = s.length) (hl : n ≤ 1099511627776) (hB : B ≤ w.heap.size) :
    Calls Tryd.prog 64 #[.slice E n cE, alrV a] w fun e w' => ∃ k : Int, e = .returned (.int .i64 k) ∧ decide (0 ≤ k) = decide (a ∈ s) ∧ Below w.heap.size w w' := by
  have hb0 := (Below.refl w.heap.size w).alloc (Nat.le_refl _) (.cells #[.int .i64 a.view, .int .i64 a.ring, .int .i64 a.obs, .int .i64 a.subj] 48)
  have hz := Blk.new w 48 #[.int .i64 a.view, .int .i64 a.ring, .int .i64 a.obs, .int .i64 a.subj]
  have RS := Lib.hid (fun W (hW : Below w.heap.size w W) => (hr.more hB).below hW)
  have HN := Lib.hid hn
  clear hr hn hB
  obtain ⟨t, ht⟩ : ∃ t, t = decide (a ∈ s) := ⟨_, rfl⟩
  have HT := Lib.hid ht
  rw [← ht]
  clear ht
  have QE := Lib.hid (fun x => eql_alr a x)
  have NM := Lib.hid (fun k x => not_mem_take (s := s) (k := k) (x := x) (a := a))
  obtain ⟨av, ar, ao, as'⟩ := a
  dsimp only [alrV] at *
  go_enter Tryd.func64, Tryd.ntmps64
  go_upto_region 1 with fail
  generalize w.alloc (.cells #[.int .i64 av, .int .i64 ar, .int .i64 ao, .int .i64 as'] 48) = w0 at *
  have B0 := Lib.hid hb0
  have Z0 := Lib.hid hz
  have p0 := blk4 hz
  clear hb0 hz
  go_wp2_with fail
  go_loopg [5, 8] n (fun gk _ s8 wr => ∃ k q : Nat, k + gk = n ∧ s8 = .int .i64 k ∧ wr = w0.drewN q ∧ Hid ((⟨av, ar, ao, as'⟩ : Alr) ∉ s.take k))
  case atStart => exact ⟨0, 0, by omega, rfl, rfl, (show _ ∉ List.take 0 s by simp)⟩
  case round =>
    obtain ⟨k, q, hkg, rfl, rfl, HM⟩ := hrel
    cases gk with
    | zero =>
      have hkz : ¬ ((k : Int) < (n : Int)) := by omega
      have hf := Lib.hid (show t = false by
        rw [HT.out]
        refine decide_eq_false fun hm => HM.out ?_
        rw [List.take_of_length_le (by have := HN.out; omega)]
        exact hm)
      go_wp2_with fail
      go_ret
      exact ⟨-1, rfl, by rw [hf.out]; rfl, below_drewN' B0.out _⟩
    | succ gk =>
      have hkz : (k : Int) < (n : Int) := by omega
      have hk0 : 0 ≤ (k : Int) := by omega
      obtain ⟨x, hx⟩ : ∃ x, s[k]? = some x := ⟨_, List.getElem?_eq_getElem (by have := HN.out; omega)⟩
      obtain ⟨ad, rfl, hb1, hb2, x0, x1, x2, x3⟩ := alr_at (RS.out _ B0.out) hx
      have HX := Lib.hid hx
      clear hx hb1 hb2
      have QX := QE.out x
      by_cases hax : (⟨av, ar, ao, as'⟩ : Alr) = x
      · have hf := Lib.hid (show t = true by
          rw [HT.out]
          refine decide_eq_true ?_
          rw [hax]
          exact List.mem_of_getElem? HX.out)
        rw [decide_eq_true hax] at QX
        clear hax
        go_wp2_with fail
        go_quiet (fail)
        go_wp2_with fail
        go_ret
        exact ⟨(k : Int), rfl, by rw [hf.out]; exact decide_eq_true hk0, by first | exact below_drewN' B0.out _ | exact below_drewN' (below_drewN' B0.out _) _⟩
      · have HM2 := Lib.hid (NM.out k x HM.out HX.out hax)
        rw [decide_eq_false hax] at QX
        clear hax
        go_wp2_with fail
        go_quiet (fail)
        go_wp2_with fail
        go_roundg gk
        case measure => omega
        case rel => exact ⟨k + 1, _, by omega, by go_num, (by first | rfl | rw [World.drewN_drewN]), HM2.out⟩
set_option maxRecDepth 1000000 in
set_option maxHeartbeats 4000000 in
theorem alContains_any (E : Option Addr) (cE B n : Nat) (s : List Alr) (a : Alr) (w : World) (hr : Reads w B 4 E n (alrsC s)) (hn : n = s.length) (hl : n ≤ 1099511627776) (hB : B ≤ w.heap.size) :
    Calls Tryd.prog 47 #[.slice E n cE, alrV a] w (PB w (decide (a ∈ s))) := by
  have hb0 := (Below.refl w.heap.size w).alloc (Nat.le_refl _) (.cells #[.int .i64 a.view, .int .i64 a.ring, .int .i64 a.obs, .int .i64 a.subj] 48)
  have KI := Lib.hid (fun W (hW : Below w.heap.size w W) => alIndex_any E cE w.heap.size n s a W ((hr.more hB).below hW) hn hl hW.size)
  clear hr hn hB
  obtain ⟨t, ht⟩ : ∃ t, t = decide (a ∈ s) := ⟨_, rfl⟩
  rw [← ht] at KI ⊢
  clear ht
  obtain ⟨av, ar, ao, as'⟩ := a
  dsimp only [alrV] at *
  have B0 := Lib.hid hb0
  clear hb0
  go_enter Tryd.func47, Tryd.ntmps47
  go_wp2_with (go_at_call 64; (with_reducible refine (KI.out _ B0.out).mono ?_); rintro e w1 ⟨k, rfl, hk, b1⟩; (have HK := Lib.hid hk); clear hk)
  go_ret
  exact ⟨by rw [← HK.out]; rfl, B0.out.trans (b1.mono B0.out.size)⟩
end Go.Proofs.YtipipjbpjpdcbaaDoor.Al
