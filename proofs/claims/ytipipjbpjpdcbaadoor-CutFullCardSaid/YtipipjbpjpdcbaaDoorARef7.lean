/- The reference of layer 6: Subjects. -/
import Derived.Test.YtipipjbpjpdcbaaDoorARef6
namespace Go.Proofs.YtipipjbpjpdcbaaDoor.Al
set_option linter.unusedVariables false
open Go.RowKit
open Go.Proofs.YtipipjbpjpdcbaaDoor.W
open Go.Proofs.YtipipjbpjpdcbaaDoor.V
open Go.Proofs.YtipipjbpjpdcbaaDoor.O
open Go.Proofs.YtipipjbpjpdcbaaDoor.Pb (Alr alrC alrsC len_alrsC alrsC_app alrsC_one alrsC_get alrsC_cell alrInfo step_append_alr reads_blk two_blk)

theorem subs_snoc {s : List Alr} {k : Nat} {x : Alr} (h : s[k]? = some x) : subsA (s.take (k + 1)) = subStep (subsA (s.take k)) x := by
  rw [take_snoc h]
  unfold subsA
  rw [List.foldl_append]
  rfl
theorem ins_len (x : Int) : ∀ l : List Int, (ins x l).length ≤ l.length + 1
  | [] => by simp [ins]
  | y :: t => by
    unfold ins
    split
    · simp
    · have := ins_len x t
      simp; omega
theorem subs_len : ∀ (s : List Alr) (out : List Int), (s.foldl subStep out).length ≤ out.length + s.length
  | [], out => by simp
  | x :: t, out => by
    have h1 := subs_len t (subStep out x)
    have h2 : (subStep out x).length ≤ out.length + 1 := by
      unfold subStep
      split
      · omega
      · exact ins_len _ _
    show (t.foldl subStep (subStep out x)).length ≤ _
    simp
    omega
set_option maxRecDepth 1000000 in
set_option maxHeartbeats 4000000 in
theorem refSubjectsS_any (E : Option Addr) (cE B : Nat) (s : List Alr) (w : World) (hs : AS w B s E cE) (hB : B ≤ w.heap.size) (hm : s.length ≤ 1000000) :
    Calls Tryd.prog 34 #[.slice E s.length cE] w (OutInt w (subsA s)) := by
  have RS := Lib.hid (fun W (hW : Below w.heap.size w W) => ((hs.more hB).below hW).rd)
  obtain ⟨n, hn⟩ : ∃ m, m = s.length := ⟨_, rfl⟩
  have HN := Lib.hid hn
  rw [← hn] at RS hm ⊢
  clear hs hn
  go_enter Tryd.func34, Tryd.ntmps34
  go_wp2_with fail
  go_loopg [3, 4] n (fun gk s3 s4 wr => ∃ (k : Nat) (O : List Int) (X : Option Addr) (cX : Nat), k + gk = n ∧ s4 = .int .i64 k ∧ s3 = .slice X O.length cX ∧ Hid (O = subsA (s.take k)) ∧ O.length ≤ cX ∧ Hid (Reads wr wr.heap.size 1 X O.length (O.map intV)) ∧ Hid (Below w.heap.size w wr))
  case atStart => exact ⟨0, [], none, 0, by omega, rfl, rfl, rfl, Nat.le_refl _, Reads.none_, Below.refl _ _⟩
  case round =>
    obtain ⟨k, O, X, cX, hkg, rfl, rfl, HO, hcX, HR, HW⟩ := hrel
    have LO := Lib.hid (show O.length ≤ 1000000 from by
      rw [HO.out]
      have := subs_len (s.take k) []
      rw [List.length_take] at this
      have := HN.out
      unfold subsA
      simp at *
      omega)
    cases gk with
    | zero =>
      have hkz : ¬ ((k : Int) < (n : Int)) := by omega
      have hO : O = subsA s := by rw [HO.out, List.take_of_length_le (by have := HN.out; omega)]
      subst hO
      go_wp2_with fail
      go_ret
      exact ⟨_, _, rfl, hcX, HR.out, HW.out⟩
    | succ gk =>
      have hkz : (k : Int) < (n : Int) := by omega
      obtain ⟨x, hx⟩ : ∃ x, s[k]? = some x := ⟨_, List.getElem?_eq_getElem (by have := HN.out; omega)⟩
      obtain ⟨ad, rfl, -, -, x0, x1, x2, x3⟩ := alr_at (RS.out _ HW.out) hx
      have HX := Lib.hid (subs_snoc hx)
      have KC := Lib.hid (refContains_any X cX wr.heap.size O x.subj wr HR.out (by have := LO.out; omega))
      have KI := Lib.hid ((refInsert_any X cX O x.subj wr HR.out (by have := LO.out; omega)).mono fun _ _ h => h.to (ins x.subj O) (ins x.subj O).length rfl rfl)
      clear hx
      cases hc : hasB O x.subj
      · have HS := Lib.hid (show subsA (s.take (k + 1)) = ins x.subj O from by rw [HX.out, ← HO.out]; unfold subStep; rw [hc]; rfl)
        rw [hc] at KC
        clear hc
        generalize ins x.subj O = I at *
        obtain ⟨no, hno⟩ : ∃ m, m = O.length := ⟨_, rfl⟩
        obtain ⟨ni, hni⟩ : ∃ m, m = I.length := ⟨_, rfl⟩
        have HNI := Lib.hid hni
        rw [← hno] at KC KI hcX ⊢
        rw [← hni] at KI
        clear hno hni
        go_wp2_with (first
          | (go_at_call 23; (with_reducible refine KC.out.mono ?_); rintro e w3 ⟨rfl, rfl⟩)
          | (go_at_call 27; (with_reducible refine KI.out.mono ?_); rintro e w4 ⟨X4, c4, rfl, hc4, ho4, hr4, q4⟩)
          | fail)
        have R4 := Lib.hid hr4
        have B4 := Lib.hid (W.bstep HW.out q4)
        clear hr4 q4 ho4
        go_roundg gk
        case measure => omega
        case rel => exact ⟨k + 1, I, X4, c4, by omega, by go_num, by rw [HNI.out], by rw [HS.out]; exact rfl, by rw [← HNI.out]; exact hc4, by rw [← HNI.out]; exact R4.out, B4.out⟩
      · have HS := Lib.hid (show subsA (s.take (k + 1)) = O from by rw [HX.out, ← HO.out]; unfold subStep; rw [hc]; rfl)
        rw [hc] at KC
        clear hc KI
        obtain ⟨no, hno⟩ : ∃ m, m = O.length := ⟨_, rfl⟩
        have HNO := Lib.hid hno
        rw [← hno] at KC hcX ⊢
        clear hno
        go_wp2_with (first
          | (go_at_call 23; (with_reducible refine KC.out.mono ?_); rintro e w3 ⟨rfl, rfl⟩)
          | fail)
        go_roundg gk
        case measure => omega
        case rel => exact ⟨k + 1, O, X, cX, by omega, by go_num, by rw [HNO.out], by rw [HS.out]; exact rfl, by rw [← HNO.out]; exact hcX, HR.out, HW.out⟩
end Go.Proofs.YtipipjbpjpdcbaaDoor.Al
