/- The reference of layer 6: Same. -/
import Derived.Test.YtojhdljbpmjigaaGreatDoorAB
namespace Go.Proofs.YtojhdljbpmjigaaGreatDoor.Al
set_option linter.unusedVariables false
open Go.RowKit
open Go.Proofs.YtojhdljbpmjigaaGreatDoor.W
open Go.Proofs.YtojhdljbpmjigaaGreatDoor.V
open Go.Proofs.YtojhdljbpmjigaaGreatDoor.O
open Go.Proofs.YtojhdljbpmjigaaGreatDoor.Pb (Alr alrC alrsC len_alrsC alrsC_app alrsC_one alrsC_get alrsC_cell alrInfo step_append_alr reads_blk two_blk)

theorem neq_alr (x y : Alr) (W : World) : (binOp .neq 38 (.agg #[.int .i64 x.view, .int .i64 x.ring, .int .i64 x.obs, .int .i64 x.subj]) (.agg #[.int .i64 y.view, .int .i64 y.ring, .int .i64 y.obs, .int .i64 y.subj])).run Tryz.prog W = .ok (.bool (!(decide (x = y)))) W := by
  obtain ⟨a1, a2, a3, a4⟩ := x
  obtain ⟨b1, b2, b3, b4⟩ := y
  by_cases h1 : a1 = b1 <;> by_cases h2 : a2 = b2 <;> by_cases h3 : a3 = b3 <;> by_cases h4 : a4 = b4 <;> simp [go_sem, h1, h2, h3, h4]
theorem ext_take {α : Type} [DecidableEq α] {a b : List α} {k : Nat} (hl : a.length = b.length) (h : a.take k = b.take k) (hk : a.length ≤ k) : a = b := by
  rw [List.take_of_length_le hk, List.take_of_length_le (by omega)] at h
  exact h
theorem take_same {α : Type} {a b : List α} {k : Nat} {x : α} (h : a.take k = b.take k) (ha : a[k]? = some x) (hb : b[k]? = some x) : a.take (k + 1) = b.take (k + 1) := by rw [List.take_add_one, List.take_add_one, h, ha, hb]
set_option maxRecDepth 1000000 in
set_option maxHeartbeats 4000000 in
theorem refSameS_any (A A' : Option Addr) (c c' B : Nat) (a b : List Alr) (w : World) (h : Reads w B 4 A a.length (alrsC a)) (h' : Reads w B 4 A' b.length (alrsC b)) (hl : a.length ≤ 1099511627776) (hl' : b.length ≤ 1099511627776) :
    Calls Tryz.prog 10 #[.slice A a.length c, .slice A' b.length c'] w (PB w (decide (a = b))) := by
  have HR := Lib.hid h
  have HR' := Lib.hid h'
  obtain ⟨na, hna⟩ : ∃ n, n = a.length := ⟨_, rfl⟩
  obtain ⟨nb, hnb⟩ : ∃ n, n = b.length := ⟨_, rfl⟩
  have HNA := Lib.hid hna
  have HNB := Lib.hid hnb
  rw [← hna] at HR hl ⊢
  rw [← hnb] at HR' hl' ⊢
  clear h h' hna hnb
  by_cases hlen : na = nb
  case neg =>
    have ht := Lib.hid (show decide (a = b) = false from decide_eq_false fun e => hlen (by rw [HNA.out, HNB.out, e]))
    have hlf : ((na : Int) != (nb : Int)) = true := bneT (by omega)
    generalize decide (a = b) = t at *
    clear hlen
    go_enter Tryz.func10, Tryz.ntmps10
    go_wp2_with fail
    go_ret
    exact ⟨by rw [ht.out]; rfl, Below.refl _ _⟩
  have HLEN := Lib.hid hlen
  have hlf : ((na : Int) != (nb : Int)) = false := bneF (by omega)
  clear hlen
  obtain ⟨t, ht⟩ : ∃ t, t = decide (a = b) := ⟨_, rfl⟩
  have HT := Lib.hid ht
  rw [← ht]
  clear ht
  go_enter Tryz.func10, Tryz.ntmps10
  go_wp2_with fail
  go_loopg [5] na (fun gk s5 wr => ∃ (k n : Nat), k + gk = na ∧ s5 = .int .i64 k ∧ wr = w.drewN n ∧ Hid (a.take k = b.take k))
  case atStart => exact ⟨0, 0, by omega, rfl, rfl, rfl⟩
  case round =>
    obtain ⟨k, n, hkg, rfl, rfl, HTK⟩ := hrel
    cases gk with
    | zero =>
      have hkz : ¬ ((k : Int) < (na : Int)) := by omega
      have ht := Lib.hid (show t = true by
        rw [HT.out]
        exact decide_eq_true (ext_take (by rw [← HNA.out, ← HNB.out]; exact HLEN.out) HTK.out (by rw [← HNA.out]; omega)))
      go_wp2_with fail
      go_ret
      exact ⟨by rw [ht.out]; rfl, below_drewN' (Below.refl _ _) _⟩
    | succ gk =>
      have hkz : (k : Int) < (na : Int) := by omega
      have hkb : (k : Int) < (nb : Int) := by have := HLEN.out; omega
      obtain ⟨x, hx⟩ : ∃ x, a[k]? = some x := ⟨_, List.getElem?_eq_getElem (by have := HNA.out; omega)⟩
      obtain ⟨y, hy⟩ : ∃ x, b[k]? = some x := ⟨_, List.getElem?_eq_getElem (by have := HNB.out; omega)⟩
      obtain ⟨ad, rfl, hb1, hb2, x0, x1, x2, x3⟩ := alr_at HR.out hx
      obtain ⟨bd, rfl, hb3, hb4, y0, y1, y2, y3⟩ := alr_at HR'.out hy
      have HX := Lib.hid hx
      have HY := Lib.hid hy
      clear hx hy hb1 hb2 hb3 hb4
      by_cases hxy : x = y
      · subst hxy
        go_wp2_with fail
        go_quiet (fail)
        go_wp2_with fail
        go_roundg gk
        case measure => omega
        case rel => exact ⟨k + 1, n + nq, by omega, by go_num, (by first | rfl | rw [World.drewN_drewN]), take_same HTK.out HX.out HY.out⟩
      · have ht := Lib.hid (show t = false by
          rw [HT.out]
          exact decide_eq_false fun e => hxy (by have h1 := HX.out; rw [e, HY.out] at h1; exact (Option.some.inj h1).symm))
        have hne := neq_alr x y
        rw [decide_eq_false hxy] at hne
        go_wp2_with fail
        go_quiet (fail)
        go_wp2_with fail
        go_ret
        exact ⟨by rw [ht.out]; rfl, below_drewN' (below_drewN' (Below.refl _ _) _) _⟩
end Go.Proofs.YtojhdljbpmjigaaGreatDoor.Al
