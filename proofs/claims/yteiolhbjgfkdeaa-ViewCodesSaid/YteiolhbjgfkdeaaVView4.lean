/- Package view: merged. -/
import Derived.Test.YteiolhbjgfkdeaaVView3
namespace Go.Proofs.Yteiolhbjgfkdeaa.V
set_option linter.unusedVariables false
open Go.RowKit
open Go.Proofs.Yteiolhbjgfkdeaa.W

set_option maxRecDepth 1000000 in
set_option maxHeartbeats 2000000 in
theorem merged_any (A C : Option Addr) (c d : Nat) (a b : List Int) (w : World) (hra : Reads w w.heap.size 1 A a.length (a.map intV)) (hrb : Reads w w.heap.size 1 C b.length (b.map intV)) (hcb : b.length ≤ d) (hal : a.length ≤ 32) (hbl : b.length ≤ 32) :
    Calls Try.prog 48 #[.slice A a.length c, .slice C b.length d] w (OwnI w (mgF a b)) := by
  obtain ⟨i0, hi, hz0, hz1, hz2⟩ := info_parts intInfo
  have RA := Lib.hid (fun W (hW : Below w.heap.size w W) => hra.below hW)
  obtain ⟨na, hna⟩ : ∃ n, n = a.length := ⟨_, rfl⟩
  obtain ⟨nb, hnb⟩ : ∃ n, n = b.length := ⟨_, rfl⟩
  have HNA := Lib.hid hna
  have HNB := Lib.hid hnb
  rw [← hna] at hal RA ⊢
  rw [← hnb] at hbl hrb hcb ⊢
  have wab : IntKind.i64.wrap ((na : Int) + (nb : Int)) = (na : Int) + (nb : Int) := IntWalk.i64_in _ (by omega)
  obtain ⟨v0, w1, hmk, hown0, hb1⟩ : ∃ v0 w1, (Instr.makeSlice 22 (.int .i64 0) (.int .i64 ((na : Int) + (nb : Int)))).run Try.prog w = .ok v0 w1 ∧ w1.ownsRow w.heap.size 3 1 v0 ([] : List Int).length (([] : List Int).map intV) ∧ Below w.heap.size w w1 := by
    have h := run_make (P := Try.prog) w 22 3 i0 _ Try.underlying22 hi hz0 .i64 .i64 0 ((na : Int) + (nb : Int)) (by omega) (by omega) (by rw [hz2]; omega) (by omega)
    refine ⟨_, _, h, ?_, (Below.refl _ _).alloc (Nat.le_refl _) _⟩
    rw [show ((na : Int) + (nb : Int)).toNat = na + nb by omega]
    exact World.ownsRow_made w _ (na + nb) (Nat.le_refl _) (by unfold maxLen; omega) (by rw [size_madeCells, hz1])
  clear hra hna hnb
  go_enter Try.func48, Try.ntmps48
  go_wp2
  clear hmk
  go_loopg [1, 5, 16] na (fun g s1 s5 s16 wr => ∃ (k n e : Nat) (P q : List Int) (Q : Option Addr), k + g = na ∧ s16 = .int .i64 k ∧ s1 = .slice Q n e ∧ n ≤ e ∧ n + P.length ≤ nb + k ∧ n ≤ nb ∧ Hid (n = q.length) ∧ Hid (mgF a b = P ++ mgF (a.drop k) q) ∧ Hid (Reads wr w.heap.size 1 Q n (q.map intV)) ∧ wr.ownsRow w.heap.size 3 1 s5 P.length (P.map intV) ∧ Below w.heap.size w wr)
  case atStart => exact ⟨0, nb, d, [], b, C, by omega, rfl, rfl, hcb, by simp, Nat.le_refl _, HNB, by show _ = _; simp, hrb.below hb1, hown0, hb1⟩
  case round =>
    obtain ⟨k, n, e, P, q, Q, hkg, rfl, rfl, hne, hnP, hnn, HQ, HG, HR, hown, hbel⟩ := hrel
    obtain ⟨wo, rfl⟩ : ∃ wo : World, wo = wr := ⟨_, rfl⟩
    have hbs := hbel.size
    cases gk with
    | zero =>
      have hkz : ¬ ((k : Int) < (na : Int)) := by omega
      have ht := Lib.hid (show mgF a b = P ++ q by rw [HG.out, show a.drop k = [] from List.drop_eq_nil_of_le (by have := HNA.out; omega), mgF_nil])
      go_wp2_with (at_builtin; refine wp_append_ints _ rfl (.tmp 43) (.tmp 44) rfl w.heap.size _ P q _ _ _ _ rfl hown rfl HR.out (by have := HQ.out; omega) hbs ?_; intro v' w' ho2 hb2)
      go_ret
      exact ⟨_, rfl, by rw [ht.out]; exact ho2, hbel.trans hb2⟩
    | succ g =>
      have hkz : (k : Int) < (na : Int) := by omega
      obtain ⟨ad, u, rfl, _, hx, hcell⟩ := (RA.out wo hbel).at_ (k := k) (by omega)
      obtain ⟨x, hxk⟩ : ∃ x, a[k]? = some x := ⟨_, List.getElem?_eq_getElem (by have := HNA.out; omega)⟩
      have hux : u = .int .i64 x := by simp [hxk, intV] at hx; exact hx.symm
      rw [hux] at hcell
      have HG2 := Lib.hid (show mgF a b = P ++ mgF (x :: a.drop (k + 1)) q by rw [← drop_at' hxk]; exact HG.out)
      clear hx hux hxk
      obtain ⟨v5, rfl⟩ : ∃ v, v = u5 := ⟨_, rfl⟩
      go_wp2_with fail
      go_loopg [1, 5] n (fun g2 s1 s5 wy => ∃ (m f : Nat) (P2 q2 : List Int) (Q2 : Option Addr), m = g2 ∧ s1 = .slice Q2 m f ∧ m ≤ f ∧ m + P2.length ≤ nb + k ∧ m ≤ nb ∧ Hid (m = q2.length) ∧ Hid (mgF a b = P2 ++ mgF (x :: a.drop (k + 1)) q2) ∧ Hid (Reads wy w.heap.size 1 Q2 m (q2.map intV)) ∧ wy.ownsRow w.heap.size 3 1 s5 P2.length (P2.map intV) ∧ Below w.heap.size w wy)
      case atStart => exact ⟨n, e, P, q, Q, rfl, rfl, hne, hnP, hnn, HQ, HG2, HR, hown, hbel⟩
      case round =>
        obtain ⟨m, f, P2, q2, Q2, rfl, rfl, hmf, hmP, hmn, HQ2, HG3, HR2, hown2, hb2⟩ := hrel
        obtain ⟨wi, rfl⟩ : ∃ wi : World, wi = wr := ⟨_, rfl⟩
        clear HG HG2 HR HQ hown hbel hcell hbs
        have hbs := hb2.size
        cases q2 with
        | nil =>
          have hm0 : m = 0 := HQ2.out
          have hmz : ¬ ((0 : Int) < (m : Int)) := by omega
          have HF := Lib.hid (show mgF a b = (P2 ++ [x]) ++ mgF (a.drop (k + 1)) [] by rw [HG3.out, mgF_left]; simp)
          clear hm0
          go_wp2_with (at_builtin; refine wp_append_ints _ rfl (.tmp 38) (.tmp 40) rfl w.heap.size _ P2 [x] _ _ _ _ rfl (hown2.alloc _) rfl (reads_one _ _) (by simp; omega) (by simp; omega) ?_; intro v' w' ho3 hb3)
          go_roundg g
          case measure => omega
          case rel => exact ⟨k + 1, m, f, P2 ++ [x], [], Q2, by omega, by go_num, rfl, hmf, by simp; omega, hmn, HQ2, HF.out, HR2.out.below ((Below.refl _ _ |>.alloc hbs _).trans hb3), ho3, (hb2.alloc hbs _).trans hb3⟩
        | cons y t =>
          have hm1 : m = t.length + 1 := HQ2.out
          have hmz : (0 : Int) < (m : Int) := by omega
          have hmz' : 0 < m := by omega
          obtain ⟨bd, u', rfl, hbd, hx', hcell'⟩ := HR2.out.at_ (k := 0) (by omega)
          have huy : u' = .int .i64 y := by simp [intV] at hx'; exact hx'.symm
          rw [huy] at hcell'
          have hcell0 : wi.cell? bd = some (.int .i64 y) := by simpa [Addr.add] using hcell'
          clear hx' huy hcell' hm1
          by_cases hyx : y < x
          · have HF := Lib.hid (show mgF a b = (P2 ++ [y]) ++ mgF (x :: a.drop (k + 1)) t by rw [HG3.out, mgF_lt hyx]; simp)
            have hr2 := HR2.out
            rw [HQ2.out] at hr2
            obtain ⟨A', hs', hrr⟩ := slice_fromI (w := wi) (B := w.heap.size) (l := y :: t) (c := f) (A := some bd) (k := 1) (ki := 1) hr2 (by rw [← HQ2.out]; exact hmf) (by simp) rfl
            rw [← HQ2.out] at hs' hrr
            have HRR := Lib.hid hrr
            clear hr2 hrr
            go_wp2_with (at_builtin; refine wp_append_ints _ rfl (.tmp 30) (.tmp 34) rfl w.heap.size _ P2 [y] _ _ _ _ rfl (hown2.alloc _) rfl (reads_one _ _) (by simp; omega) (by simp; omega) ?_; intro v' w' ho3 hb3)
            go_roundg (m - 1)
            case measure => omega
            case rel => exact ⟨m - 1, f - 1, P2 ++ [y], t, A', rfl, rfl, by omega, by simp; omega, by omega, by show _ = _; have : m = (y :: t).length := HQ2.out; simp at this; omega, HF.out, HRR.out.below ((Below.refl _ _ |>.alloc hbs _).trans hb3), ho3, (hb2.alloc hbs _).trans hb3⟩
          · have HF := Lib.hid (show mgF a b = (P2 ++ [x]) ++ mgF (a.drop (k + 1)) (y :: t) by rw [HG3.out, mgF_ge hyx]; simp)
            go_wp2_with (at_builtin; refine wp_append_ints _ rfl (.tmp 38) (.tmp 40) rfl w.heap.size _ P2 [x] _ _ _ _ rfl (hown2.alloc _) rfl (reads_one _ _) (by simp; omega) (by simp; omega) ?_; intro v' w' ho3 hb3)
            go_roundg g
            case measure => omega
            case rel => exact ⟨k + 1, m, f, P2 ++ [x], y :: t, some bd, by omega, by go_num, rfl, hmf, by simp; omega, hmn, HQ2, HF.out, HR2.out.below ((Below.refl _ _ |>.alloc hbs _).trans hb3), ho3, (hb2.alloc hbs _).trans hb3⟩
end Go.Proofs.Yteiolhbjgfkdeaa.V
