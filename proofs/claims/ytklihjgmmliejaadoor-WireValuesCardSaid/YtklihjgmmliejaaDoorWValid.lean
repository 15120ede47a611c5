/- tooLong, slices.IndexFunc, slices.ContainsFunc (at tooLong), ValidValue. -/
import Derived.Test.YtklihjgmmliejaaDoorWEnc2
namespace Go.Proofs.YtklihjgmmliejaaDoor.W
set_option linter.unusedVariables false
open Go.RowKit
open Go.Lib (byteCells byteCells_length byteCells_append byteCells_snoc unzigzag zigzag uvarint_small uvarint_big)

theorem tooLong_any (s : ByteArray) (w : World) (hs : s.size ≤ 1099511627776) :
    Calls Tryd.prog 65 #[.string s] w fun e w' => e = .returned (.bool (decide (64 < s.size))) ∧ w = w' := by
  go_enter Tryd.func65, Tryd.ntmps65
  go_wp2_with fail
  go_ret
  exact ⟨congrArg (fun b => Ending.returned (.bool b)) (decide_eq_decide.2 (by omega)), rfl⟩
theorem tooLong_str (s : List UInt8) (w : World) (hs : s.length ≤ 1099511627776) :
    Calls Tryd.prog 65 #[strV s] w fun e w' => e = .returned (.bool (decide (64 < s.length))) ∧ w = w' := tooLong_any ⟨s.toArray⟩ w hs

set_option maxRecDepth 100000 in
set_option maxHeartbeats 400000 in
theorem indexFunc_any (L : Option Addr) (c B : Nat) (l : List (List UInt8)) (w : World) (hr : Reads w B 1 L l.length (l.map strV)) (hl : l.length ≤ 1099511627776) (hel : ∀ s ∈ l, s.length ≤ 1099511627776) :
    Calls Tryd.prog 71 #[.slice L l.length c, .func (.func 65) #[] #[]] w fun e w' =>
      ∃ j : Int, e = .returned (.int .i64 j) ∧ (tooL l = true → 0 ≤ j ∧ j ≤ 1099511627776) ∧ (tooL l = false → j = -1) ∧ w = w' := by
  go_enter Tryd.func71, Tryd.ntmps71
  go_wp2_with fail
  go_loop [8] (fun i => ∃ k : Nat, k ≤ l.length ∧ i = .int .i64 k ∧ tooL l = tooL (l.drop k)) (fun i => l.length - (intOf i).toNat)
  case atStart => exact ⟨0, Nat.zero_le _, rfl, rfl⟩
  case round =>
    obtain ⟨k, hk, rfl, hd⟩ := hrel
    by_cases hlt : k < l.length
    · obtain ⟨ad, u, rfl, _, hx, hcell⟩ := hr.at_ hlt
      have hux : u = strV l[k] := by simp [hlt] at hx; exact hx.symm
      rw [hux] at hcell
      have hdk : l.drop k = l[k] :: l.drop (k + 1) := List.drop_eq_getElem_cons hlt
      have hxs := hel l[k] (List.getElem_mem hlt)
      generalize l[k] = x at *
      rw [hdk] at hd
      have HD := Lib.hid hd
      clear hd hdk hx hux
      by_cases hb : 64 < x.length
      · have HC := Lib.hid (tooLong_str x w hxs)
        rw [show decide (64 < x.length) = true by simpa using hb] at HC
        have ht := Lib.hid (show tooL l = true by rw [HD.out]; simp [tooL, hb])
        go_wp2_with (go_at_call 65; refine HC.out.mono ?_; rintro e w' ⟨rfl, rfl⟩)
        go_ret
        exact ⟨_, rfl, fun _ => ⟨by omega, by omega⟩, fun h => (by rw [ht.out] at h; cases h), rfl⟩
      · have HC := Lib.hid (tooLong_str x w hxs)
        rw [show decide (64 < x.length) = false by simpa using hb] at HC
        have ht := Lib.hid (show tooL l = tooL (l.drop (k + 1)) by rw [HD.out]; simp [tooL, hb])
        go_wp2_with (go_at_call 65; refine HC.out.mono ?_; rintro e w' ⟨rfl, rfl⟩)
        go_round
        case rel => exact ⟨k + 1, by omega, by go_num, ht.out⟩
        case measure => simp [intOf]; omega
    · have ht := Lib.hid (show tooL l = false by rw [hd, List.drop_eq_nil_of_le (by omega)]; rfl)
      clear hd
      go_wp2
      go_ret
      exact ⟨-1, rfl, fun h => (by rw [ht.out] at h; cases h), fun _ => rfl, rfl⟩

set_option maxRecDepth 100000 in
theorem containsFunc_any (L : Option Addr) (c B : Nat) (l : List (List UInt8)) (w : World) (hr : Reads w B 1 L l.length (l.map strV)) (hl : l.length ≤ 1099511627776) (hel : ∀ s ∈ l, s.length ≤ 1099511627776) :
    Calls Tryd.prog 64 #[.slice L l.length c, .func (.func 65) #[] #[]] w fun e w' => e = .returned (.bool (tooL l)) ∧ w = w' := by
  have HC := Lib.hid (indexFunc_any L c B l w hr hl hel)
  cases ht : tooL l
  all_goals
    have HT := Lib.hid ht
    clear ht
    go_enter Tryd.func64, Tryd.ntmps64
    go_wp2_with (go_at_call 71; refine HC.out.mono ?_; rintro e w' ⟨j, rfl, hj1, hj2, rfl⟩; have J1 := Lib.hid hj1; have J2 := Lib.hid hj2; clear hj1 hj2)
    go_ret
  · exact ⟨by rw [J2.out HT.out]; rfl, rfl⟩
  · have := J1.out HT.out
    exact ⟨by simp; omega, rfl⟩
/-- A value of the actor language as the program holds it. -/
def gvV (v : GV) (I L : Option Addr) (ci cl : Nat) : Value := .agg #[.int .i64 v.kind, .int .i64 v.n, strV v.s, .slice I v.i.length ci, .slice L v.l.length cl]
structure GVarg (w : World) (B : Nat) (v : GV) (I L : Option Addr) (ci cl : Nat) : Prop where
  ri : Reads w B 1 I v.i.length (v.i.map intV)
  rl : Reads w B 1 L v.l.length (v.l.map strV)
  hci : v.i.length ≤ ci
  hcl : v.l.length ≤ cl
  k64 : In64 v.kind
  n64 : In64 v.n
  i64 : ∀ x ∈ v.i, In64 x
  s40 : v.s.length ≤ 1099511627776
  i40 : v.i.length ≤ 1099511627776
  l40 : v.l.length ≤ 1099511627776
  e40 : ∀ s ∈ v.l, s.length ≤ 1099511627776

set_option maxRecDepth 100000 in
set_option maxHeartbeats 1000000 in
theorem valid_k0 (v : GV) (I L : Option Addr) (ci cl B : Nat) (w : World) (h : GVarg w B v I L ci cl) (hB : B ≤ w.heap.size) (hk : v.kind = 0) :
    Calls Tryd.prog 42 #[gvV v I L ci cl] w fun e w' => e = .returned (.bool v.ok) ∧ Below w.heap.size w w' := by
  have hb0 := (Below.refl w.heap.size w)
  obtain ⟨k, n, s, i, l⟩ := v
  have s40 := h.s40
  have i40 := h.i40
  have l40 := h.l40
  dsimp only [gvV, strV] at *
  subst hk
  clear h
  go_enter Tryd.func42, Tryd.ntmps42
  go_wp2_with (fail)
  all_goals
    go_ret
    refine ⟨?_, ?_⟩
    · first | (simp [GV.ok, *]; done) | (simp [GV.ok, *]; intros; first | omega | (subst_vars; simp_all; done) | skip)
    · repeat (first | exact hb0 | refine Below.alloc ?_ (by simp) _ | refine Below.setCell ?_ (by simp) _)
set_option maxRecDepth 100000 in
set_option maxHeartbeats 1000000 in
theorem valid_k1 (v : GV) (I L : Option Addr) (ci cl B : Nat) (w : World) (h : GVarg w B v I L ci cl) (hB : B ≤ w.heap.size) (hk : v.kind = 1) :
    Calls Tryd.prog 42 #[gvV v I L ci cl] w fun e w' => e = .returned (.bool v.ok) ∧ Below w.heap.size w w' := by
  have hb0 := (Below.refl w.heap.size w)
  obtain ⟨k, n, s, i, l⟩ := v
  have s40 := h.s40
  have i40 := h.i40
  have l40 := h.l40
  dsimp only [gvV, strV] at *
  subst hk
  clear h
  go_enter Tryd.func42, Tryd.ntmps42
  go_wp2_with (fail)
  all_goals
    go_ret
    refine ⟨?_, ?_⟩
    · first | (simp [GV.ok, *]; done) | (simp [GV.ok, *]; intros; first | omega | (subst_vars; simp_all; done) | skip)
    · repeat (first | exact hb0 | refine Below.alloc ?_ (by simp) _ | refine Below.setCell ?_ (by simp) _)
set_option maxRecDepth 100000 in
set_option maxHeartbeats 1000000 in
theorem valid_k2 (v : GV) (I L : Option Addr) (ci cl B : Nat) (w : World) (h : GVarg w B v I L ci cl) (hB : B ≤ w.heap.size) (hk : v.kind = 2) :
    Calls Tryd.prog 42 #[gvV v I L ci cl] w fun e w' => e = .returned (.bool v.ok) ∧ Below w.heap.size w w' := by
  have hb0 := (Below.refl w.heap.size w)
  obtain ⟨k, n, s, i, l⟩ := v
  have s40 := h.s40
  have i40 := h.i40
  have l40 := h.l40
  dsimp only [gvV, strV] at *
  subst hk
  clear h
  go_enter Tryd.func42, Tryd.ntmps42
  go_wp2_with (fail)
  all_goals
    go_ret
    refine ⟨?_, ?_⟩
    · first | (simp [GV.ok, *]; done) | (simp [GV.ok, *]; intros; first | omega | (subst_vars; simp_all; done) | skip)
    · repeat (first | exact hb0 | refine Below.alloc ?_ (by simp) _ | refine Below.setCell ?_ (by simp) _)
set_option maxRecDepth 100000 in
set_option maxHeartbeats 1000000 in
theorem valid_k3 (v : GV) (I L : Option Addr) (ci cl B : Nat) (w : World) (h : GVarg w B v I L ci cl) (hB : B ≤ w.heap.size) (hk : v.kind = 3) :
    Calls Tryd.prog 42 #[gvV v I L ci cl] w fun e w' => e = .returned (.bool v.ok) ∧ Below w.heap.size w w' := by
  have hb0 := (Below.refl w.heap.size w)
  obtain ⟨k, n, s, i, l⟩ := v
  have s40 := h.s40
  have i40 := h.i40
  have l40 := h.l40
  dsimp only [gvV, strV] at *
  subst hk
  clear h
  go_enter Tryd.func42, Tryd.ntmps42
  go_wp2_with (fail)
  all_goals
    go_ret
    refine ⟨?_, ?_⟩
    · first | (simp [GV.ok, *]; done) | (simp [GV.ok, *]; intros; first | omega | (subst_vars; simp_all; done) | skip)
    · repeat (first | exact hb0 | refine Below.alloc ?_ (by simp) _ | refine Below.setCell ?_ (by simp) _)
set_option maxRecDepth 100000 in
set_option maxHeartbeats 1000000 in
theorem valid_k4 (v : GV) (I L : Option Addr) (ci cl B : Nat) (w : World) (h : GVarg w B v I L ci cl) (hB : B ≤ w.heap.size) (hk : v.kind = 4) :
    Calls Tryd.prog 42 #[gvV v I L ci cl] w fun e w' => e = .returned (.bool v.ok) ∧ Below w.heap.size w w' := by
  have hb0 := (Below.refl w.heap.size w)
  obtain ⟨k, n, s, i, l⟩ := v
  have s40 := h.s40
  have i40 := h.i40
  have l40 := h.l40
  dsimp only [gvV, strV] at *
  subst hk
  clear h
  go_enter Tryd.func42, Tryd.ntmps42
  go_wp2_with (fail)
  all_goals
    go_ret
    refine ⟨?_, ?_⟩
    · first | (simp [GV.ok, *]; done) | (simp [GV.ok, *]; intros; first | omega | (subst_vars; simp_all; done) | skip)
    · repeat (first | exact hb0 | refine Below.alloc ?_ (by simp) _ | refine Below.setCell ?_ (by simp) _)
set_option maxRecDepth 100000 in
set_option maxHeartbeats 1000000 in
theorem valid_k5 (v : GV) (I L : Option Addr) (ci cl B : Nat) (w : World) (h : GVarg w B v I L ci cl) (hB : B ≤ w.heap.size) (hk : v.kind = 5) :
    Calls Tryd.prog 42 #[gvV v I L ci cl] w fun e w' => e = .returned (.bool v.ok) ∧ Below w.heap.size w w' := by
  have hb0 := (Below.refl w.heap.size w)
  obtain ⟨k, n, s, i, l⟩ := v
  have s40 := h.s40
  have i40 := h.i40
  have l40 := h.l40
  have HC := Lib.hid (fun W (hW : Below w.heap.size w W) => containsFunc_any L cl B l W (h.rl.below (hW.mono hB)) h.l40 h.e40)
  dsimp only [gvV, strV] at *
  subst hk
  clear h
  go_enter Tryd.func42, Tryd.ntmps42
  go_wp2_with (go_at_call 64; refine (HC.out _ (by repeat (first | exact hb0 | refine Below.alloc ?_ (by simp) _ | refine Below.setCell ?_ (by simp) _))).mono ?_; rintro e w' ⟨rfl, rfl⟩)
  all_goals
    go_ret
    refine ⟨?_, ?_⟩
    · first | (simp [GV.ok, *]; done) | (simp [GV.ok, *]; intros; first | omega | (subst_vars; simp_all; done) | skip)
    · repeat (first | exact hb0 | refine Below.alloc ?_ (by simp) _ | refine Below.setCell ?_ (by simp) _)
end Go.Proofs.YtklihjgmmliejaaDoor.W
