/- slices.Equal at int and string, SameValue, Small. -/
import Derived.Test.YtklihjgmmliejaaDoorWAwake
namespace Go.Proofs.YtklihjgmmliejaaDoor.W
set_option linter.unusedVariables false
open Go.RowKit
open Go.Lib (byteCells byteCells_length byteCells_append byteCells_snoc)

theorem take_eq_of {α : Type} {xs ys : List α} {k : Nat} (h : xs.take k = ys.take k) {x y : α} (hx : xs[k]? = some x) (hy : ys[k]? = some y) (hxy : x = y) : xs.take (k + 1) = ys.take (k + 1) := by
  rw [List.take_add_one, List.take_add_one, h, hx, hy, hxy]
theorem ne_of_get {α : Type} {xs ys : List α} {k : Nat} {x y : α} (hx : xs[k]? = some x) (hy : ys[k]? = some y) (hxy : x ≠ y) : xs ≠ ys := by
  rintro rfl
  rw [hx] at hy
  exact hxy (Option.some.inj hy)

set_option maxRecDepth 100000 in
set_option maxHeartbeats 1000000 in
theorem equal_int (A A' : Option Addr) (c c' B B' : Nat) (xs ys : List Int) (w : World) (ha : Reads w B 1 A xs.length (xs.map intV)) (hb : Reads w B' 1 A' ys.length (ys.map intV)) (hl : xs.length ≤ 1099511627776) (hl' : ys.length ≤ 1099511627776) :
    Calls Tryd.prog 66 #[.slice A xs.length c, .slice A' ys.length c'] w fun e w' => e = .returned (.bool (decide (xs = ys))) ∧ ∃ k, w' = w.drewN k := by
  by_cases hlen : xs.length = ys.length
  · have hz : ((xs.length : Int) != (ys.length : Int)) = false := bneF (by omega)
    have HL := Lib.hid hlen
    obtain ⟨n, hn⟩ : ∃ n, n = ys.length := ⟨_, rfl⟩
    rw [hlen] at ha hl hz ⊢
    rw [← hn] at ha hb hl hl' hz ⊢
    have HN := Lib.hid hn
    clear hlen hn
    go_enter Tryd.func66, Tryd.ntmps66
    go_wp2
    go_loopw [13] (fun i wr => ∃ k m : Nat, k ≤ n ∧ i = .int .i64 k ∧ wr = w.drewN m ∧ xs.take k = ys.take k) (fun i _ => n - (intOf i).toNat)
    case atStart => exact ⟨0, 0, Nat.zero_le _, rfl, rfl, by simp⟩
    case round =>
      obtain ⟨k, m, hk, rfl, rfl, htk⟩ := hrel
      by_cases hlt : k < n
      · obtain ⟨ad, u, rfl, _, hx, hc⟩ := ha.at_ hlt
        obtain ⟨bd, u', rfl, _, hx', hc'⟩ := hb.at_ hlt
        obtain ⟨x, hxk⟩ : ∃ x, xs[k]? = some x := ⟨_, List.getElem?_eq_getElem (by have := HL.out; have := HN.out; omega)⟩
        obtain ⟨y, hyk⟩ : ∃ y, ys[k]? = some y := ⟨_, List.getElem?_eq_getElem (by have := HN.out; omega)⟩
        have e1 : u = intV x := by simp [hxk] at hx; exact hx.symm
        have e2 : u' = intV y := by simp [hyk] at hx'; exact hx'.symm
        rw [e1] at hc
        rw [e2] at hc'
        have HXK := Lib.hid hxk
        have HYK := Lib.hid hyk
        have HTK := Lib.hid htk
        have hlt2 : (k : Int) < (n : Int) := by omega
        clear e1 e2 hx hx' hxk hyk htk
        dsimp only [intV] at hc hc'
        by_cases hxy : x = y
        · subst hxy
          have HT2 := Lib.hid (take_eq_of HTK.out HXK.out HYK.out rfl)
          go_wp2_with fail
          go_quiet (fail)
          go_wp2_with fail
          go_roundw
          case rel => exact ⟨k + 1, _, by omega, by go_num, rfl, HT2.out⟩
          case measure => simp [intOf]; omega
        · have hz2 : (x != y) = true := bneT hxy
          have HNE := Lib.hid (ne_of_get HXK.out HYK.out hxy)
          have hd := Lib.hid (show decide (xs = ys) = false by simpa using HNE.out)
          clear hxy
          go_wp2_with fail
          go_quiet (fail)
          go_wp2_with fail
          go_ret
          rw [hd.out]
          exact ⟨rfl, _, World.drewN_drewN _ _ _⟩
      · have hd := Lib.hid (show decide (xs = ys) = true by
          have h1 := HL.out
          have h2 := HN.out
          rw [List.take_of_length_le (by omega), List.take_of_length_le (by omega)] at htk
          simpa using htk)
        clear htk
        go_wp2
        go_ret
        rw [hd.out]
        exact ⟨rfl, _, rfl⟩
  · have hz : ((xs.length : Int) != (ys.length : Int)) = true := bneT (by omega)
    have hd := Lib.hid (show decide (xs = ys) = false by
      rw [decide_eq_false_iff_not]; intro h; exact hlen (by rw [h]))
    clear hlen
    go_enter Tryd.func66, Tryd.ntmps66
    go_wp2
    go_ret
    rw [hd.out]
    exact ⟨rfl, 0, rfl⟩

set_option maxRecDepth 100000 in
set_option maxHeartbeats 1000000 in
theorem equal_str (A A' : Option Addr) (c c' B B' : Nat) (xs ys : List (List UInt8)) (w : World) (ha : Reads w B 1 A xs.length (xs.map strV)) (hb : Reads w B' 1 A' ys.length (ys.map strV)) (hl : xs.length ≤ 1099511627776) (hl' : ys.length ≤ 1099511627776) :
    Calls Tryd.prog 67 #[.slice A xs.length c, .slice A' ys.length c'] w fun e w' => e = .returned (.bool (decide (xs = ys))) ∧ ∃ k, w' = w.drewN k := by
  by_cases hlen : xs.length = ys.length
  · have hz : ((xs.length : Int) != (ys.length : Int)) = false := bneF (by omega)
    have HL := Lib.hid hlen
    obtain ⟨n, hn⟩ : ∃ n, n = ys.length := ⟨_, rfl⟩
    rw [hlen] at ha hl hz ⊢
    rw [← hn] at ha hb hl hl' hz ⊢
    have HN := Lib.hid hn
    clear hlen hn
    go_enter Tryd.func67, Tryd.ntmps67
    go_wp2
    go_loopw [13] (fun i wr => ∃ k m : Nat, k ≤ n ∧ i = .int .i64 k ∧ wr = w.drewN m ∧ xs.take k = ys.take k) (fun i _ => n - (intOf i).toNat)
    case atStart => exact ⟨0, 0, Nat.zero_le _, rfl, rfl, by simp⟩
    case round =>
      obtain ⟨k, m, hk, rfl, rfl, htk⟩ := hrel
      by_cases hlt : k < n
      · obtain ⟨ad, u, rfl, _, hx, hc⟩ := ha.at_ hlt
        obtain ⟨bd, u', rfl, _, hx', hc'⟩ := hb.at_ hlt
        obtain ⟨x, hxk⟩ : ∃ x, xs[k]? = some x := ⟨_, List.getElem?_eq_getElem (by have := HL.out; have := HN.out; omega)⟩
        obtain ⟨y, hyk⟩ : ∃ y, ys[k]? = some y := ⟨_, List.getElem?_eq_getElem (by have := HN.out; omega)⟩
        have e1 : u = strV x := by simp [hxk] at hx; exact hx.symm
        have e2 : u' = strV y := by simp [hyk] at hx'; exact hx'.symm
        rw [e1] at hc
        rw [e2] at hc'
        have HXK := Lib.hid hxk
        have HYK := Lib.hid hyk
        have HTK := Lib.hid htk
        have hlt2 : (k : Int) < (n : Int) := by omega
        clear e1 e2 hx hx' hxk hyk htk
        dsimp only [strV] at hc hc'
        by_cases hxy : x = y
        · subst hxy
          have HT2 := Lib.hid (take_eq_of HTK.out HXK.out HYK.out rfl)
          go_wp2_with fail
          go_quiet (fail)
          go_wp2_with fail
          go_roundw
          case rel => exact ⟨k + 1, _, by omega, by go_num, rfl, HT2.out⟩
          case measure => simp [intOf]; omega
        · have hz2 : (x == y) = false := by simpa using hxy
          have hz3 : (x != y) = true := by simpa using hxy
          have HNE := Lib.hid (ne_of_get HXK.out HYK.out hxy)
          have hd := Lib.hid (show decide (xs = ys) = false by simpa using HNE.out)
          clear hxy
          go_wp2_with fail
          go_quiet (fail)
          go_wp2_with fail
          go_ret
          rw [hd.out]
          exact ⟨rfl, _, World.drewN_drewN _ _ _⟩
      · have hd := Lib.hid (show decide (xs = ys) = true by
          have h1 := HL.out
          have h2 := HN.out
          rw [List.take_of_length_le (by omega), List.take_of_length_le (by omega)] at htk
          simpa using htk)
        clear htk
        go_wp2
        go_ret
        rw [hd.out]
        exact ⟨rfl, _, rfl⟩
  · have hz : ((xs.length : Int) != (ys.length : Int)) = true := bneT (by omega)
    have hd := Lib.hid (show decide (xs = ys) = false by
      rw [decide_eq_false_iff_not]; intro h; exact hlen (by rw [h]))
    clear hlen
    go_enter Tryd.func67, Tryd.ntmps67
    go_wp2
    go_ret
    rw [hd.out]
    exact ⟨rfl, 0, rfl⟩

def sameV (v u : GV) : Bool := v.kind == u.kind && (v.n == u.n && (v.s == u.s && (decide (v.i = u.i) && decide (v.l = u.l))))
set_option maxRecDepth 100000 in
set_option maxHeartbeats 1000000 in
theorem sameValue_any (v u : GV) (I L I' L' : Option Addr) (ci cl ci' cl' B : Nat) (w : World) (h : GVarg w B v I L ci cl) (h' : GVarg w B u I' L' ci' cl') (hB : B ≤ w.heap.size) :
    Calls Tryd.prog 44 #[gvV v I L ci cl, gvV u I' L' ci' cl'] w fun e w' => e = .returned (.bool (sameV v u)) ∧ Below w.heap.size w w' := by
  have hb0 := Below.refl w.heap.size w
  have HI := Lib.hid (fun W (hW : Below w.heap.size w W) => equal_int I I' ci ci' B B v.i u.i W (h.ri.below (hW.mono hB)) (h'.ri.below (hW.mono hB)) h.i40 h'.i40)
  have HL := Lib.hid (fun W (hW : Below w.heap.size w W) => equal_str L L' cl cl' B B v.l u.l W (h.rl.below (hW.mono hB)) (h'.rl.below (hW.mono hB)) h.l40 h'.l40)
  obtain ⟨k, n, s, i, l⟩ := v
  obtain ⟨k', n', s', i', l'⟩ := u
  dsimp only [gvV, strV] at *
  clear h h'
  go_enter Tryd.func44, Tryd.ntmps44
  go_wp2_with (first
    | (go_at_call 66; refine (HI.out _ ((hb0.alloc (Nat.le_refl _) _).alloc (by rw [World.size_alloc]; omega) _)).mono ?_; rintro e w1 ⟨rfl, m1, rfl⟩)
    | (go_at_call 67; refine (HL.out _ (below_drewN ((hb0.alloc (Nat.le_refl _) _).alloc (by rw [World.size_alloc]; omega) _) _)).mono ?_; rintro e w2 ⟨rfl, m2, rfl⟩))
  go_ways
  all_goals
    go_ret
    refine ⟨?_, ?_⟩
    · first | (simp [sameV, *]; done) | skip
    · repeat (first | exact hb0 | refine below_drewN ?_ _ | refine Below.alloc ?_ (by simp) _)
end Go.Proofs.YtklihjgmmliejaaDoor.W
