/- The reference of layer 3: identifiers, ascending lists, places, quorums. -/
import Derived.Test.YteiolhbjgfkdeaaVSpec
import Derived.Test.YteiolhbjgfkdeaaWRefL
namespace Go.Proofs.Yteiolhbjgfkdeaa.V
set_option linter.unusedVariables false
open Go.RowKit
open Go.Proofs.Yteiolhbjgfkdeaa.W

def GivesB (w : World) (b : Bool) (e : Ending) (w' : World) : Prop := e = .returned (.bool b) ∧ ∃ k, w' = w.drewN k
theorem retB' {a b : Bool} (h : b = a) : Ending.returned (.bool a) = Ending.returned (.bool b) := by rw [h]
theorem quiet_left {P : Program} {f : FuncId} {args : Array Value} {w : World} {k n : Nat} {v : Value}
    (h : Calls P f args (w.drewN (k + n)) fun e w' => e = .returned v ∧ w.drewN (k + n) = w') : Calls P f args (w.drewN (k + n)) fun e w'' => e = .returned v ∧ ∃ m, w'' = w.drewN (k + m) :=
  h.mono fun _ _ ⟨he, hm⟩ => ⟨he, n, hm.symm⟩
set_option maxRecDepth 100000 in
theorem refIsID_any (x : Int) (w : World) (hx : In64 x) : Calls Try.prog 61 #[.int .i64 x] w fun e w' => e = .returned (.bool (isID x)) ∧ w = w' := by
  obtain ⟨h1, h2⟩ := hx
  by_cases ha : 1 ≤ x
  · by_cases hb : x ≤ 1000
    · have hr := Lib.hid (show isID x = true by simp [isID, ha, hb])
      go_enter Try.func61, Try.ntmps61
      go_wp2
      go_ret
      exact ⟨retB' hr.out, rfl⟩
    · have hr := Lib.hid (show isID x = false by simp [isID, ha, hb])
      go_enter Try.func61, Try.ntmps61
      go_wp2
      go_ret
      exact ⟨retB' hr.out, rfl⟩
  · have hr := Lib.hid (show isID x = false by simp [isID, ha])
    go_enter Try.func61, Try.ntmps61
    go_wp2
    go_ret
    exact ⟨retB' hr.out, rfl⟩
set_option maxRecDepth 100000 in
set_option maxHeartbeats 1000000 in
theorem refRising_any (L : Option Addr) (c B : Nat) (l : List Int) (w : World) (hr : Reads w B 1 L l.length (l.map intV)) (hl : l.length ≤ 1099511627776) (hel : ∀ x ∈ l, In64 x) :
    Calls Try.prog 44 #[.slice L l.length c] w (GivesB w (rising l)) := by
  go_enter Try.func44, Try.ntmps44
  go_wp2
  go_loopw [3] (fun j wr => ∃ (k m : Nat) (p : Int), k ≤ l.length ∧ j = .int .i64 k ∧ wr = w.drewN m ∧ (k = 0 → p = 0) ∧ (∀ q, k = q + 1 → l[q]? = some p) ∧ riseF p (l.drop k) = rising l) (fun j _ => l.length - (intOf j).toNat)
  case atStart => exact ⟨0, 0, 0, Nat.zero_le _, rfl, rfl, fun _ => rfl, fun q h => by omega, rfl⟩
  case round =>
    obtain ⟨k, m, p, hk, rfl, rfl, hp0, hpk, hd⟩ := hrel
    by_cases hlt : k < l.length
    · obtain ⟨ad, u, rfl, _, hx, hcell⟩ := hr.at_ hlt
      have hux : u = .int .i64 l[k] := by simp [hlt, intV] at hx; exact hx.symm
      rw [hux] at hcell
      have hdk : l.drop k = l[k] :: l.drop (k + 1) := List.drop_eq_getElem_cons hlt
      have hgk : l[k]? = some l[k] := List.getElem?_eq_getElem hlt
      have hxs := hel l[k] (List.getElem_mem hlt)
      generalize l[k] = x at *
      rw [hdk] at hd
      have HD := Lib.hid hd
      have HG := Lib.hid hgk
      have CI := Lib.hid (fun n => refIsID_any x (w.drewN (m + n)) hxs)
      have hlt2 : (k : Int) < (l.length : Int) := by omega
      clear hd hdk hx hux hgk
      cases hid : isID x
      · have ht := Lib.hid (show rising l = false by rw [← HD.out]; simp [riseF, hid])
        rw [hid] at CI
        go_wp2_with fail
        go_quiet (first | (go_at_call 61; with_reducible exact quiet_left (CI.out _)))
        go_wp2_with fail
        go_ret
        exact ⟨retB' ht.out, _, World.drewN_drewN _ _ _⟩
      · rw [hid] at CI
        have hx1 := isID_iff.1 hid
        by_cases hk0 : k = 0
        · subst hk0
          have hp : p = 0 := hp0 rfl
          have hcell0 : w.cell? ad = some (.int .i64 x) := by simpa [Addr.add] using hcell
          have hpos : (0 : Int) < (l.length : Int) := by omega
          clear hcell
          have ht := Lib.hid (show riseF x (l.drop 1) = rising l by rw [← HD.out, hp]; simp [riseF, hid]; omega)
          go_wp2_with fail
          go_quiet (first | (go_at_call 61; with_reducible exact quiet_left (CI.out _)))
          go_wp2_with fail
          go_roundw
          case rel => exact ⟨1, _, x, by omega, by go_num, rfl, fun h => by omega, fun q hq => by obtain rfl : q = 0 := (by omega); exact HG.out, ht.out⟩
          case measure => simp [intOf]; omega
        · obtain ⟨q, hkq⟩ : ∃ q, k = q + 1 := ⟨k - 1, by omega⟩
          have hgp := hpk q hkq
          have wq : IntKind.i64.wrap ((k : Int) - 1) = (q : Int) := by rw [IntWalk.i64_in _ (by omega)]; omega
          have hkp : (0 : Int) < (k : Int) := by omega
          have hkn : 0 < k := by omega
          have hkd : decide (0 < k) = true := by simpa using hkn
          have hql : (q : Int) < (l.length : Int) := by omega
          have hql2 : q < l.length := by omega
          obtain ⟨ad', u', hA, _, hx', hcell'⟩ := hr.at_ (k := q) (by omega)
          obtain rfl := Option.some.inj hA
          have hu' : u' = .int .i64 p := by simp [hgp, intV] at hx'; exact hx'.symm
          rw [hu'] at hcell'
          clear hx' hu' hp0 hpk hkq hk0
          by_cases hle : x ≤ p
          · have ht := Lib.hid (show rising l = false by rw [← HD.out]; simp [riseF]; omega)
            go_wp2_with fail
            go_quiet (first | (go_at_call 61; with_reducible exact quiet_left (CI.out _)))
            go_wp2_with fail
            go_ret
            exact ⟨retB' ht.out, _, World.drewN_drewN _ _ _⟩
          · have ht := Lib.hid (show riseF x (l.drop (k + 1)) = rising l by rw [← HD.out]; simp [riseF, hid]; omega)
            go_wp2_with fail
            go_quiet (first | (go_at_call 61; with_reducible exact quiet_left (CI.out _)))
            go_wp2_with fail
            go_roundw
            case rel => exact ⟨k + 1, _, x, by omega, by go_num, rfl, fun h => by omega, fun r hq => by obtain rfl : r = k := (by omega); exact HG.out, ht.out⟩
            case measure => simp [intOf]; omega
    · have ht := Lib.hid (show rising l = true by rw [← hd, List.drop_eq_nil_of_le (by omega)]; rfl)
      have hlt2 : ¬ (k : Int) < (l.length : Int) := by omega
      clear hd
      go_wp2
      go_ret
      exact ⟨retB' ht.out, _, rfl⟩
set_option maxRecDepth 100000 in
set_option maxHeartbeats 400000 in
theorem refValidM_any (L : Option Addr) (c B : Nat) (l : List Int) (w : World) (hr : Reads w B 1 L l.length (l.map intV)) (hl : l.length ≤ 1099511627776) (hel : ∀ x ∈ l, In64 x) :
    Calls Try.prog 13 #[.slice L l.length c] w (GivesB w (validM l)) := by
  have CR := Lib.hid (refRising_any L c B l w hr hl hel)
  by_cases h1 : 1 ≤ l.length
  · by_cases h2 : l.length ≤ 16
    · have ht := Lib.hid (show validM l = rising l by simp [validM, h1, h2])
      have f1 : (1 : Int) ≤ (l.length : Int) := by omega
      have f2 : (l.length : Int) ≤ 16 := by omega
      clear hr hel
      go_enter Try.func13, Try.ntmps13
      go_wp2_with (go_at_call 44; refine CR.out.mono ?_; rintro e w1 ⟨rfl, q, rfl⟩)
      go_ret
      exact ⟨retB' ht.out, _, rfl⟩
    · have ht := Lib.hid (show validM l = false by simp [validM, h1, h2])
      have f1 : (1 : Int) ≤ (l.length : Int) := by omega
      have f2 : ¬ (l.length : Int) ≤ 16 := by omega
      clear hr hel CR
      go_enter Try.func13, Try.ntmps13
      go_wp2_with fail
      go_ret
      exact ⟨retB' ht.out, 0, rfl⟩
  · have ht := Lib.hid (show validM l = false by simp [validM, h1])
    have f1 : ¬ (1 : Int) ≤ (l.length : Int) := by omega
    clear hr hel CR
    go_enter Try.func13, Try.ntmps13
    go_wp2_with fail
    go_ret
    exact ⟨retB' ht.out, 0, rfl⟩
set_option maxRecDepth 100000 in
set_option maxHeartbeats 400000 in
theorem refValidC_any (L : Option Addr) (c B : Nat) (l : List Int) (w : World) (hr : Reads w B 1 L l.length (l.map intV)) (hl : l.length ≤ 1099511627776) (hel : ∀ x ∈ l, In64 x) :
    Calls Try.prog 15 #[.slice L l.length c] w (GivesB w (validC l)) := by
  have CR := Lib.hid (refRising_any L c B l w hr hl hel)
  by_cases h1 : 1 ≤ l.length
  · by_cases h2 : l.length ≤ 32
    · have ht := Lib.hid (show validC l = rising l by simp [validC, h1, h2])
      have f1 : (1 : Int) ≤ (l.length : Int) := by omega
      have f2 : (l.length : Int) ≤ 32 := by omega
      clear hr hel
      go_enter Try.func15, Try.ntmps15
      go_wp2_with (go_at_call 44; refine CR.out.mono ?_; rintro e w1 ⟨rfl, q, rfl⟩)
      go_ret
      exact ⟨retB' ht.out, _, rfl⟩
    · have ht := Lib.hid (show validC l = false by simp [validC, h1, h2])
      have f1 : (1 : Int) ≤ (l.length : Int) := by omega
      have f2 : ¬ (l.length : Int) ≤ 32 := by omega
      clear hr hel CR
      go_enter Try.func15, Try.ntmps15
      go_wp2_with fail
      go_ret
      exact ⟨retB' ht.out, 0, rfl⟩
  · have ht := Lib.hid (show validC l = false by simp [validC, h1])
    have f1 : ¬ (1 : Int) ≤ (l.length : Int) := by omega
    clear hr hel CR
    go_enter Try.func15, Try.ntmps15
    go_wp2_with fail
    go_ret
    exact ⟨retB' ht.out, 0, rfl⟩
theorem retI64 {a b : Int} (h : a = b) : Ending.returned (.int .i64 a) = Ending.returned (.int .i64 b) := by rw [h]
set_option maxRecDepth 100000 in
set_option maxHeartbeats 400000 in
theorem refPlace_any (L : Option Addr) (c B : Nat) (l : List Int) (id : Int) (w : World) (hr : Reads w B 1 L l.length (l.map intV)) (hl : l.length ≤ 1099511627776) :
    Calls Try.prog 19 #[.slice L l.length c, .int .i64 id] w fun e w' => e = .returned (.int .i64 (place l id)) ∧ w = w' := by
  go_enter Try.func19, Try.ntmps19
  go_wp2
  go_loop [5] (fun j => ∃ k : Nat, k ≤ l.length ∧ j = .int .i64 k ∧ placeF id k (l.drop k) = place l id) (fun j => l.length - (intOf j).toNat)
  case atStart => exact ⟨0, Nat.zero_le _, rfl, rfl⟩
  case round =>
    obtain ⟨k, hk, rfl, hd⟩ := hrel
    by_cases hlt : k < l.length
    · obtain ⟨ad, u, rfl, _, hx, hcell⟩ := hr.at_ hlt
      have hux : u = .int .i64 l[k] := by simp [hlt, intV] at hx; exact hx.symm
      rw [hux] at hcell
      have hdk : l.drop k = l[k] :: l.drop (k + 1) := List.drop_eq_getElem_cons hlt
      generalize l[k] = x at *
      rw [hdk] at hd
      have HD := Lib.hid hd
      have hlt2 : (k : Int) < (l.length : Int) := by omega
      clear hd hdk hx hux
      by_cases hxe : x = id
      · subst hxe
        have ht := Lib.hid (show (k : Int) = place l x by rw [← HD.out]; simp [placeF])
        go_wp2_with fail
        go_ret
        exact ⟨retI64 ht.out, rfl⟩
      · have fe : (x == id) = false := beqF hxe
        have ht := Lib.hid (show placeF id (k + 1) (l.drop (k + 1)) = place l id by rw [← HD.out, placeF, if_neg hxe])
        clear hxe
        go_wp2_with fail
        go_round
        case rel => exact ⟨k + 1, by omega, by go_num, ht.out⟩
        case measure => simp [intOf]; omega
    · have ht := Lib.hid (show (-1 : Int) = place l id by rw [← hd, List.drop_eq_nil_of_le (by omega)]; rfl)
      have hlt2 : ¬ (k : Int) < (l.length : Int) := by omega
      clear hd
      go_wp2
      go_ret
      exact ⟨retI64 ht.out, rfl⟩
set_option maxRecDepth 100000 in
theorem refContains_any (L : Option Addr) (c B : Nat) (l : List Int) (id : Int) (w : World) (hr : Reads w B 1 L l.length (l.map intV)) (hl : l.length ≤ 1099511627776) :
    Calls Try.prog 17 #[.slice L l.length c, .int .i64 id] w fun e w' => e = .returned (.bool (hasB l id)) ∧ w = w' := by
  have C := Lib.hid (refPlace_any L c B l id w hr hl)
  by_cases h : 0 ≤ place l id
  · have ht := Lib.hid (show hasB l id = true by simpa [hasB] using h)
    generalize place l id = p at *
    go_enter Try.func17, Try.ntmps17
    go_wp2_with (go_at_call 19; refine C.out.mono ?_; rintro e w1 ⟨rfl, rfl⟩)
    go_ret
    exact ⟨retB' ht.out, rfl⟩
  · have ht := Lib.hid (show hasB l id = false by simpa [hasB] using h)
    generalize place l id = p at *
    go_enter Try.func17, Try.ntmps17
    go_wp2_with (go_at_call 19; refine C.out.mono ?_; rintro e w1 ⟨rfl, rfl⟩)
    go_ret
    exact ⟨retB' (by rw [ht.out]; exact (decide_eq_false (by omega)).symm), rfl⟩
set_option maxRecDepth 100000 in
theorem refMaj_any (n : Int) (w : World) (hn : In64 n) : Calls Try.prog 21 #[.int .i64 n] w fun e w' => e = .returned (.int .i64 (maj n)) ∧ w = w' := by
  obtain ⟨h1, h2⟩ := hn
  by_cases ha : n < 1
  · have ht := Lib.hid (show (0 : Int) = maj n by unfold maj; rw [if_pos (.inl ha)])
    go_enter Try.func21, Try.ntmps21
    go_wp2
    go_ret
    exact ⟨retI64 ht.out, rfl⟩
  · by_cases hb : 16 < n
    · have ht := Lib.hid (show (0 : Int) = maj n by unfold maj; rw [if_pos (.inr hb)])
      go_enter Try.func21, Try.ntmps21
      go_wp2
      go_ret
      exact ⟨retI64 ht.out, rfl⟩
    · have ht := Lib.hid (show n / 2 + 1 = maj n by unfold maj; rw [if_neg (by omega)])
      go_enter Try.func21, Try.ntmps21
      go_wp2
      go_ret
      exact ⟨retI64 (by rw [← ht.out]; try omega), rfl⟩
set_option maxRecDepth 100000 in
theorem refFast_any (n : Int) (w : World) (hn : In64 n) : Calls Try.prog 23 #[.int .i64 n] w fun e w' => e = .returned (.int .i64 (fastQ n)) ∧ w = w' := by
  obtain ⟨h1, h2⟩ := hn
  by_cases ha : n < 1
  · have ht := Lib.hid (show (0 : Int) = fastQ n by unfold fastQ; rw [if_pos (.inl ha)])
    go_enter Try.func23, Try.ntmps23
    go_wp2
    go_ret
    exact ⟨retI64 ht.out, rfl⟩
  · by_cases hb : 16 < n
    · have ht := Lib.hid (show (0 : Int) = fastQ n by unfold fastQ; rw [if_pos (.inr hb)])
      go_enter Try.func23, Try.ntmps23
      go_wp2
      go_ret
      exact ⟨retI64 ht.out, rfl⟩
    · have ht := Lib.hid (show n - (n - 1) / 4 = fastQ n by unfold fastQ; rw [if_neg (by omega)])
      go_enter Try.func23, Try.ntmps23
      go_wp2
      go_ret
      exact ⟨retI64 (by rw [← ht.out]; try omega), rfl⟩
end Go.Proofs.Yteiolhbjgfkdeaa.V
