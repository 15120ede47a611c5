/- Package view: ascending lists, places, quorums, valid views. -/
import Derived.Test.YteiolhbjgfkdeaaVRef6
namespace Go.Proofs.Yteiolhbjgfkdeaa.V
set_option linter.unusedVariables false
open Go.RowKit
open Go.Proofs.Yteiolhbjgfkdeaa.W

/-- What the program's loop over a list finds: each element greater than the one ahead, the last one no greater than 1000. -/
def upF (p : Int) : List Int → Bool
  | [] => decide (p ≤ 1000)
  | x :: t => decide (p < x) && upF x t
theorem upF_eq : ∀ {l : List Int} {p : Int}, 0 ≤ p → upF p l = (decide (p ≤ 1000) && riseF p l)
  | [], p, hp => by simp [upF, riseF]
  | x :: t, p, hp => by
    unfold upF riseF
    by_cases h : p < x
    · rw [upF_eq (l := t) (by omega)]
      by_cases h2 : x ≤ 1000
      · have h3 : p ≤ 1000 := by omega
        have h4 : 1 ≤ x := by omega
        simp [isID, h, h2, h3, h4]
      · simp [isID, h2]
    · simp [h]
theorem upF_rising (l : List Int) : upF 0 l = rising l := by rw [upF_eq (Int.le_refl _)]; rfl

/-- A number, and nothing of what was there written. -/
def PI (w : World) (n : Int) (e : Ending) (w' : World) : Prop := e = .returned (.int .i64 n) ∧ Below w.heap.size w w'

set_option maxRecDepth 100000 in
set_option maxHeartbeats 1000000 in
theorem viewAsc_any (L : Option Addr) (c B : Nat) (l : List Int) (m : Int) (w : World) (h : LS w B l L c) (hm : 0 ≤ m ∧ m ≤ 32) :
    Calls Try.prog 43 #[.slice L l.length c, .int .i64 m] w (PB w (decide (1 ≤ l.length) && decide ((l.length : Int) ≤ m) && rising l)) := by
  have hr := h.rd
  have hl40 := h.l40
  have HE := Lib.hid h.el
  clear h
  obtain ⟨hm0, hm1⟩ := hm
  by_cases h1 : l.length = 0
  · have ht := Lib.hid (show (decide (1 ≤ l.length) && decide ((l.length : Int) ≤ m) && rising l) = false by simp [h1])
    have f1 : ((l.length : Int) == 0) = true := beqT (by omega)
    clear h1
    generalize (decide (1 ≤ l.length) && decide ((l.length : Int) ≤ m) && rising l) = r at *
    go_enter Try.func43, Try.ntmps43
    go_wp2_with fail
    go_ret
    exact ⟨retB' ht.out, Below.refl _ _⟩
  have f1 : ((l.length : Int) == 0) = false := beqF (by omega)
  by_cases h2 : (l.length : Int) ≤ m
  · have ht := Lib.hid (show (decide (1 ≤ l.length) && decide ((l.length : Int) ≤ m) && rising l) = upF 0 l by
      rw [upF_rising]; simp [h2]; omega)
    have f2 : ¬ m < (l.length : Int) := by omega
    generalize (decide (1 ≤ l.length) && decide ((l.length : Int) ≤ m) && rising l) = r at *
    clear h1 h2
    go_enter Try.func43, Try.ntmps43
    go_wp2_with fail
    clear f1 f2
    go_loop [5, 19] (fun p j => ∃ (k : Nat) (q : Int), k ≤ l.length ∧ p = .int .i64 q ∧ j = .int .i64 k ∧ upF q (l.drop k) = upF 0 l) (fun _ j => l.length - (intOf j).toNat)
    case atStart => exact ⟨0, 0, Nat.zero_le _, rfl, rfl, rfl⟩
    case round =>
      obtain ⟨k, q, hk, rfl, rfl, hd⟩ := hrel
      by_cases hlt : k < l.length
      · obtain ⟨ad, u, rfl, _, hx, hcell⟩ := hr.at_ hlt
        have hux : u = .int .i64 l[k] := by simp [hlt, intV] at hx; exact hx.symm
        rw [hux] at hcell
        have hdk : l.drop k = l[k] :: l.drop (k + 1) := List.drop_eq_getElem_cons hlt
        generalize l[k] = x at *
        rw [hdk] at hd
        have HD := Lib.hid hd
        have hlt2 : (k : Int) < (l.length : Int) := by omega
        clear hd hdk hx hux
        by_cases hq : x ≤ q
        · have ht2 := Lib.hid (show r = false by rw [ht.out, ← HD.out]; simp [upF]; omega)
          go_wp2_with fail
          go_ret
          exact ⟨retB' ht2.out, Below.refl _ _⟩
        · have ht2 := Lib.hid (show upF x (l.drop (k + 1)) = upF 0 l by rw [← HD.out]; simp [upF]; omega)
          go_wp2_with fail
          go_round
          case rel => exact ⟨k + 1, x, by omega, rfl, by go_num, ht2.out⟩
          case measure => simp [intOf]; omega
      · have ht2 := Lib.hid (show r = decide (q ≤ 1000) by rw [ht.out, ← hd, List.drop_eq_nil_of_le (by omega)]; rfl)
        have hlt2 : ¬ (k : Int) < (l.length : Int) := by omega
        clear hd
        go_wp2_with fail
        go_ret
        exact ⟨retB' ht2.out, Below.refl _ _⟩
  · have ht := Lib.hid (show (decide (1 ≤ l.length) && decide ((l.length : Int) ≤ m) && rising l) = false by simp [h2])
    have f2 : m < (l.length : Int) := by omega
    clear h1 h2
    generalize (decide (1 ≤ l.length) && decide ((l.length : Int) ≤ m) && rising l) = r at *
    go_enter Try.func43, Try.ntmps43
    go_wp2_with fail
    go_ret
    exact ⟨retB' ht.out, Below.refl _ _⟩
set_option maxRecDepth 100000 in
theorem viewValidM_any (L : Option Addr) (c B : Nat) (l : List Int) (w : World) (h : LS w B l L c) (hB : B ≤ w.heap.size) : Calls Try.prog 12 #[.slice L l.length c] w (PB w (validM l)) := by
  have C := Lib.hid (viewAsc_any L c B l 16 w h (by omega))
  have ht := Lib.hid (show (decide (1 ≤ l.length) && decide ((l.length : Int) ≤ 16) && rising l) = validM l by unfold validM; congr 2; exact decide_eq_decide.2 (by omega))
  rw [ht.out] at C
  clear h
  go_enter Try.func12, Try.ntmps12
  go_wp2_with (go_at_call 43; (with_reducible refine C.out.mono ?_); rintro e w1 ⟨rfl, b1⟩)
  go_ret
  exact ⟨rfl, b1⟩
set_option maxRecDepth 100000 in
theorem viewValidC_any (L : Option Addr) (c B : Nat) (l : List Int) (w : World) (h : LS w B l L c) (hB : B ≤ w.heap.size) : Calls Try.prog 14 #[.slice L l.length c] w (PB w (validC l)) := by
  have C := Lib.hid (viewAsc_any L c B l 32 w h (by omega))
  have ht := Lib.hid (show (decide (1 ≤ l.length) && decide ((l.length : Int) ≤ 32) && rising l) = validC l by unfold validC; congr 2; exact decide_eq_decide.2 (by omega))
  rw [ht.out] at C
  clear h
  go_enter Try.func14, Try.ntmps14
  go_wp2_with (go_at_call 43; (with_reducible refine C.out.mono ?_); rintro e w1 ⟨rfl, b1⟩)
  go_ret
  exact ⟨rfl, b1⟩

set_option maxRecDepth 100000 in
set_option maxHeartbeats 400000 in
theorem indexInt_any (L : Option Addr) (c B : Nat) (l : List Int) (id : Int) (w : World) (hr : Reads w B 1 L l.length (l.map intV)) (hl : l.length ≤ 1099511627776) :
    Calls Try.prog 45 #[.slice L l.length c, .int .i64 id] w fun e w' => e = .returned (.int .i64 (place l id)) ∧ ∃ n, w' = w.drewN n := by
  go_enter Try.func45, Try.ntmps45
  go_wp2
  go_loopw [8] (fun j wr => ∃ k n : Nat, k ≤ l.length ∧ j = .int .i64 k ∧ wr = w.drewN n ∧ placeF id k (l.drop k) = place l id) (fun j _ => l.length - (intOf j).toNat)
  case atStart => exact ⟨0, 0, Nat.zero_le _, rfl, rfl, rfl⟩
  case round =>
    obtain ⟨k, n, hk, rfl, rfl, hd⟩ := hrel
    by_cases hlt : k < l.length
    · obtain ⟨ad, u, rfl, _, hx, hcell⟩ := hr.at_ hlt
      have hux : u = .int .i64 l[k] := by simp [hlt, intV] at hx; exact hx.symm
      rw [hux] at hcell
      have hdk : l.drop k = l[k] :: l.drop (k + 1) := List.drop_eq_getElem_cons hlt
      generalize l[k] = x at *
      rw [hdk] at hd
      have HD := Lib.hid hd
      have hlt2 : (k : Int) < (l.length : Int) := by omega
      clear hd hdk hx hux
      by_cases hxe : id = x
      · have fe : (id == x) = true := beqT hxe
        have ht := Lib.hid (show (k : Int) = place l id by rw [← HD.out]; simp [placeF, hxe])
        clear hxe
        go_wp2_with fail
        go_ret
        exact ⟨retI64 ht.out, _, rfl⟩
      · have fe : (id == x) = false := beqF hxe
        have ht := Lib.hid (show placeF id (k + 1) (l.drop (k + 1)) = place l id by rw [← HD.out, placeF, if_neg (Ne.symm hxe)])
        clear hxe
        go_wp2_with fail
        go_roundw
        case rel => exact ⟨k + 1, _, by omega, by go_num, rfl, ht.out⟩
        case measure => simp [intOf]; omega
    · have ht := Lib.hid (show (-1 : Int) = place l id by rw [← hd, List.drop_eq_nil_of_le (by omega)]; rfl)
      have hlt2 : ¬ (k : Int) < (l.length : Int) := by omega
      clear hd
      go_wp2
      go_ret
      exact ⟨retI64 ht.out, _, rfl⟩
set_option maxRecDepth 100000 in
theorem viewPlace_any (L : Option Addr) (c B : Nat) (l : List Int) (id : Int) (w : World) (h : LS w B l L c) (hB : B ≤ w.heap.size) : Calls Try.prog 18 #[.slice L l.length c, .int .i64 id] w (PI w (place l id)) := by
  have C := Lib.hid (indexInt_any L c B l id w h.rd h.l40)
  clear h
  go_enter Try.func18, Try.ntmps18
  go_wp2_with (go_at_call 45; (with_reducible refine C.out.mono ?_); rintro e w1 ⟨rfl, n, rfl⟩)
  go_ret
  exact ⟨rfl, below_drewN' (Below.refl _ _) n⟩
set_option maxRecDepth 100000 in
theorem viewContains_any (L : Option Addr) (c B : Nat) (l : List Int) (id : Int) (w : World) (h : LS w B l L c) (hB : B ≤ w.heap.size) : Calls Try.prog 16 #[.slice L l.length c, .int .i64 id] w (PB w (hasB l id)) := by
  have C := Lib.hid (viewPlace_any L c B l id w h hB)
  have ht := Lib.hid (show hasB l id = decide (0 ≤ place l id) from rfl)
  clear h
  generalize place l id = p at *
  go_enter Try.func16, Try.ntmps16
  go_wp2_with (go_at_call 18; (with_reducible refine C.out.mono ?_); rintro e w1 ⟨rfl, b1⟩)
  go_ret
  exact ⟨retB' ht.out, b1⟩

set_option maxRecDepth 100000 in
theorem viewPoss_any (n : Int) (w : World) (hn : In64 n) : Calls Try.prog 46 #[.int .i64 n] w fun e w' => e = .returned (.bool (decide (1 ≤ n) && decide (n ≤ 16))) ∧ w = w' := by
  obtain ⟨h1, h2⟩ := hn
  by_cases ha : 1 ≤ n
  · have ht := Lib.hid (show (decide (1 ≤ n) && decide (n ≤ 16)) = decide (n ≤ 16) by simp [ha])
    generalize (decide (1 ≤ n) && decide (n ≤ 16)) = r at *
    go_enter Try.func46, Try.ntmps46
    go_wp2
    go_ret
    exact ⟨retB' ht.out, rfl⟩
  · have ht := Lib.hid (show (decide (1 ≤ n) && decide (n ≤ 16)) = false by simp [ha])
    generalize (decide (1 ≤ n) && decide (n ≤ 16)) = r at *
    go_enter Try.func46, Try.ntmps46
    go_wp2
    go_ret
    exact ⟨retB' ht.out, rfl⟩
set_option maxRecDepth 100000 in
theorem viewMaj_any (n : Int) (w : World) (hn : In64 n) : Calls Try.prog 20 #[.int .i64 n] w (PI w (maj n)) := by
  have CP := viewPoss_any n w hn
  obtain ⟨h1, h2⟩ := hn
  by_cases ha : n < 1 ∨ 16 < n
  · have hf : (decide (1 ≤ n) && decide (n ≤ 16)) = false := by rcases ha with ha | ha <;> simp <;> omega
    rw [hf] at CP
    have C := Lib.hid CP
    have ht := Lib.hid (show (0 : Int) = maj n by unfold maj; rw [if_pos ha])
    clear CP hf ha
    go_enter Try.func20, Try.ntmps20
    go_wp2_with (go_at_call 46; (with_reducible refine C.out.mono ?_); rintro e w1 ⟨rfl, rfl⟩)
    go_ret
    exact ⟨retI64 ht.out, Below.refl _ _⟩
  · have hf : (decide (1 ≤ n) && decide (n ≤ 16)) = true := by simp; omega
    rw [hf] at CP
    have C := Lib.hid CP
    have ht := Lib.hid (show n / 2 + 1 = maj n by unfold maj; rw [if_neg ha])
    have n1 : 1 ≤ n := by omega
    have n2 : n ≤ 16 := by omega
    clear CP hf ha
    go_enter Try.func20, Try.ntmps20
    go_wp2_with (go_at_call 46; (with_reducible refine C.out.mono ?_); rintro e w1 ⟨rfl, rfl⟩)
    go_ret
    exact ⟨retI64 (by rw [← ht.out]; try omega), Below.refl _ _⟩
set_option maxRecDepth 100000 in
theorem viewFast_any (n : Int) (w : World) (hn : In64 n) : Calls Try.prog 22 #[.int .i64 n] w (PI w (fastQ n)) := by
  have CP := viewPoss_any n w hn
  obtain ⟨h1, h2⟩ := hn
  by_cases ha : n < 1 ∨ 16 < n
  · have hf : (decide (1 ≤ n) && decide (n ≤ 16)) = false := by rcases ha with ha | ha <;> simp <;> omega
    rw [hf] at CP
    have C := Lib.hid CP
    have ht := Lib.hid (show (0 : Int) = fastQ n by unfold fastQ; rw [if_pos ha])
    clear CP hf ha
    go_enter Try.func22, Try.ntmps22
    go_wp2_with (go_at_call 46; (with_reducible refine C.out.mono ?_); rintro e w1 ⟨rfl, rfl⟩)
    go_ret
    exact ⟨retI64 ht.out, Below.refl _ _⟩
  · have hf : (decide (1 ≤ n) && decide (n ≤ 16)) = true := by simp; omega
    rw [hf] at CP
    have C := Lib.hid CP
    have ht := Lib.hid (show n - (n - 1) / 4 = fastQ n by unfold fastQ; rw [if_neg ha])
    have n1 : 1 ≤ n := by omega
    have n2 : n ≤ 16 := by omega
    clear CP hf ha
    go_enter Try.func22, Try.ntmps22
    go_wp2_with (go_at_call 46; (with_reducible refine C.out.mono ?_); rintro e w1 ⟨rfl, rfl⟩)
    go_ret
    exact ⟨retI64 (by rw [← ht.out]; try omega), Below.refl _ _⟩

set_option maxRecDepth 100000 in
set_option maxHeartbeats 400000 in
theorem viewValid_any (num : Int) (l : List Int) (A : Option Addr) (c B : Nat) (w : World) (h : VW w B num l A c) (hB : B ≤ w.heap.size) :
    Calls Try.prog 27 #[vwV num A l.length c] w (PB w (validV num l)) := by
  have hb0 := (Below.refl w.heap.size w).alloc (Nat.le_refl _) (.cells #[.int .i64 num, .slice A l.length c] 31)
  have CM := Lib.hid (fun W (hW : Below w.heap.size w W) => viewValidM_any A c w.heap.size l W ((h.more hB).below hW).ls hW.size)
  have hs0 := Lib.hid (show (w.alloc (.cells #[.int .i64 num, .slice A l.length c] 31)).heap.size = w.heap.size + 1 by simp)
  obtain ⟨n1, n2⟩ := h.num64
  dsimp only [vwV]
  by_cases h1 : 0 ≤ num
  · by_cases h2 : num ≤ 1099511627776
    · have ht := Lib.hid (show validV num l = validM l by simp [validV, h1, h2])
      clear h
      go_enter Try.func27, Try.ntmps27
      go_wp2_with (go_at_call 12; (with_reducible refine (CM.out _ hb0).mono ?_); rintro e w1 ⟨rfl, b1⟩)
      go_ret
      exact ⟨retB' ht.out, hb0.trans (b1.mono (by rw [hs0.out]; omega))⟩
    · have ht := Lib.hid (show validV num l = false by simp [validV, h1, h2])
      clear h CM
      go_enter Try.func27, Try.ntmps27
      go_wp2_with fail
      go_ret
      exact ⟨retB' ht.out, hb0⟩
  · have ht := Lib.hid (show validV num l = false by simp [validV, h1])
    clear h CM
    go_enter Try.func27, Try.ntmps27
    go_wp2_with fail
    go_ret
    exact ⟨retB' ht.out, hb0⟩
end Go.Proofs.Yteiolhbjgfkdeaa.V
