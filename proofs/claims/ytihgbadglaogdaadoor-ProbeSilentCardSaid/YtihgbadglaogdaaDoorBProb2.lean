/- Package probe: follows; slices.EqualFunc over two rows of edges. -/
import Derived.Test.YtihgbadglaogdaaDoorBProb9
import Derived.Test.YtihgbadglaogdaaDoorOV
namespace Go.Proofs.YtihgbadglaogdaaDoor.Pb
set_option linter.unusedVariables false
open Go.RowKit Go.Sort Go.Lib
open Go.Proofs.YtihgbadglaogdaaDoor.W
open Go.Proofs.YtihgbadglaogdaaDoor.V
open Go.Proofs.YtihgbadglaogdaaDoor.O

set_option maxRecDepth 1000000 in
set_option maxHeartbeats 2000000 in
theorem follows_any (r s c r' s' c' : Int) (h p h' p' : Bool) (b b' : Nat) (w : World) (hb : b < 4294967296) (hc : In64 c) :
    Calls Tryd.prog 39 #[.agg #[.int .i64 r, .int .i64 s, .bool h, .bool p, .int .u32 (b : Int), .int .i64 c], .agg #[.int .i64 r', .int .i64 s', .bool h', .bool p', .int .u32 (b' : Int), .int .i64 c']] w
      (PB w (decide (r = r') && (decide (s = s') && okWin b c))) := by
  have KV := Lib.hid (fun W => probeOkWin_any b c W hb hc)
  have hb0 : Below w.heap.size w ((w.alloc (.cells #[.int .i64 r, .int .i64 s, .bool h, .bool p, .int .u32 (b : Int), .int .i64 c] 58)).alloc (.cells #[.int .i64 r', .int .i64 s', .bool h', .bool p', .int .u32 (b' : Int), .int .i64 c'] 58)) := ((Below.refl w.heap.size w).alloc (Nat.le_refl _) _).alloc (by simp) _
  have HB0 := Lib.hid hb0
  obtain ⟨t, ht0⟩ : ∃ t, t = (decide (r = r') && (decide (s = s') && okWin b c)) := ⟨_, rfl⟩
  rw [← ht0]
  have HT := Lib.hid ht0
  clear ht0 hb0
  generalize hok : okWin b c = ok at *
  clear hok hc
  unfold winV at *
  by_cases h1 : r = r'
  case neg =>
    have ht := Lib.hid (show t = false by rw [HT.out]; simp [h1])
    have e1 : (r == r') = false := beqF h1
    clear h1
    go_enter Tryd.func39, Tryd.ntmps39
    go_wp2_with fail
    go_ret
    exact ⟨by rw [ht.out]; rfl, HB0.out⟩
  have e1 : (r == r') = true := beqT h1
  by_cases h2 : s = s'
  case neg =>
    have ht := Lib.hid (show t = false by rw [HT.out]; simp [h2])
    have e2 : (s == s') = false := beqF h2
    clear h1 h2
    go_enter Tryd.func39, Tryd.ntmps39
    go_wp2_with fail
    go_ret
    exact ⟨by rw [ht.out]; rfl, HB0.out⟩
  have e2 : (s == s') = true := beqT h2
  have ht := Lib.hid (show t = ok by rw [HT.out]; simp [h1, h2])
  clear h1 h2 HT
  go_enter Tryd.func39, Tryd.ntmps39
  go_wp2_with (go_at_call 10; (with_reducible refine (KV.out _).mono ?_); rintro e w1 ⟨rfl, b1⟩)
  go_ret
  exact ⟨by rw [ht.out]; rfl, HB0.out.trans (b1.mono HB0.out.size)⟩

set_option maxRecDepth 1000000 in
set_option maxHeartbeats 4000000 in
theorem equalF_any (E E' : Option Addr) (ne nn cE cN : Nat) (es N : List Edge) (w : World) (hE : Reads w w.heap.size 6 E ne (edgesC es)) (hN : Reads w w.heap.size 6 E' nn (edgesC N)) (hne : ne = es.length) (hnn : nn = N.length)
    (hel : ∀ e ∈ es, In64 e.ring ∧ In64 e.subj ∧ In64 e.cnt ∧ e.bits < 4294967296) (h5 : nn ≤ 5) :
    Calls Tryd.prog 38 #[.slice E ne cE, .slice E' nn cN, .func (.func 39) #[] #[]] w (PB w (fitE N es)) := by
  have eg : ∀ args w, (callFunc 39 args).run Tryd.prog w = .ok (.enter 39 args) w := enters_of Tryd.func39 (by kernel_rfl) rfl
  obtain ⟨t, ht0⟩ : ∃ t, t = fitE N es := ⟨_, rfl⟩
  rw [← ht0]
  have HT2 := Lib.hid ht0
  have HNE := Lib.hid hne
  have HNN := Lib.hid hnn
  have RE := Lib.hid (fun W (hW : Below w.heap.size w W) => hE.below hW)
  have RN := Lib.hid (fun W (hW : Below w.heap.size w W) => hN.below hW)
  have HEL := Lib.hid hel
  clear ht0 hne hnn hE hN hel
  by_cases hlen : nn = ne
  case neg =>
    have ht := Lib.hid (show t = false by
      rw [HT2.out]
      cases hf : fitE N es
      · rfl
      · have := fitE_len hf
        rw [← HNE.out, ← HNN.out] at this
        exact absurd this.symm hlen)
    have hlf : ((ne : Int) != (nn : Int)) = true := bneT (by omega)
    clear hlen
    go_enter Tryd.func38, Tryd.ntmps38
    go_wp2_with fail
    go_ret
    exact ⟨by rw [ht.out]; rfl, Below.refl _ _⟩
  have hlf : ((ne : Int) != (nn : Int)) = false := bneF (by omega)
  have HLEN := Lib.hid hlen
  have hne5 : ne ≤ 5 := by omega
  clear hlen
  go_enter Tryd.func38, Tryd.ntmps38
  go_wp2_with fail
  go_loopg [7, 8, 9, 17] ne (fun g _ _ _ s17 wr => ∃ (k : Nat), k + g = ne ∧ s17 = .int .i64 k ∧ Hid (∀ (j : Nat) (n x : Edge), j < k → N[j]? = some n → es[j]? = some x → goodE n x = true) ∧ Hid (Below w.heap.size w wr))
  case atStart => exact ⟨0, by omega, rfl, (fun j n x hj => by omega), Below.refl _ _⟩
  case round =>
    obtain ⟨k, hkg, rfl, HJ, HW⟩ := hrel
    cases gk with
    | zero =>
      have hkz : ¬ ((k : Int) < (ne : Int)) := by omega
      have ht := Lib.hid (show t = true by
        rw [HT2.out]
        refine fitE_of (by rw [← HNE.out, ← HNN.out]; exact HLEN.out) fun j n x h1 h2 => HJ.out j n x ?_ h1 h2
        have := (List.getElem?_eq_some_iff.1 h2).1
        rw [← HNE.out] at this
        omega)
      go_wp2_with fail
      go_ret
      exact ⟨by rw [ht.out]; rfl, HW.out⟩
    | succ gk =>
      have hkz : (k : Int) < (ne : Int) := by omega
      have hkn : (k : Int) < (nn : Int) := by have := HLEN.out; omega
      obtain ⟨x, hx⟩ : ∃ x, es[k]? = some x := ⟨_, List.getElem?_eq_getElem (by have := HNE.out; omega)⟩
      obtain ⟨n, hn⟩ : ∃ x, N[k]? = some x := ⟨_, List.getElem?_eq_getElem (by have := HNN.out; omega)⟩
      obtain ⟨adE, rfl, hEb, -, x0, x1, x2, x3, x4, x5⟩ := edge_at (RE.out _ HW.out) hx
      have hws := HW.out.size
      obtain ⟨adN, rfl, hNb, hNk, y0, y1, y2, y3, y4, y5⟩ := edge_at (RN.out _ HW.out) hn
      have m0 : ∀ o, (wr.alloc o).cell? (adN.add (k * 6)) = some (.int .i64 n.ring) := fun o => (World.cell?_alloc_lt _ _ _ (by rw [hNk]; omega)).trans y0
      have m1 : ∀ o, (wr.alloc o).cell? ⟨(adN.add (k * 6)).block, (adN.add (k * 6)).off + 1, none⟩ = some (.int .i64 n.subj) := fun o => (World.cell?_alloc_lt _ _ _ (by rw [hNk]; omega)).trans y1
      have m2 : ∀ o, (wr.alloc o).cell? ⟨(adN.add (k * 6)).block, (adN.add (k * 6)).off + 2, none⟩ = some (.bool n.heard) := fun o => (World.cell?_alloc_lt _ _ _ (by rw [hNk]; omega)).trans y2
      have m3 : ∀ o, (wr.alloc o).cell? ⟨(adN.add (k * 6)).block, (adN.add (k * 6)).off + 3, none⟩ = some (.bool n.rep) := fun o => (World.cell?_alloc_lt _ _ _ (by rw [hNk]; omega)).trans y3
      have m4 : ∀ o, (wr.alloc o).cell? ⟨(adN.add (k * 6)).block, (adN.add (k * 6)).off + 4, none⟩ = some (.int .u32 (n.bits : Int)) := fun o => (World.cell?_alloc_lt _ _ _ (by rw [hNk]; omega)).trans y4
      have m5 : ∀ o, (wr.alloc o).cell? ⟨(adN.add (k * 6)).block, (adN.add (k * 6)).off + 5, none⟩ = some (.int .i64 n.cnt) := fun o => (World.cell?_alloc_lt _ _ _ (by rw [hNk]; omega)).trans y5
      clear y0 y1 y2 y3 y4 y5 hNk
      have hbit := (HEL.out x (List.mem_of_getElem? hx)).2.2
      have KF := Lib.hid (fun W => (follows_any x.ring x.subj x.cnt n.ring n.subj n.cnt x.heard x.rep n.heard n.rep x.bits n.bits W hbit.2 hbit.1))
      have hG := Lib.hid (show goodE n x = (decide (x.ring = n.ring) && (decide (x.subj = n.subj) && okWin x.bits x.cnt)) from rfl)
      have hno : goodE n x = false → t = false := fun hg => by
        rw [HT2.out]
        cases hf : fitE N es
        · rfl
        · have := fitE_at hf hn hx
          rw [hg] at this
          cases this
      have HX := Lib.hid hx
      have HNX := Lib.hid hn
      rw [← hG.out] at KF
      clear hx hn hG
      have HNO := Lib.hid hno
      clear hno
      generalize hgd : goodE n x = gd at *
      have HGD := Lib.hid hgd
      clear hgd
      cases gd
      · have ht := Lib.hid (HNO.out rfl)
        go_wp2_with (go_at_fn 39; (with_reducible refine (KF.out _).mono ?_); rintro e w4 ⟨rfl, b4⟩)
        go_ret
        exact ⟨by rw [ht.out]; rfl, (((HW.out.alloc hws _).alloc (by simp; omega) _).trans (b4.mono (by simp; omega)))⟩
      · go_wp2_with (go_at_fn 39; (with_reducible refine (KF.out _).mono ?_); rintro e w4 ⟨rfl, b4⟩)
        go_roundg gk
        case measure => omega
        case rel =>
          refine ⟨k + 1, by omega, by go_num, ?_, ?_⟩
          · show ∀ (j : Nat) (n x : Edge), _
            intro j n' x' hj h1 h2
            rcases Nat.lt_or_ge j k with h | h
            · exact HJ.out j n' x' h h1 h2
            · obtain rfl : j = k := by omega
              rw [HX.out] at h2
              rw [HNX.out] at h1
              cases h1; cases h2
              exact HGD.out
          · exact (((HW.out.alloc hws _).alloc (by simp; omega) _).trans (b4.mono (by simp; omega)))
end Go.Proofs.YtihgbadglaogdaaDoor.Pb
