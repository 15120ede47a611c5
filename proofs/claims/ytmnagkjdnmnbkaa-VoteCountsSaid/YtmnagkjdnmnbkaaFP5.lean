/- Package fastvote: where a member's ballot stands (slices.BinarySearchFunc). -/
import Derived.Test.YtmnagkjdnmnbkaaFP4
import Derived.Shelf.Abstract
namespace Go.Proofs.Ytmnagkjdnmnbkaa.Fv
set_option linter.unusedVariables false
set_option linter.unusedSimpArgs false
open Go.RowKit
open Go.Proofs.Ytmnagkjdnmnbkaa.W
open Go.Proofs.Ytmnagkjdnmnbkaa.V

/-- Where the ballot of a member stands, or would stand. -/
structure PlaceM (s : List Pbl) (m : Int) (p : Nat) (f : Bool) : Prop where
  le : p ≤ s.length
  lo : ∀ (i : Nat) (x : Pbl), i < p → s[i]? = some x → x.mem < m
  hi : ∀ (i : Nat) (x : Pbl), p ≤ i → s[i]? = some x → ¬ x.mem < m
  hit : f = true → ∃ x, s[p]? = some x ∧ x.mem = m
  no : f = false → ∀ x, s[p]? = some x → x.mem ≠ m
section
variable {s : List Pbl} {m : Int} {p : Nat} {f : Bool}
theorem ascM_lt (h : AscM (s.map Pbl.bal)) {i j : Nat} {x y : Pbl} (hij : i < j) (hx : s[i]? = some x) (hy : s[j]? = some y) : x.mem < y.mem := by
  have hx := bal_get hx
  have hy := bal_get hy
  obtain ⟨hi, e1⟩ := List.getElem?_eq_some_iff.1 hx
  obtain ⟨hj, e2⟩ := List.getElem?_eq_some_iff.1 hy
  have := (List.pairwise_iff_getElem.1 h) i j hi hj hij
  rw [e1, e2] at this
  exact this
theorem loM_step (hs : AscM (s.map Pbl.bal)) {h : Nat} {x : Pbl} (hx : s[h]? = some x) (hl : x.mem < m) : ∀ (i : Nat) (y : Pbl), i < h + 1 → s[i]? = some y → y.mem < m := fun i y hi hy => by
  by_cases e : i = h
  · subst e; rw [hx] at hy; cases hy; exact hl
  · have := ascM_lt hs (i := i) (j := h) (by omega) hy hx
    omega
theorem hiM_step (hs : AscM (s.map Pbl.bal)) {h : Nat} {x : Pbl} (hx : s[h]? = some x) (hl : ¬ x.mem < m) : ∀ (i : Nat) (y : Pbl), h ≤ i → s[i]? = some y → ¬ y.mem < m := fun i y hi hy => by
  by_cases e : i = h
  · subst e; rw [hx] at hy; cases hy; exact hl
  · have := ascM_lt hs (i := h) (j := i) (by omega) hx hy
    omega
theorem PlaceM.has (h : PlaceM s m p f) (hs : AscM (s.map Pbl.bal)) : hasM (s.map Pbl.bal) m = f := by
  cases f
  · rw [← Bool.not_eq_true]
    intro hh
    obtain ⟨b, hb, e⟩ := hasM_iff.1 hh
    obtain ⟨x, hx, rfl⟩ := List.mem_map.1 hb
    obtain ⟨i, hi⟩ := List.mem_iff_getElem?.1 hx
    have e : x.mem = m := e
    rcases Nat.lt_trichotomy i p with h1 | h1 | h1
    · have := h.lo i x h1 hi; omega
    · subst h1; exact h.no rfl x hi e
    · obtain ⟨y, hy⟩ : ∃ y, s[p]? = some y := ⟨_, List.getElem?_eq_getElem (by have := (List.getElem?_eq_some_iff.1 hi).1; omega)⟩
      have h2 := ascM_lt hs h1 hy hi
      exact h.hi p y (Nat.le_refl _) hy (by omega)
  · obtain ⟨x, hx, e⟩ := h.hit rfl
    exact hasM_iff.2 ⟨x.bal, List.mem_map.2 ⟨x, List.mem_of_getElem? hx, rfl⟩, e⟩
theorem insP_place {b : Pbl} : ∀ {s : List Pbl} {p : Nat}, p ≤ s.length → (∀ (i : Nat) (x : Pbl), i < p → s[i]? = some x → x.mem < b.mem) → (∀ x, s[p]? = some x → b.mem < x.mem) → insP b s = s.take p ++ b :: s.drop p
  | [], p, h, _, _ => by
    have : p = 0 := by simpa using h
    subst this; rfl
  | x :: t, 0, _, _, h2 => by
    unfold insP
    rw [if_pos (h2 x rfl)]; rfl
  | x :: t, p + 1, h, h1, h2 => by
    have := h1 0 x (by omega) rfl
    unfold insP
    rw [if_neg (by omega)]
    rw [insP_place (s := t) (p := p) (by simpa using h) (fun i y hi hy => h1 (i + 1) y (by omega) (by simpa using hy)) fun y hy => h2 y (by simpa using hy)]
    rfl
theorem PlaceM.put {b : Pbl} (h : PlaceM s b.mem p false) : insP b s = s.take p ++ [b] ++ s.drop p := by
  rw [insP_place h.le h.lo fun x hx => by
    have h1 := h.hi p x (Nat.le_refl _) hx
    have h2 := h.no rfl x hx
    omega]
  simp
end
def OutSr (w : World) (s : List Pbl) (m : Int) (e : Ending) (w' : World) : Prop := ∃ (p : Nat) (f : Bool), e = .returned (.tuple #[.int .i64 p, .bool f]) ∧ PlaceM s m p f ∧ Below w.heap.size w w'
set_option maxRecDepth 1000000 in
set_option maxHeartbeats 4000000 in
theorem fvSearch_any (E : Option Addr) (cE B n : Nat) (s : List Pbl) (m : Int) (w : World) (hr : Reads w B 2 E n (balsC s)) (hn : n = s.length) (hl : n ≤ 1099511627776) (hB : B ≤ w.heap.size) (hs : AscM (s.map Pbl.bal)) :
    Calls Try.prog 26 #[.slice E n cE, .int .i64 m, .func (.func 27) #[] #[]] w (OutSr w s m) := by
  have eg : ∀ args w, (callFunc 27 args).run Try.prog w = .ok (.enter 27 args) w := enters_of Try.func27 (by kernel_rfl) rfl
  have RS := Lib.hid (fun W (hW : Below w.heap.size w W) => (hr.more hB).below hW)
  have KC := Lib.hid (fun xm xp xn xc W => cmpM_any xm m xp xn xc W)
  have HLO := Lib.hid (fun h x => loM_step (m := m) (x := x) (h := h) hs)
  have HHI := Lib.hid (fun h x => hiM_step (m := m) (x := x) (h := h) hs)
  have HN := Lib.hid hn
  clear hr hn hB hs
  go_enter Try.func26, Try.ntmps26
  go_wp2_with fail
  go_loopg [9, 10, 11] n (fun gk s9 s10 _ wr => ∃ (i j : Nat), i ≤ j ∧ j ≤ n ∧ j - i ≤ gk ∧ s9 = .int .i64 i ∧ s10 = .int .i64 j ∧ Hid (Below w.heap.size w wr) ∧ Hid (∀ (i' : Nat) (x : Pbl), i' < i → s[i']? = some x → x.mem < m) ∧ Hid (∀ (i' : Nat) (x : Pbl), j ≤ i' → s[i']? = some x → ¬ x.mem < m))
  case atStart => exact ⟨0, n, Nat.zero_le _, Nat.le_refl _, by omega, rfl, rfl, Below.refl _ _, (fun m x h => absurd h (by omega)), fun m x h hx => (by have := (List.getElem?_eq_some_iff.1 hx).1; have := HN.out; omega)⟩
  case round =>
    obtain ⟨i, j, hij, hjn, hg, rfl, rfl, HW, HI, HJ⟩ := hrel
    rcases Nat.lt_or_ge i j with hlt | hge
    · obtain ⟨h, hh⟩ : ∃ h, h = (i + j) / 2 := ⟨_, rfl⟩
      have h1 : i ≤ h := by omega
      have h2 : h < j := by omega
      have hlt' : (i : Int) < (j : Int) := by omega
      have wij : IntKind.i64.wrap ((i : Int) + (j : Int)) = ((i + j : Nat) : Int) := by rw [IntWalk.i64_in _ (by omega)]; omega
      obtain ⟨ij, hij2⟩ : ∃ m, m = i + j := ⟨_, rfl⟩
      rw [← hij2] at wij hh
      have uij : IntKind.u64.wrap ((ij : Nat) : Int) = (ij : Int) := by rw [IntWalk.u64_in _ (by omega)]
      have dij : ((ij : Nat) : Int) / 2 = (h : Int) := by omega
      have whh : IntKind.i64.wrap ((h : Nat) : Int) = (h : Int) := by rw [IntWalk.i64_in _ (by omega)]
      have hn0 : ¬ (h : Int) < 0 := by omega
      have hhn : (h : Int) < (n : Int) := by omega
      have IJ := Lib.hid hij2
      have HH := Lib.hid hh
      obtain ⟨x, hx⟩ : ∃ x, s[h]? = some x := ⟨_, List.getElem?_eq_getElem (by have := HN.out; omega)⟩
      obtain ⟨ad, rfl, -, -, x0, x1⟩ := bal_at (RS.out _ HW.out) hx
      have HX := Lib.hid hx
      have KX := Lib.hid (fun W => KC.out x.mem x.ptr x.cut.length x.cap W)
      have hlx := cmpI_lt (x := x.mem) (y := m)
      clear hx hij2 hh
      generalize cmpI x.mem m = cv at *
      by_cases hle : x.mem < m
      · have HI2 := Lib.hid (HLO.out h x HX.out hle)
        have f1 : cv < 0 := hlx.2 hle
        clear hle hlx
        go_wp2_with (first
          | (go_at_fn 27; (with_reducible refine (KX.out _).mono ?_); rintro e w6 ⟨rfl, q6⟩)
          | fail)
        go_roundg (j - (h + 1))
        case measure => omega
        case rel => exact ⟨h + 1, j, by omega, hjn, Nat.le_refl _, by go_num, rfl, below2 HW.out q6, HI2.out, HJ.out⟩
      · have HJ2 := Lib.hid (HHI.out h x HX.out (by omega))
        have f1 : ¬ cv < 0 := fun q => hle (hlx.1 q)
        clear hle hlx
        go_wp2_with (first
          | (go_at_fn 27; (with_reducible refine (KX.out _).mono ?_); rintro e w6 ⟨rfl, q6⟩)
          | fail)
        go_roundg (h - i)
        case measure => omega
        case rel => exact ⟨i, h, h1, by omega, Nat.le_refl _, rfl, rfl, below2 HW.out q6, HI.out, HJ2.out⟩
    · obtain rfl : i = j := by omega
      have hlt' : ¬ (i : Int) < (i : Int) := by omega
      rcases Nat.lt_or_ge i n with hin | hin
      · have hin' : decide ((i : Int) < (n : Int)) = true := decide_eq_true (by omega)
        have hin2 : (i : Int) < (n : Int) := by omega
        have hn0 : ¬ (i : Int) < 0 := by omega
        obtain ⟨x, hx⟩ : ∃ x, s[i]? = some x := ⟨_, List.getElem?_eq_getElem (by have := HN.out; omega)⟩
        obtain ⟨ad, rfl, -, -, x0, x1⟩ := bal_at (RS.out _ HW.out) hx
        have KX := Lib.hid (fun W => KC.out x.mem x.ptr x.cut.length x.cap W)
        have HCE := cmpI_eq (x := x.mem) (y := m)
        obtain ⟨f, hf⟩ : ∃ f, f = (cmpI x.mem m == 0) := ⟨_, rfl⟩
        have HP := Lib.hid (show PlaceM s m i f from by
          refine ⟨by have := HN.out; omega, HI.out, HJ.out, fun h => ⟨x, hx, ?_⟩, fun h y hy => ?_⟩
          · rw [hf] at h
            exact HCE.1 (by simpa using h)
          · rw [hx] at hy
            cases hy
            rw [hf] at h
            intro hk
            rw [HCE.2 hk] at h
            cases h)
        clear hx HCE
        generalize cmpI x.mem m = cv at *
        have hf' := hf.symm
        clear hf
        go_wp2_with (first
          | (go_at_fn 27; (with_reducible refine (KX.out _).mono ?_); rintro e w6 ⟨rfl, q6⟩)
          | fail)
        try go_ret2
        exact ⟨i, f, rfl, HP.out, below2 HW.out q6⟩
      · have hin' : decide ((i : Int) < (n : Int)) = false := decide_eq_false (by omega)
        have hinN : ¬ i < n := by omega
        have HP := Lib.hid (show PlaceM s m i false from by
          refine ⟨by have := HN.out; omega, HI.out, HJ.out, fun h => absurd h (by simp), fun h y hy => ?_⟩
          have := (List.getElem?_eq_some_iff.1 hy).1
          have := HN.out
          omega)
        go_wp2_with fail
        try go_ret2
        exact ⟨i, false, rfl, HP.out, HW.out⟩
end Go.Proofs.Ytmnagkjdnmnbkaa.Fv
