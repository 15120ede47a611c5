/- Package cut: without; the mathematics of withinLimit. -/
import Derived.Test.YtipipjbpjpdcbaaDoorCP7
namespace Go.Proofs.YtipipjbpjpdcbaaDoor.Ct
set_option linter.unusedVariables false
set_option linter.unusedSimpArgs false
open Go.RowKit
open Go.Proofs.YtipipjbpjpdcbaaDoor.W
open Go.Proofs.YtipipjbpjpdcbaaDoor.V
open Go.Proofs.YtipipjbpjpdcbaaDoor.O
open Go.Proofs.YtipipjbpjpdcbaaDoor.Al

theorem placeF_at {y : Int} : ∀ {s : List Int} {i k : Nat}, s[k]? = some y → (∀ j, j < k → ∀ z, s[j]? = some z → z ≠ y) → placeF y i s = ((i + k : Nat) : Int)
  | [], i, k, h, _ => by simp at h
  | x :: t, i, 0, h, _ => by
    simp at h
    unfold placeF
    rw [if_pos h]; simp
  | x :: t, i, k + 1, h, hn => by
    have hx : x ≠ y := hn 0 (by omega) x rfl
    unfold placeF
    rw [if_neg hx, placeF_at (s := t) (i := i + 1) (k := k) (by simpa using h) fun j hj z hz => hn (j + 1) (by omega) z (by simpa using hz)]
    omega
theorem place_asc {s : List Int} {k : Nat} {y : Int} (ha : Asc s) (h : s[k]? = some y) : place s y = (k : Int) := by
  unfold place
  have hk := List.getElem?_eq_some_iff.1 h
  rw [placeF_at h fun j hj z hz e => by
    have hj2 := List.getElem?_eq_some_iff.1 hz
    have := List.pairwise_iff_getElem.1 ha j k hj2.1 hk.1 hj
    rw [hj2.2, hk.2, e] at this
    omega]
  simp
theorem lastF_joint {m : List Int} : ∀ {s : List Int} {i : Nat} {acc : Int}, (among s m false = [] → lastF m i s acc = acc) ∧ ∀ y, (among s m false).getLast? = some y → ∃ k, s[k]? = some y ∧ lastF m i s acc = ((i + k : Nat) : Int)
  | [], i, acc => ⟨fun _ => rfl, fun y h => by simp [among] at h⟩
  | x :: t, i, acc => by
    have ih := lastF_joint (m := m) (s := t) (i := i + 1) (acc := if hasB m x then acc else (i : Int))
    have hl : lastF m i (x :: t) acc = lastF m (i + 1) t (if hasB m x then acc else (i : Int)) := rfl
    have hj : among (x :: t) m false = if hasB m x then among t m false else x :: among t m false := by
      unfold among
      rw [List.filter_cons]
      cases hasB m x <;> simp
    constructor
    · intro h
      rw [hj] at h
      split at h
      · rename_i hx
        rw [hl, ih.1 h, if_pos hx]
      · cases h
    · intro y hy
      rw [hj] at hy
      rcases hJ : among t m false with _ | ⟨z, r⟩
      · split at hy
        · rw [hJ] at hy; cases hy
        · rename_i hx
          rw [hJ] at hy
          simp at hy
          subst hy
          exact ⟨0, rfl, by rw [hl, ih.1 hJ, if_neg hx]; simp⟩
      · have hy2 : (among t m false).getLast? = some y := by
          split at hy
          · exact hy
          · rw [hJ] at hy ⊢
            rw [List.getLast?_cons_cons] at hy
            exact hy
        obtain ⟨k, h1, h2⟩ := ih.2 y hy2
        exact ⟨k + 1, by simpa using h1, by rw [hl, h2]; omega⟩
/-- What withinLimit gives. -/
def lim (num : Int) (l : List Int) : Nat → List Int → List Int
  | 0, s => s
  | n + 1, s => if (next num l s).2 = 5 ∧ 0 ≤ lastF l 0 s (-1) then lim num l n (s.eraseIdx (lastF l 0 s (-1)).toNat) else s
theorem lim_pos {num : Int} {l s : List Int} {n : Nat} (h : (next num l s).2 = 5 ∧ 0 ≤ lastF l 0 s (-1)) : lim num l (n + 1) s = lim num l n (s.eraseIdx (lastF l 0 s (-1)).toNat) := if_pos h
theorem lim_neg {num : Int} {l s : List Int} {n : Nat} (h : ¬ ((next num l s).2 = 5 ∧ 0 ≤ lastF l 0 s (-1))) : lim num l (n + 1) s = s := if_neg h
theorem lastF_bd {l s : List Int} (h : 0 ≤ lastF l 0 s (-1)) : (lastF l 0 s (-1)).toNat < s.length := by
  have := lastF_lt (m := l) (s := s) (i := 0) (acc := -1) (by omega)
  omega
theorem prop_lim {num : Int} {l : List Int} : ∀ {n : Nat} {s : List Int}, s.length < n → prop num l n s = if (next num l (lim num l n s)).2 = 0 then some (lim num l n s) else none
  | 0, s, h => absurd h (by omega)
  | n + 1, s, h => by
    by_cases h5 : (next num l s).2 = 5 ∧ 0 ≤ lastF l 0 s (-1)
    · have e : lim num l (n + 1) s = lim num l n (s.eraseIdx (lastF l 0 s (-1)).toNat) := lim_pos h5
      have := lastF_bd h5.2
      rw [e, ← prop_lim (n := n) (by rw [List.length_eraseIdx_of_lt this]; omega)]
      conv => lhs; unfold prop
      rw [if_neg (by rw [h5.1]; decide), if_pos h5]
    · have e : lim num l (n + 1) s = s := lim_neg h5
      rw [e]
      unfold prop
      rw [if_neg h5]
theorem lim_mem {num : Int} {l : List Int} : ∀ {n : Nat} {s : List Int} {x : Int}, x ∈ lim num l n s → x ∈ s
  | 0, s, x, h => h
  | n + 1, s, x, h => by
    unfold lim at h
    split at h
    · exact (List.eraseIdx_sublist _ _).subset (lim_mem h)
    · exact h
theorem next_five {num : Int} {l s : List Int} (h : (next num l s).2 = 5) : (validV num l && validC s) = true := by
  rcases hb : (validV num l && validC s) with _ | _
  · unfold next at h
    rw [if_pos hb] at h
    cases h
  · rfl
set_option maxRecDepth 1000000 in
set_option maxHeartbeats 8000000 in
theorem cutWithout_any (y : Int) (k : Nat) (X : Option Addr) (c B : Nat) (l : List Int) (w : World) (h : LS w B l X c) (hB : B ≤ w.heap.size) (hy : l[k]? = some y) (hp : place l y = (k : Int)) (hm : l.length ≤ 100000) :
    Calls Tryd.prog 53 #[.slice X l.length c, .int .i64 y] w (OwnI w (l.eraseIdx k)) := by
  have HL := Lib.hid (fun W (hW : Below w.heap.size w W) => (h.more hB).below hW)
  have KP := Lib.hid (fun W (hW : Below w.heap.size w W) => by
    have q := viewPlace_any X c w.heap.size l y W ((h.more hB).below hW) hW.size
    rwa [hp] at q)
  obtain ⟨n, hn⟩ : ∃ n, n = l.length := ⟨_, rfl⟩
  have HN := Lib.hid hn
  have hkn : k < n := by rw [hn]; exact (List.getElem?_eq_some_iff.1 hy).1
  have hcap : n ≤ c := by rw [hn]; exact h.cap
  rw [← hn] at KP hm ⊢
  obtain ⟨R, hR⟩ : ∃ R, R = l.eraseIdx k := ⟨_, rfl⟩
  rw [← hR]
  have HER := Lib.hid (show R = l.take k ++ l.drop (k + 1) by rw [hR]; exact List.eraseIdx_eq_take_drop_succ _ _)
  clear hn h hB hy hp hR
  go_enter Tryd.func53, Tryd.ntmps53
  go_upto_region 2 with (go_at_call 66; (with_reducible refine (KP.out _ (Below.refl _ _)).mono ?_); rintro e w1 ⟨rfl, b1⟩)
  have B1 := Lib.hid b1
  have hrd := (HL.out w1 b1).rd
  obtain ⟨Z, hs1, rz⟩ := slice_fromI (w := w1) (B := w.heap.size) (l := l) (c := c) (A := X) (k := k + 1) (ki := (k : Int) + 1) hrd (by rw [← HN.out]; exact hcap) (by have := HN.out; omega) (by omega)
  rw [← HN.out] at hs1 rz hrd
  have hs2 := slice_toI (n := n) (c := c) (k := k) (ki := (k : Int)) X hcap (by omega) rfl
  have RT := Reads.takeI (n := n) (k := k) hrd (by omega)
  have LD := Lib.hid (show n - (k + 1) = (l.drop (k + 1)).length by rw [List.length_drop, ← HN.out])
  have LT := Lib.hid (show k = (l.take k).length by rw [List.length_take, ← HN.out]; omega)
  have RZ := Lib.hid (fun W (hW : Below w1.heap.size w1 W) => (rz.more b1.size).below hW)
  have RT := Lib.hid (fun W (hW : Below w1.heap.size w1 W) => (RT.more b1.size).below hW)
  have wk : IntKind.i64.wrap ((k : Int) + 1) = (k : Int) + 1 := by rw [IntWalk.i64_in _ (by omega)]
  have k0 : (0 : Int) ≤ (k : Int) := by omega
  have kn : (k : Int) ≤ (n : Int) := by omega
  have kn1 : (k : Int) + 1 ≤ (n : Int) := by omega
  have k01 : (0 : Int) ≤ (k : Int) + 1 := by omega
  obtain ⟨n2, hn2⟩ : ∃ q, q = n - (k + 1) := ⟨_, rfl⟩
  obtain ⟨c2, hc2⟩ : ∃ q, q = c - (k + 1) := ⟨_, rfl⟩
  rw [← hn2] at hs1 RZ LD
  rw [← hc2] at hs1
  have hn2' : n2 ≤ 100000 := by omega
  clear hrd rz b1 hc2 hn2 KP
  generalize l.take k = PT at *
  generalize l.drop (k + 1) = PD at *
  have KC := Lib.hid (fun g W (hg : Blk W g 22 #[.slice X k c, .slice Z n2 c2]) (hW : Below w1.heap.size w1 W) => concat2_any PT PD X Z k n2 c c2 2 g W hg ((RT.out W hW).more hW.size) ((RZ.out W hW).more hW.size) LT.out LD.out (by omega) (by omega))
  go_region_law (first
    | ((try go_simp); go_at_call 74; (with_reducible refine (KC.out _ _ (by first | exact Blk.new _ _ _ | exact (Blk.new _ _ _).drew) (by first | exact (Below.refl _ _).alloc (Nat.le_refl _) _ | exact ((Below.refl _ _).alloc (Nat.le_refl _) _).drew | exact (Below.refl _ _).drew.alloc (by simp) _)).mono ?_); rintro e w4 ⟨v4, rfl, ho4, hb4⟩)
    | fail)
  all_goals
    have q4 : Below w1.heap.size w1 w4 := by
      first
        | exact below2 ((Below.refl _ _).alloc (Nat.le_refl _) _) hb4
        | exact below2 ((Below.refl _ _).alloc (Nat.le_refl _) _).drew hb4
        | exact below2 ((Below.refl _ _).drew.alloc (by simp) _) hb4
    have hbs : w.heap.size ≤ w4.heap.size := Nat.le_trans B1.out.size q4.size
    have o4 : w4.ownsRow w.heap.size 3 1 v4 R.length (R.map intV) := by
      rw [HER.out]
      refine own_base ho4 ?_
      have := B1.out.size
      first
        | (simp; omega)
        | omega
    go_wp2_with fail
    (try go_simp)
    go_ret
    exact ⟨_, rfl, o4, below2 B1.out q4⟩
end Go.Proofs.YtipipjbpjpdcbaaDoor.Ct
