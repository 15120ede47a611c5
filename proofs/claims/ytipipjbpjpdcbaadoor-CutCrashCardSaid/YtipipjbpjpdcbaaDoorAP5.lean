/- Package alerts: about, ValidAlert. -/
import Derived.Test.YtipipjbpjpdcbaaDoorAP4
import Derived.Test.YtipipjbpjpdcbaaDoorOV
namespace Go.Proofs.YtipipjbpjpdcbaaDoor.Al
set_option linter.unusedVariables false
set_option linter.unusedSimpArgs false
open Go.RowKit
open Go.Proofs.YtipipjbpjpdcbaaDoor.W
open Go.Proofs.YtipipjbpjpdcbaaDoor.V
open Go.Proofs.YtipipjbpjpdcbaaDoor.O
open Go.Proofs.YtipipjbpjpdcbaaDoor.Pb (Alr alrC alrsC len_alrsC alrsC_app alrsC_one alrsC_get alrsC_cell alrInfo step_append_alr reads_blk two_blk)

/-- The alerts about a subject that are valid. -/
def aboF (num subj : Int) (o : List Int) : List Alr := o.mapIdx fun r x => ⟨num, (r : Int), x, subj⟩
def aboL (K : Int → Int → Nat) (num : Int) (l : List Int) (subj : Int) : List Alr := if validV num l then aboF num subj (obsL K l subj) else []
theorem aboF_len {num subj : Int} {o : List Int} : (aboF num subj o).length = o.length := by unfold aboF; simp
theorem aboF_get {num subj : Int} {o : List Int} {k : Nat} : (aboF num subj o)[k]? = (o[k]?).map fun x => ⟨num, (k : Int), x, subj⟩ := by unfold aboF; simp
theorem aboF_next {num subj x : Int} {o : List Int} {k : Nat} (hx : o[k]? = some x) : (aboF num subj o).take (k + 1) = (aboF num subj o).take k ++ [⟨num, (k : Int), x, subj⟩] :=
  take_snoc (by rw [aboF_get, hx]; rfl)
theorem aboL_len {num : Int} {l : List Int} {subj : Int} : (aboL K num l subj).length ≤ 5 := by
  unfold aboL
  split
  · rw [aboF_len]
    rcases obs_cases l subj with h | h
    · rw [h]; simp
    · omega
  · simp
theorem mem_abo {num : Int} {l : List Int} {a : Alr} : decide (a ∈ aboL K num l a.subj) = okA K num l a := by
  rw [Bool.eq_iff_iff, decide_eq_true_iff, okA_iff]
  unfold aboL
  constructor
  · intro h
    split at h
    case isFalse => cases h
    rename_i hv
    obtain ⟨i, hi⟩ := List.mem_iff_getElem?.1 h
    rw [aboF_get] at hi
    obtain ⟨av, ar, ao, as'⟩ := a
    cases ho : (obsL K l as')[i]? with
    | none => simp only at hi; rw [ho] at hi; simp at hi
    | some y =>
      simp only at hi
      rw [ho] at hi
      simp at hi
      obtain ⟨rfl, rfl, rfl⟩ := hi
      have hlt := (List.getElem?_eq_some_iff.1 ho).1
      have h5 : (obsL K l as').length ≤ 5 := by
        rcases obs_cases l as' with h | h
        · rw [h]; simp
        · omega
      refine ⟨hv, rfl, by simp, by simp; omega, by simpa using ho⟩
  · rintro ⟨hv, h1, h2, h3, h4⟩
    rw [if_pos hv]
    refine List.mem_iff_getElem?.2 ⟨a.ring.toNat, ?_⟩
    rw [aboF_get, h4]
    obtain ⟨av, ar, ao, as'⟩ := a
    simp at *
    refine ⟨h1.symm, ?_⟩
    omega
theorem okA_el {num : Int} {l : List Int} {a : Alr} (hnum : In64 num) (h : okA K num l a = true) : El a := by
  have h1 := okA_in h inj_K
  obtain ⟨_, h2, h3, h4, _⟩ := okA_iff.1 h
  unfold inA at h1
  simp only [Bool.and_eq_true] at h1
  obtain ⟨_, _, h5, h6⟩ := h1
  unfold isID at h5 h6
  simp at h5 h6
  exact ⟨by rw [h2]; exact hnum, ⟨by omega, by omega⟩, ⟨by omega, by omega⟩, ⟨by omega, by omega⟩⟩
theorem abo_subj {num : Int} {l : List Int} {subj : Int} {x : Alr} (hx : x ∈ aboL K num l subj) : x.subj = subj := by
  unfold aboL at hx
  split at hx
  case isFalse => cases hx
  obtain ⟨i, hi⟩ := List.mem_iff_getElem?.1 hx
  rw [aboF_get] at hi
  cases ho : (obsL K l subj)[i]? with
  | none => rw [ho] at hi; simp at hi
  | some y => rw [ho] at hi; simp at hi; rw [← hi]
theorem abo_ok {num : Int} {l : List Int} {subj : Int} {x : Alr} (hx : x ∈ aboL K num l subj) : okA K num l x = true := by
  rw [← mem_abo, decide_eq_true_iff, abo_subj hx]
  exact hx
theorem aboL_el {num : Int} {l : List Int} {subj : Int} (hnum : In64 num) : ∀ x ∈ aboL K num l subj, El x := fun x hx => okA_el hnum (abo_ok hx)
set_option maxRecDepth 1000000 in
set_option maxHeartbeats 4000000 in
theorem alAbout_any (num : Int) (l : List Int) (A : Option Addr) (c B : Nat) (subj : Int) (w : World) (h : VW w B num l A c) (hB : B ≤ w.heap.size) (hs : In64 subj) (ht : H.Tab w) :
    Calls Tryd.prog 46 #[.agg #[.int .i64 num, .slice A l.length c], .int .i64 subj] w (OwnS w (aboL K num l subj)) := by
  have hb0 := (Below.refl w.heap.size w).alloc (Nat.le_refl _) (.cells #[.int .i64 num, .slice A l.length c] 24)
  have hz := Blk.new w 24 #[.int .i64 num, .slice A l.length c]
  have KV := Lib.hid (fun W (hW : Below w.heap.size w W) => viewValid_any num l A c w.heap.size W ((h.more hB).below hW) hW.size)
  have KO := Lib.hid (fun W (hW : Below w.heap.size w W) => (overObservers_any subj A c w.heap.size l W ⟨((h.more hB).below hW).rd, h.l40, h.el, h.cap⟩ hW.size hs (ht.on hW)).mono fun _ _ h => h.to (obsL K l subj) (obsL K l subj).length rfl rfl)
  have HP := Lib.hid (show aboL K num l subj = if validV num l then aboF num subj (obsL K l subj) else [] from rfl)
  obtain ⟨P, hP⟩ : ∃ P, P = aboL K num l subj := ⟨_, rfl⟩
  rw [← hP] at HP ⊢
  clear hP h
  obtain ⟨n, hn⟩ : ∃ n, n = l.length := ⟨_, rfl⟩
  dsimp only [vwV] at KV
  rw [← hn] at hb0 hz KV KO ⊢
  clear hn
  have HC := Lib.hid (obs_cases l subj)
  generalize obsL K l subj = o at *
  obtain ⟨no, hno⟩ : ∃ n, n = o.length := ⟨_, rfl⟩
  have HNO := Lib.hid hno
  rw [← hno] at KO
  clear hno
  go_enter Tryd.func46, Tryd.ntmps46
  go_upto_region 1 with fail
  generalize hw0 : w.alloc (.cells #[.int .i64 num, .slice A n c] 24) = w0 at *
  clear hw0
  have B0 := Lib.hid hb0
  have Z1 := Lib.hid hz
  have p0 := blk2 hz
  have KV0 := Lib.hid (KV.out w0 hb0)
  clear hb0 hz KV
  have FB := Lib.hid (fun W (hW : Below w0.heap.size w0 W) => blk2 (Z1.out.below hW Z1.out.lt))
  cases hv : validV num l
  · rw [hv] at KV0
    have hf := Lib.hid (show P = [] by rw [HP.out, hv]; rfl)
    go_wp2_with (go_at_call 45; (with_reducible refine KV0.out.mono ?_); rintro e w1 ⟨rfl, b1⟩)
    go_ret
    exact ⟨_, rfl, by rw [hf.out]; exact World.ownsRow_nil _ _ _ _, B0.out.trans (b1.mono B0.out.size)⟩
  rw [hv] at KV0
  have HPF := Lib.hid (show P = aboF num subj o by rw [HP.out, hv]; rfl)
  clear hv HP
  go_upto_region 5 with (first
    | (go_at_call 45; (with_reducible refine KV0.out.mono ?_); rintro e w1 ⟨rfl, b1⟩; (have p1 := FB.out _ b1))
    | (go_at_call 50; (with_reducible refine (KO.out _ (B0.out.trans (b1.mono B0.out.size))).mono ?_); rintro e w2 ⟨A2, c2, rfl, hc2, ho2, hr2, q2⟩)
    | fail)
  have B2 := Lib.hid (W.bstep b1 q2)
  have R2 := Lib.hid (fun W (hW : Below w2.heap.size w2 W) => hr2.below hW)
  have n5 : no ≤ 5 := by
    rcases HC.out with h | h
    · have := HNO.out; rw [h] at this; simp at this; omega
    · have := HNO.out; omega
  clear hr2 ho2 q2 b1 p0 p1 KO KV0
  go_loopg [5, 6, 7, 16] no (fun gk s5 _ _ s16 wr => ∃ k : Nat, k + gk = no ∧ s16 = .int .i64 k ∧ Hid (wr.ownsRow w2.heap.size 48 4 s5 ((aboF num subj o).take k).length (alrsC ((aboF num subj o).take k))) ∧ Hid (Below w2.heap.size w2 wr))
  case atStart => exact ⟨0, by omega, rfl, World.ownsRow_nil _ _ _ _, Below.refl _ _⟩
  case round =>
    obtain ⟨k, hkg, rfl, HO, HW⟩ := hrel
    have hws := HW.out.size
    cases gk with
    | zero =>
      have hkz : ¬ ((k : Int) < (no : Int)) := by omega
      have HK := Lib.hid (show (aboF num subj o).take k = P by rw [HPF.out, List.take_of_length_le (by rw [aboF_len]; have := HNO.out; omega)])
      rw [HK.out] at HO
      go_wp2_with fail
      go_ret
      exact ⟨_, rfl, own_base HO.out (by have := B2.out.size; have := B0.out.size; omega), B0.out.trans ((B2.out.trans (HW.out.mono B2.out.size)).mono B0.out.size)⟩
    | succ gk =>
      have hkz : (k : Int) < (no : Int) := by omega
      have hk0 : ¬ (k : Int) < 0 := by omega
      obtain ⟨ad, u, rfl, _, hx, hcell⟩ := (R2.out _ HW.out).at_ (k := k) (by omega)
      obtain ⟨y, hy⟩ : ∃ y, o[k]? = some y := ⟨_, List.getElem?_eq_getElem (by have := HNO.out; omega)⟩
      have hux : u = .int .i64 y := by simp [hy, intV] at hx; exact hx.symm
      rw [hux] at hcell
      have HS := Lib.hid (aboF_next (num := num) (subj := subj) hy)
      have LO := Lib.hid (show ((aboF num subj o).take k).length ≤ 5 by rw [List.length_take]; omega)
      have p1 := FB.out _ (W.bstep B2.out HW.out)
      generalize (aboF num subj o).take k = O at *
      clear hx hux hy
      go_wp2_with (first
        | (at_builtin; go_loud (refine wp_append_alr _ rfl (.tmp 21) (.tmp 28) rfl w2.heap.size _ O ⟨num, (k : Int), y, subj⟩ _ _ _ rfl (World.ownsRow.alloc HO.out _) rfl (reads_blk _ _ _) (by have := LO.out; omega) (by simp; omega) ?_; intro v4 w4 ho4 hb4))
        | fail)
      have HB4 := Lib.hid (((Below.refl _ _).alloc hws _).trans hb4)
      have HO4 := Lib.hid ho4
      clear ho4 hb4
      go_roundg gk
      case measure => omega
      case rel => exact ⟨k + 1, by omega, by go_num, by rw [HS.out]; exact HO4.out, HW.out.trans HB4.out⟩
end Go.Proofs.YtipipjbpjpdcbaaDoor.Al
