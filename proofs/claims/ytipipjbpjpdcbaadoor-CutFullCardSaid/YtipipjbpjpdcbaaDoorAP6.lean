/- Package alerts: ValidAlert, Valid. -/
import Derived.Test.YtipipjbpjpdcbaaDoorAP5
import Derived.Test.YtipipjbpjpdcbaaDoorAP3
namespace Go.Proofs.YtipipjbpjpdcbaaDoor.Al
set_option linter.unusedVariables false
set_option linter.unusedSimpArgs false
open Go.RowKit
open Go.Proofs.YtipipjbpjpdcbaaDoor.W
open Go.Proofs.YtipipjbpjpdcbaaDoor.V
open Go.Proofs.YtipipjbpjpdcbaaDoor.O
open Go.Proofs.YtipipjbpjpdcbaaDoor.Pb (Alr alrC alrsC len_alrsC alrsC_app alrsC_one alrsC_get alrsC_cell alrInfo step_append_alr reads_blk two_blk)

/-- A list of alerts comes back. -/
def OutS (w : World) (s : List Alr) (n : Nat) (e : Ending) (w' : World) : Prop := ∃ A c, e = .returned (.slice A n c) ∧ AS w' w'.heap.size s A c ∧ Below w.heap.size w w'
theorem OwnS.out {w w' : World} {s : List Alr} {e : Ending} (h : OwnS w s e w') (hl : s.length ≤ 1099511627776) (hel : ∀ x ∈ s, El x) : OutS w s s.length e w' := by
  obtain ⟨v, rfl, ho, hb⟩ := h
  obtain ⟨A, c, rfl, h⟩ := AS.of_own ho hl hel
  exact ⟨A, c, rfl, h, hb⟩
theorem AS.step {w W : World} {s : List Alr} {A : Option Addr} {c : Nat} (h : AS w w.heap.size s A c) (hb : Below w.heap.size w W) : AS W W.heap.size s A c := (h.below hb).more hb.size
theorem reads_take {w : World} {B n k : Nat} {A : Option Addr} {s : List Alr} (h : Reads w B 4 A n (alrsC s)) (hk : k ≤ n) (hn : n = s.length) : Reads w B 4 A k (alrsC (s.take k)) := by
  refine ⟨by rw [len_alrsC, List.length_take]; omega, fun h0 => ?_⟩
  obtain ⟨ad, hA, hb, hc⟩ := h.2 (by omega)
  refine ⟨ad, hA, hb, fun j u hu => hc j u ?_⟩
  have e : alrsC s = alrsC (s.take k) ++ alrsC (s.drop k) := by rw [← alrsC_app, List.take_append_drop]
  rw [e, List.getElem?_append_left (List.getElem?_eq_some_iff.1 hu).1]
  exact hu
theorem fol_take {s : List Alr} {k : Nat} {p x : Alr} (h0 : 0 < k) (hk : k ≤ s.length) (hp : s[k - 1]? = some p) : folA (s.take k) x = lessA p x :=
  folA_last (n := k - 1) (by rw [List.length_take]; omega) (by rw [List.getElem?_take]; rw [if_pos (by omega)]; exact hp)
theorem seen_next {num : Int} {l : List Int} {s : List Alr} {k : Nat} {x : Alr} (h : Seen num l s k) (hx : s[k]? = some x) (h1 : okA K num l x = true) (h2 : folA (s.take k) x = true) : Seen num l s (k + 1) :=
  h.next hx h1 fun p h0 hp => by
    rw [fol_take h0 (by have := (List.getElem?_eq_some_iff.1 hx).1; omega) hp] at h2
    exact h2
theorem seen_no {num : Int} {l : List Int} {s : List Alr} {k : Nat} {x : Alr} (hx : s[k]? = some x) (h2 : folA (s.take k) x = false) : okS K num l s = false := by
  rw [← Bool.not_eq_true]
  intro h
  rcases Nat.eq_zero_or_pos k with rfl | h0
  · rw [List.take_zero] at h2; cases h2
  · obtain ⟨p, hp⟩ : ∃ p, s[k - 1]? = some p := ⟨_, List.getElem?_eq_getElem (by have := (List.getElem?_eq_some_iff.1 hx).1; omega)⟩
    rw [fol_take h0 (by have := (List.getElem?_eq_some_iff.1 hx).1; omega) hp, (okS_at h hx).2 p h0 hp] at h2
    cases h2
set_option maxRecDepth 1000000 in
set_option maxHeartbeats 8000000 in
theorem alValid_any (num : Int) (l : List Int) (A E : Option Addr) (c cE B : Nat) (s : List Alr) (w : World) (h : VW w B num l A c) (hs : AS w B s E cE) (hB : B ≤ w.heap.size) (ht : H.Tab w) :
    Calls Tryd.prog 28 #[.agg #[.int .i64 num, .slice A l.length c], .slice E s.length cE] w (PB w (okS K num l s)) := by
  have hb0 := (Below.refl w.heap.size w).alloc (Nat.le_refl _) (.cells #[.int .i64 num, .slice A l.length c] 24)
  have hz := Blk.new w 24 #[.int .i64 num, .slice A l.length c]
  have KV := Lib.hid (fun W (hW : Below w.heap.size w W) => viewValid_any num l A c w.heap.size W ((h.more hB).below hW) hW.size)
  have KA := Lib.hid (fun (subj : Int) (hj : In64 subj) W (hW : Below w.heap.size w W) => (alAbout_any num l A c w.heap.size subj W ((h.more hB).below hW) hW.size hj (ht.on hW)).mono fun _ _ q => q.out (Nat.le_trans aboL_len (by decide)) (aboL_el h.num64))
  have HR := Lib.hid (fun W (hW : Below w.heap.size w W) => ((hs.more hB).below hW).rd)
  have HEL := Lib.hid hs.el
  have hl40 := hs.l40
  have hcap := hs.cap
  obtain ⟨t, ht'⟩ : ∃ t, t = okS K num l s := ⟨_, rfl⟩
  have HT := Lib.hid ht'
  rw [← ht']
  clear h hs ht' ht
  dsimp only [vwV] at KV
  obtain ⟨n, hn⟩ : ∃ n, n = l.length := ⟨_, rfl⟩
  rw [← hn] at hb0 hz KV KA ⊢
  clear hn
  obtain ⟨ns, hns⟩ : ∃ n, n = s.length := ⟨_, rfl⟩
  have HNS := Lib.hid hns
  rw [← hns] at HR hl40 hcap ⊢
  clear hns
  go_enter Tryd.func28, Tryd.ntmps28
  go_upto_region 1 with fail
  generalize hw0 : w.alloc (.cells #[.int .i64 num, .slice A n c] 24) = w0 at *
  clear hw0
  have B0 := Lib.hid hb0
  have Z1 := Lib.hid hz
  have p0 := blk2 hz
  have KV0 := Lib.hid (KV.out w0 hb0)
  clear hb0 hz KV
  cases hv : validV num l
  · rw [hv] at KV0
    have hf := Lib.hid (show t = false by
      rw [HT.out, ← Bool.not_eq_true, okS_iff]
      intro h
      rw [hv] at h
      exact absurd h.1 (by simp))
    go_wp2_with (go_at_call 45; (with_reducible refine KV0.out.mono ?_); rintro e w1 ⟨rfl, b1⟩)
    go_ret
    exact ⟨by rw [hf.out]; rfl, B0.out.trans (b1.mono B0.out.size)⟩
  rw [hv] at KV0
  have HV := Lib.hid hv
  clear hv
  go_wp2_with (go_at_call 45; (with_reducible refine KV0.out.mono ?_); rintro e w1 ⟨rfl, b1⟩)
  have B1 := Lib.hid b1
  clear b1 KV0
  go_loopg [5, 6, 7, 13] ns (fun gk s5 _ _ s13 wr => ∃ (k np c5 : Nat) (A5 : Option Addr) (P : List Alr), k + gk = ns ∧ s13 = .int .i64 k ∧ s5 = .slice A5 np c5 ∧ Hid (np = P.length) ∧ Hid (AS wr wr.heap.size P A5 c5) ∧ Hid (∀ p, 0 < k → s[k - 1]? = some p → P = aboL K num l p.subj) ∧ Hid (Below w0.heap.size w0 wr) ∧ Hid (Seen num l s k))
  case atStart => exact ⟨0, 0, 0, none, [], by omega, rfl, rfl, rfl, AS.nil, (fun p h0 => absurd h0 (by omega)), B1.out, fun i x hi => by omega⟩
  case round =>
    obtain ⟨k, np, c5, A5, P, hkg, rfl, rfl, HNP, HAS, HPP, HBW, HSE⟩ := hrel
    have hBw := B0.out.trans (HBW.out.mono B0.out.size)
    cases gk with
    | zero =>
      have hkz : ¬ ((k : Int) < (ns : Int)) := by omega
      have hf := Lib.hid (show t = true by
        rw [HT.out]
        exact Seen.done (by have := HSE.out; rw [show k = s.length by have := HNS.out; omega] at this; exact this) HV.out)
      go_wp2_with fail
      go_ret
      exact ⟨by rw [hf.out]; rfl, hBw⟩
    | succ gk =>
      have hkz : (k : Int) < (ns : Int) := by omega
      have hk0 : ¬ (k : Int) < 0 := by omega
      have hkc : (k : Int) ≤ (cE : Int) := by omega
      obtain ⟨x, hx⟩ : ∃ x, s[k]? = some x := ⟨_, List.getElem?_eq_getElem (by have := HNS.out; omega)⟩
      obtain ⟨ad, rfl, hadb, hbk, y0, y1, y2, y3⟩ := alr_at (HR.out wr hBw) hx
      have hx64 := HEL.out x (List.mem_of_getElem? hx)
      have HX := Lib.hid hx
      have HN0 := Lib.hid (fun (q : okA K num l x = false) => show t = false by
        rw [HT.out, ← Bool.not_eq_true]
        intro h
        rw [(okS_at h HX.out).1] at q
        cases q)
      have HN1 := Lib.hid (fun (q : folA (s.take k) x = false) => show t = false by rw [HT.out]; exact seen_no HX.out q)
      have HN2 := Lib.hid (fun (q : okA K num l x = true) (q2 : folA (s.take k) x = true) => seen_next HSE.out HX.out q q2)
      have hzx := Blk.new wr 48 #[.int .i64 x.view, .int .i64 x.ring, .int .i64 x.obs, .int .i64 x.subj]
      have hbx := (Below.refl wr.heap.size wr).alloc (Nat.le_refl _) (.cells #[.int .i64 x.view, .int .i64 x.ring, .int .i64 x.obs, .int .i64 x.subj] 48)
      clear hx hadb hbk
      go_upto_region 7 with fail
      generalize hw5 : wr.alloc (.cells #[.int .i64 x.view, .int .i64 x.ring, .int .i64 x.obs, .int .i64 x.subj] 48) = w5 at *
      clear hw5 y0 y1 y2 y3
      have B5 := Lib.hid hbx
      have Z5 := Lib.hid hzx
      have p5 := blk4 hzx
      have V5 := Lib.hid (below2 HBW.out hbx)
      have W5 := Lib.hid (below2 hBw hbx)
      have pv := blk2 (Z1.out.below V5.out Z1.out.lt)
      clear hbx hzx
      have KX := Lib.hid (fun W (hW : Below w5.heap.size w5 W) => KA.out x.subj hx64.2.2.2 W (below2 W5.out hW))
      go_cut [30] from 18 to 29 (fun s30 wx => ∃ (f : Bool) (q : Nat), s30 = .bool f ∧ wx = w5.drewN q ∧ Hid (f = false → P = aboL K num l x.subj))
      case first =>
        rcases Nat.eq_zero_or_pos k with h0 | h0
        · have hz0 : ((k : Int) == 0) = true := beqT (by omega)
          clear h0 hkc
          go_quiet (fail)
          go_wp2_with fail
          go_meet
          exact ⟨true, _, rfl, rfl, fun h => absurd h (by decide)⟩
        · obtain ⟨j, hj⟩ : ∃ j, k = j + 1 := ⟨k - 1, by omega⟩
          have hz0 : ((k : Int) == 0) = false := beqF (by omega)
          have wk : IntKind.i64.wrap ((k : Int) - 1) = (j : Int) := by rw [IntWalk.i64_in _ (by omega)]; omega
          have hj0 : ¬ (j : Int) < 0 := by omega
          have hjn : (j : Int) < (ns : Int) := by omega
          obtain ⟨p, hp⟩ : ∃ p, s[j]? = some p := ⟨_, List.getElem?_eq_getElem (by have := HNS.out; omega)⟩
          obtain ⟨u0, u1, u2, u3⟩ := alr_at2 (HR.out w5 W5.out) hp
          have HP := Lib.hid (HPP.out p h0 (by rw [hj]; simpa using hp))
          clear hp h0 hj hkc
          by_cases hps : p.subj = x.subj
          · have e1 : (p.subj != x.subj) = false := bneF hps
            have HP2 := Lib.hid (show P = aboL K num l x.subj by rw [← hps]; exact HP.out)
            clear hps
            go_quiet (fail)
            go_wp2_with fail
            go_meet
            exact ⟨false, _, rfl, rfl, fun _ => HP2.out⟩
          · have e1 : (p.subj != x.subj) = true := bneT hps
            clear hps
            go_quiet (fail)
            go_wp2_with fail
            go_meet
            exact ⟨true, _, rfl, rfl, fun h => absurd h (by decide)⟩
      case rest =>
      obtain ⟨f, q, rfl, rfl, HF⟩ := hcut
      go_upto_if 30 with fail
      go_cut [5] from 31 to 34 (fun s5 wx => ∃ (A6 : Option Addr) (c6 np6 : Nat), s5 = .slice A6 np6 c6 ∧ Hid (np6 = (aboL K num l x.subj).length) ∧ Hid (AS wx wx.heap.size (aboL K num l x.subj) A6 c6) ∧ Hid (Below w5.heap.size w5 wx))
      case first =>
        cases f
        · have HP2 := Lib.hid (HF.out rfl)
          go_wp2_with fail
          go_meet
          exact ⟨A5, c5, np, rfl, by rw [← HP2.out]; exact HNP.out, by rw [← HP2.out]; exact HAS.out.step (below2 B5.out (below_drewN' (Below.refl _ _) _)), below_drewN' (Below.refl _ _) _⟩
        · go_wp2_with (go_at_call 46; (with_reducible refine (KX.out _ (below_drewN' (Below.refl _ _) _)).mono ?_); rintro e w6 ⟨A6, c6, rfl, as6, b6⟩)
          go_meet
          exact ⟨A6, c6, _, rfl, rfl, as6, W.bstep (below_drewN' (Below.refl _ _) _) b6⟩
      case rest =>
      obtain ⟨A6, c6, np6, rfl, HN6, HA6, HB6⟩ := hcut
      generalize wc = w6 at *
      have hU6 := below2 V5.out HB6.out
      have hW6 := below2 W5.out HB6.out
      have HB4 := Lib.hid (fun W (hW : Below w6.heap.size w6 W) => blk4 (Z5.out.below (below2 HB6.out hW) Z5.out.lt))
      have KC := Lib.hid (fun W (hW : Below w6.heap.size w6 W) => alContains_any A6 c6 W.heap.size np6 (aboL K num l x.subj) x W (by rw [HN6.out]; exact (HA6.out.step hW).rd) HN6.out (by rw [HN6.out]; exact HA6.out.l40) (Nat.le_refl _))
      rw [mem_abo] at KC
      have KF := Lib.hid (fun W (hW : Below w6.heap.size w6 W) => alFollows_any (some ad) cE w.heap.size k (s.take k) x W (reads_take (HR.out W (below2 hW6 hW)) (by omega) HNS.out) (by rw [List.length_take]; have := HNS.out; omega) (by omega) (below2 hW6 hW).size)
      have HP6 := Lib.hid (fun W (hW : Below w6.heap.size w6 W) (p : Alr) (h0 : 0 < k + 1) (hp : s[k + 1 - 1]? = some p) => show aboL K num l x.subj = aboL K num l p.subj by
        have h1 := HX.out
        rw [show k + 1 - 1 = k by omega, h1] at hp
        cases hp
        rfl)
      obtain ⟨xv, xr, xo, xs⟩ := x
      dsimp only [alrV] at *
      clear p0 p5 pv KX
      cases hok : okA K num l ⟨xv, xr, xo, xs⟩
      · have hf := Lib.hid (HN0.out hok)
        rw [hok] at KC
        clear hok HN0 HN1 HN2 KF
        go_wp2_with fail
        refine wp_region_held_drew (S := (fun wx => Below w6.heap.size w6 wx)) (by kernel_rfl) ?_ (fun hHeld => ?_)
        · exact (Below.refl _ _).drew
        refine wpAnyH_take (i := 0) (v := ?_) (by first | (simp only [List.getElem?_toArray, List.getElem?_cons_succ, List.getElem?_cons_zero]; done) | (simp only [List.getElem?_toArray, List.getElem?_cons_succ, List.getElem?_cons_zero]; rfl)) (by kernel_rfl) (by kernel_rfl) (by kernel_rfl) (by exact fun _ _ _ h => h) (Or.inl ⟨by rfl, ?_⟩) hHeld ?_
        rotate_left 1
        · intro wq hSw
          go_simp
          all_goals with_reducible rfl
        try simp only [Act.put, List.setIfInBounds_toArray, List.set_cons_zero, List.set_cons_succ]
        refine wpAnyH_take (i := 1) (v := ?_) (by first | (simp only [List.getElem?_toArray, List.getElem?_cons_succ, List.getElem?_cons_zero]; done) | (simp only [List.getElem?_toArray, List.getElem?_cons_succ, List.getElem?_cons_zero]; rfl)) (by kernel_rfl) (by kernel_rfl) (by kernel_rfl) (by exact fun _ _ _ h => h) (Or.inl ⟨by rfl, ?_⟩) hHeld ?_
        rotate_left 1
        · intro wq hSw
          obtain ⟨g0, g1, g2, g3⟩ := HB4.out _ hSw
          go_simp
          all_goals with_reducible rfl
        try simp only [Act.put, List.setIfInBounds_toArray, List.set_cons_zero, List.set_cons_succ]
        refine wpAnyH_ready (rs := [2]) (by kernel_rfl) (by simp) ?_
        refine AllReadyH.cons (by first | (simp only [List.getElem?_toArray, List.getElem?_cons_succ, List.getElem?_cons_zero]; done) | (simp only [List.getElem?_toArray, List.getElem?_cons_succ, List.getElem?_cons_zero]; rfl)) (fun K hK => ?_) AllReadyH.nil
        go_simp
        go_at_call 47
        with_reducible refine (KC.out _ hHeld).mono ?_
        rintro e v1 ⟨rfl, q2⟩
        have hq2 := below2 hHeld q2
        go_wp2_with fail
        refine hK.out _ _ ?_ (fun hHeld => ?_)
        · exact hq2
        clear hK K
        try simp only [Act.put, List.setIfInBounds_toArray, List.set_cons_zero, List.set_cons_succ]
        refine wpAnyH_take (i := 3) (v := ?_) (by first | (simp only [List.getElem?_toArray, List.getElem?_cons_succ, List.getElem?_cons_zero]; done) | (simp only [List.getElem?_toArray, List.getElem?_cons_succ, List.getElem?_cons_zero]; rfl)) (by kernel_rfl) (by kernel_rfl) (by kernel_rfl) (by exact fun _ _ _ h => h) (Or.inl ⟨by rfl, ?_⟩) hHeld ?_
        rotate_left 1
        · intro wq hSw
          go_simp
          all_goals with_reducible rfl
        try simp only [Act.put, List.setIfInBounds_toArray, List.set_cons_zero, List.set_cons_succ]
        refine wpAnyH_take (i := 4) (v := ?_) (by first | (simp only [List.getElem?_toArray, List.getElem?_cons_succ, List.getElem?_cons_zero]; done) | (simp only [List.getElem?_toArray, List.getElem?_cons_succ, List.getElem?_cons_zero]; rfl)) (by kernel_rfl) (by kernel_rfl) (by kernel_rfl) (by exact fun _ _ _ h => h) (Or.inl ⟨by rfl, ?_⟩) hHeld ?_
        rotate_left 1
        · intro wq hSw
          go_simp
          all_goals with_reducible rfl
        try simp only [Act.put, List.setIfInBounds_toArray, List.set_cons_zero, List.set_cons_succ]
        refine wpAnyH_take (i := 5) (v := undef) (by first | (simp only [List.getElem?_toArray, List.getElem?_cons_succ, List.getElem?_cons_zero]; done) | (simp only [List.getElem?_toArray, List.getElem?_cons_succ, List.getElem?_cons_zero]; rfl)) (by kernel_rfl) (by kernel_rfl) (by kernel_rfl) (by exact fun _ _ _ h => h) (Or.inr ⟨by rfl, rfl⟩) hHeld ?_
        try simp only [Act.put, List.setIfInBounds_toArray, List.set_cons_zero, List.set_cons_succ]
        refine wpAnyH_take (i := 6) (v := undef) (by first | (simp only [List.getElem?_toArray, List.getElem?_cons_succ, List.getElem?_cons_zero]; done) | (simp only [List.getElem?_toArray, List.getElem?_cons_succ, List.getElem?_cons_zero]; rfl)) (by kernel_rfl) (by kernel_rfl) (by kernel_rfl) (by exact fun _ _ _ h => h) (Or.inr ⟨by rfl, rfl⟩) hHeld ?_
        try simp only [Act.put, List.setIfInBounds_toArray, List.set_cons_zero, List.set_cons_succ]
        refine wpAnyH_take (i := 7) (v := undef) (by first | (simp only [List.getElem?_toArray, List.getElem?_cons_succ, List.getElem?_cons_zero]; done) | (simp only [List.getElem?_toArray, List.getElem?_cons_succ, List.getElem?_cons_zero]; rfl)) (by kernel_rfl) (by kernel_rfl) (by kernel_rfl) (by exact fun _ _ _ h => h) (Or.inr ⟨by rfl, rfl⟩) hHeld ?_
        try simp only [Act.put, List.setIfInBounds_toArray, List.set_cons_zero, List.set_cons_succ]
        refine wpAnyH_take (i := 8) (v := undef) (by first | (simp only [List.getElem?_toArray, List.getElem?_cons_succ, List.getElem?_cons_zero]; done) | (simp only [List.getElem?_toArray, List.getElem?_cons_succ, List.getElem?_cons_zero]; rfl)) (by kernel_rfl) (by kernel_rfl) (by kernel_rfl) (by exact fun _ _ _ h => h) (Or.inr ⟨by rfl, rfl⟩) hHeld ?_
        try simp only [Act.put, List.setIfInBounds_toArray, List.set_cons_zero, List.set_cons_succ]
        refine wpAnyH_take (i := 9) (v := undef) (by first | (simp only [List.getElem?_toArray, List.getElem?_cons_succ, List.getElem?_cons_zero]; done) | (simp only [List.getElem?_toArray, List.getElem?_cons_succ, List.getElem?_cons_zero]; rfl)) (by kernel_rfl) (by kernel_rfl) (by kernel_rfl) (by exact fun _ _ _ h => h) (Or.inr ⟨by rfl, rfl⟩) hHeld ?_
        try simp only [Act.put, List.setIfInBounds_toArray, List.set_cons_zero, List.set_cons_succ]
        refine wpAnyH_take (i := 10) (v := undef) (by first | (simp only [List.getElem?_toArray, List.getElem?_cons_succ, List.getElem?_cons_zero]; done) | (simp only [List.getElem?_toArray, List.getElem?_cons_succ, List.getElem?_cons_zero]; rfl)) (by kernel_rfl) (by kernel_rfl) (by kernel_rfl) (by exact fun _ _ _ h => h) (Or.inr ⟨by rfl, rfl⟩) hHeld ?_
        try simp only [Act.put, List.setIfInBounds_toArray, List.set_cons_zero, List.set_cons_succ]
        refine wpAnyH_take (i := 11) (v := ?_) (by first | (simp only [List.getElem?_toArray, List.getElem?_cons_succ, List.getElem?_cons_zero]; done) | (simp only [List.getElem?_toArray, List.getElem?_cons_succ, List.getElem?_cons_zero]; rfl)) (by kernel_rfl) (by kernel_rfl) (by kernel_rfl) (by exact fun _ _ _ h => h) (Or.inl ⟨by rfl, ?_⟩) hHeld ?_
        rotate_left 1
        · intro wq hSw
          go_simp
          all_goals with_reducible rfl
        try simp only [Act.put, List.setIfInBounds_toArray, List.set_cons_zero, List.set_cons_succ]
        refine wpAnyH_done (by kernel_rfl) ?_ _
        go_wp2_with fail
        go_ret
        exact ⟨by rw [hf.out]; rfl, below2 hW6 hq2⟩
      · rw [hok] at KC
        have HOK := Lib.hid hok
        clear hok HN0
        cases hfo : folA (s.take k) ⟨xv, xr, xo, xs⟩
        · have hf := Lib.hid (HN1.out hfo)
          rw [hfo] at KF
          clear hfo HN1 HN2
          go_wp2_with fail
          refine wp_region_held_drew (S := (fun wx => Below w6.heap.size w6 wx)) (by kernel_rfl) ?_ (fun hHeld => ?_)
          · exact (Below.refl _ _).drew
          refine wpAnyH_take (i := 0) (v := ?_) (by first | (simp only [List.getElem?_toArray, List.getElem?_cons_succ, List.getElem?_cons_zero]; done) | (simp only [List.getElem?_toArray, List.getElem?_cons_succ, List.getElem?_cons_zero]; rfl)) (by kernel_rfl) (by kernel_rfl) (by kernel_rfl) (by exact fun _ _ _ h => h) (Or.inl ⟨by rfl, ?_⟩) hHeld ?_
          rotate_left 1
          · intro wq hSw
            go_simp
            all_goals with_reducible rfl
          try simp only [Act.put, List.setIfInBounds_toArray, List.set_cons_zero, List.set_cons_succ]
          refine wpAnyH_take (i := 1) (v := ?_) (by first | (simp only [List.getElem?_toArray, List.getElem?_cons_succ, List.getElem?_cons_zero]; done) | (simp only [List.getElem?_toArray, List.getElem?_cons_succ, List.getElem?_cons_zero]; rfl)) (by kernel_rfl) (by kernel_rfl) (by kernel_rfl) (by exact fun _ _ _ h => h) (Or.inl ⟨by rfl, ?_⟩) hHeld ?_
          rotate_left 1
          · intro wq hSw
            obtain ⟨g0, g1, g2, g3⟩ := HB4.out _ hSw
            go_simp
            all_goals with_reducible rfl
          try simp only [Act.put, List.setIfInBounds_toArray, List.set_cons_zero, List.set_cons_succ]
          refine wpAnyH_ready (rs := [2]) (by kernel_rfl) (by simp) ?_
          refine AllReadyH.cons (by first | (simp only [List.getElem?_toArray, List.getElem?_cons_succ, List.getElem?_cons_zero]; done) | (simp only [List.getElem?_toArray, List.getElem?_cons_succ, List.getElem?_cons_zero]; rfl)) (fun K hK => ?_) AllReadyH.nil
          go_simp
          go_at_call 47
          with_reducible refine (KC.out _ hHeld).mono ?_
          rintro e v1 ⟨rfl, q2⟩
          have hq2 := below2 hHeld q2
          go_wp2_with fail
          refine hK.out _ _ ?_ (fun hHeld => ?_)
          · exact hq2
          clear hK K
          try simp only [Act.put, List.setIfInBounds_toArray, List.set_cons_zero, List.set_cons_succ]
          refine wpAnyH_take (i := 3) (v := ?_) (by first | (simp only [List.getElem?_toArray, List.getElem?_cons_succ, List.getElem?_cons_zero]; done) | (simp only [List.getElem?_toArray, List.getElem?_cons_succ, List.getElem?_cons_zero]; rfl)) (by kernel_rfl) (by kernel_rfl) (by kernel_rfl) (by exact fun _ _ _ h => h) (Or.inl ⟨by rfl, ?_⟩) hHeld ?_
          rotate_left 1
          · intro wq hSw
            go_simp
            all_goals with_reducible rfl
          try simp only [Act.put, List.setIfInBounds_toArray, List.set_cons_zero, List.set_cons_succ]
          refine wpAnyH_take (i := 4) (v := ?_) (by first | (simp only [List.getElem?_toArray, List.getElem?_cons_succ, List.getElem?_cons_zero]; done) | (simp only [List.getElem?_toArray, List.getElem?_cons_succ, List.getElem?_cons_zero]; rfl)) (by kernel_rfl) (by kernel_rfl) (by kernel_rfl) (by exact fun _ _ _ h => h) (Or.inl ⟨by rfl, ?_⟩) hHeld ?_
          rotate_left 1
          · intro wq hSw
            go_simp
            all_goals with_reducible rfl
          try simp only [Act.put, List.setIfInBounds_toArray, List.set_cons_zero, List.set_cons_succ]
          refine wpAnyH_take (i := 5) (v := ?_) (by first | (simp only [List.getElem?_toArray, List.getElem?_cons_succ, List.getElem?_cons_zero]; done) | (simp only [List.getElem?_toArray, List.getElem?_cons_succ, List.getElem?_cons_zero]; rfl)) (by kernel_rfl) (by kernel_rfl) (by kernel_rfl) (by exact fun _ _ _ h => h) (Or.inl ⟨by rfl, ?_⟩) hHeld ?_
          rotate_left 1
          · intro wq hSw
            go_simp
            all_goals with_reducible rfl
          try simp only [Act.put, List.setIfInBounds_toArray, List.set_cons_zero, List.set_cons_succ]
          refine wpAnyH_take (i := 6) (v := ?_) (by first | (simp only [List.getElem?_toArray, List.getElem?_cons_succ, List.getElem?_cons_zero]; done) | (simp only [List.getElem?_toArray, List.getElem?_cons_succ, List.getElem?_cons_zero]; rfl)) (by kernel_rfl) (by kernel_rfl) (by kernel_rfl) (by exact fun _ _ _ h => h) (Or.inl ⟨by rfl, ?_⟩) hHeld ?_
          rotate_left 1
          · intro wq hSw
            go_simp
            all_goals with_reducible rfl
          try simp only [Act.put, List.setIfInBounds_toArray, List.set_cons_zero, List.set_cons_succ]
          refine wpAnyH_take (i := 7) (v := ?_) (by first | (simp only [List.getElem?_toArray, List.getElem?_cons_succ, List.getElem?_cons_zero]; done) | (simp only [List.getElem?_toArray, List.getElem?_cons_succ, List.getElem?_cons_zero]; rfl)) (by kernel_rfl) (by kernel_rfl) (by kernel_rfl) (by exact fun _ _ _ h => h) (Or.inl ⟨by rfl, ?_⟩) hHeld ?_
          rotate_left 1
          · intro wq hSw
            go_simp
            all_goals with_reducible rfl
          try simp only [Act.put, List.setIfInBounds_toArray, List.set_cons_zero, List.set_cons_succ]
          refine wpAnyH_take (i := 8) (v := ?_) (by first | (simp only [List.getElem?_toArray, List.getElem?_cons_succ, List.getElem?_cons_zero]; done) | (simp only [List.getElem?_toArray, List.getElem?_cons_succ, List.getElem?_cons_zero]; rfl)) (by kernel_rfl) (by kernel_rfl) (by kernel_rfl) (by exact fun _ _ _ h => h) (Or.inl ⟨by rfl, ?_⟩) hHeld ?_
          rotate_left 1
          · intro wq hSw
            obtain ⟨g0, g1, g2, g3⟩ := HB4.out _ hSw
            go_simp
            all_goals with_reducible rfl
          try simp only [Act.put, List.setIfInBounds_toArray, List.set_cons_zero, List.set_cons_succ]
          refine wpAnyH_ready (rs := [9]) (by kernel_rfl) (by simp) ?_
          refine AllReadyH.cons (by first | (simp only [List.getElem?_toArray, List.getElem?_cons_succ, List.getElem?_cons_zero]; done) | (simp only [List.getElem?_toArray, List.getElem?_cons_succ, List.getElem?_cons_zero]; rfl)) (fun K hK => ?_) AllReadyH.nil
          go_simp
          go_at_call 48
          with_reducible refine (KF.out _ hHeld).mono ?_
          rintro e v2 ⟨rfl, q9⟩
          have hq9 := below2 hHeld q9
          go_wp2_with fail
          refine hK.out _ _ ?_ (fun hHeld => ?_)
          · exact hq9
          clear hK K
          try simp only [Act.put, List.setIfInBounds_toArray, List.set_cons_zero, List.set_cons_succ]
          refine wpAnyH_take (i := 10) (v := ?_) (by first | (simp only [List.getElem?_toArray, List.getElem?_cons_succ, List.getElem?_cons_zero]; done) | (simp only [List.getElem?_toArray, List.getElem?_cons_succ, List.getElem?_cons_zero]; rfl)) (by kernel_rfl) (by kernel_rfl) (by kernel_rfl) (by exact fun _ _ _ h => h) (Or.inl ⟨by rfl, ?_⟩) hHeld ?_
          rotate_left 1
          · intro wq hSw
            go_simp
            all_goals with_reducible rfl
          try simp only [Act.put, List.setIfInBounds_toArray, List.set_cons_zero, List.set_cons_succ]
          refine wpAnyH_take (i := 11) (v := ?_) (by first | (simp only [List.getElem?_toArray, List.getElem?_cons_succ, List.getElem?_cons_zero]; done) | (simp only [List.getElem?_toArray, List.getElem?_cons_succ, List.getElem?_cons_zero]; rfl)) (by kernel_rfl) (by kernel_rfl) (by kernel_rfl) (by exact fun _ _ _ h => h) (Or.inl ⟨by rfl, ?_⟩) hHeld ?_
          rotate_left 1
          · intro wq hSw
            go_simp
            all_goals with_reducible rfl
          try simp only [Act.put, List.setIfInBounds_toArray, List.set_cons_zero, List.set_cons_succ]
          refine wpAnyH_done (by kernel_rfl) ?_ _
          go_wp2_with fail
          go_ret
          exact ⟨by rw [hf.out]; rfl, below2 hW6 hq9⟩
        · have HS2 := Lib.hid (HN2.out HOK.out hfo)
          rw [hfo] at KF
          clear hfo HN1 HN2
          go_wp2_with fail
          refine wp_region_held_drew (S := (fun wx => Below w6.heap.size w6 wx)) (by kernel_rfl) ?_ (fun hHeld => ?_)
          · exact (Below.refl _ _).drew
          refine wpAnyH_take (i := 0) (v := ?_) (by first | (simp only [List.getElem?_toArray, List.getElem?_cons_succ, List.getElem?_cons_zero]; done) | (simp only [List.getElem?_toArray, List.getElem?_cons_succ, List.getElem?_cons_zero]; rfl)) (by kernel_rfl) (by kernel_rfl) (by kernel_rfl) (by exact fun _ _ _ h => h) (Or.inl ⟨by rfl, ?_⟩) hHeld ?_
          rotate_left 1
          · intro wq hSw
            go_simp
            all_goals with_reducible rfl
          try simp only [Act.put, List.setIfInBounds_toArray, List.set_cons_zero, List.set_cons_succ]
          refine wpAnyH_take (i := 1) (v := ?_) (by first | (simp only [List.getElem?_toArray, List.getElem?_cons_succ, List.getElem?_cons_zero]; done) | (simp only [List.getElem?_toArray, List.getElem?_cons_succ, List.getElem?_cons_zero]; rfl)) (by kernel_rfl) (by kernel_rfl) (by kernel_rfl) (by exact fun _ _ _ h => h) (Or.inl ⟨by rfl, ?_⟩) hHeld ?_
          rotate_left 1
          · intro wq hSw
            obtain ⟨g0, g1, g2, g3⟩ := HB4.out _ hSw
            go_simp
            all_goals with_reducible rfl
          try simp only [Act.put, List.setIfInBounds_toArray, List.set_cons_zero, List.set_cons_succ]
          refine wpAnyH_ready (rs := [2]) (by kernel_rfl) (by simp) ?_
          refine AllReadyH.cons (by first | (simp only [List.getElem?_toArray, List.getElem?_cons_succ, List.getElem?_cons_zero]; done) | (simp only [List.getElem?_toArray, List.getElem?_cons_succ, List.getElem?_cons_zero]; rfl)) (fun K hK => ?_) AllReadyH.nil
          go_simp
          go_at_call 47
          with_reducible refine (KC.out _ hHeld).mono ?_
          rintro e v1 ⟨rfl, q2⟩
          have hq2 := below2 hHeld q2
          go_wp2_with fail
          refine hK.out _ _ ?_ (fun hHeld => ?_)
          · exact hq2
          clear hK K
          try simp only [Act.put, List.setIfInBounds_toArray, List.set_cons_zero, List.set_cons_succ]
          refine wpAnyH_take (i := 3) (v := ?_) (by first | (simp only [List.getElem?_toArray, List.getElem?_cons_succ, List.getElem?_cons_zero]; done) | (simp only [List.getElem?_toArray, List.getElem?_cons_succ, List.getElem?_cons_zero]; rfl)) (by kernel_rfl) (by kernel_rfl) (by kernel_rfl) (by exact fun _ _ _ h => h) (Or.inl ⟨by rfl, ?_⟩) hHeld ?_
          rotate_left 1
          · intro wq hSw
            go_simp
            all_goals with_reducible rfl
          try simp only [Act.put, List.setIfInBounds_toArray, List.set_cons_zero, List.set_cons_succ]
          refine wpAnyH_take (i := 4) (v := ?_) (by first | (simp only [List.getElem?_toArray, List.getElem?_cons_succ, List.getElem?_cons_zero]; done) | (simp only [List.getElem?_toArray, List.getElem?_cons_succ, List.getElem?_cons_zero]; rfl)) (by kernel_rfl) (by kernel_rfl) (by kernel_rfl) (by exact fun _ _ _ h => h) (Or.inl ⟨by rfl, ?_⟩) hHeld ?_
          rotate_left 1
          · intro wq hSw
            go_simp
            all_goals with_reducible rfl
          try simp only [Act.put, List.setIfInBounds_toArray, List.set_cons_zero, List.set_cons_succ]
          refine wpAnyH_take (i := 5) (v := ?_) (by first | (simp only [List.getElem?_toArray, List.getElem?_cons_succ, List.getElem?_cons_zero]; done) | (simp only [List.getElem?_toArray, List.getElem?_cons_succ, List.getElem?_cons_zero]; rfl)) (by kernel_rfl) (by kernel_rfl) (by kernel_rfl) (by exact fun _ _ _ h => h) (Or.inl ⟨by rfl, ?_⟩) hHeld ?_
          rotate_left 1
          · intro wq hSw
            go_simp
            all_goals with_reducible rfl
          try simp only [Act.put, List.setIfInBounds_toArray, List.set_cons_zero, List.set_cons_succ]
          refine wpAnyH_take (i := 6) (v := ?_) (by first | (simp only [List.getElem?_toArray, List.getElem?_cons_succ, List.getElem?_cons_zero]; done) | (simp only [List.getElem?_toArray, List.getElem?_cons_succ, List.getElem?_cons_zero]; rfl)) (by kernel_rfl) (by kernel_rfl) (by kernel_rfl) (by exact fun _ _ _ h => h) (Or.inl ⟨by rfl, ?_⟩) hHeld ?_
          rotate_left 1
          · intro wq hSw
            go_simp
            all_goals with_reducible rfl
          try simp only [Act.put, List.setIfInBounds_toArray, List.set_cons_zero, List.set_cons_succ]
          refine wpAnyH_take (i := 7) (v := ?_) (by first | (simp only [List.getElem?_toArray, List.getElem?_cons_succ, List.getElem?_cons_zero]; done) | (simp only [List.getElem?_toArray, List.getElem?_cons_succ, List.getElem?_cons_zero]; rfl)) (by kernel_rfl) (by kernel_rfl) (by kernel_rfl) (by exact fun _ _ _ h => h) (Or.inl ⟨by rfl, ?_⟩) hHeld ?_
          rotate_left 1
          · intro wq hSw
            go_simp
            all_goals with_reducible rfl
          try simp only [Act.put, List.setIfInBounds_toArray, List.set_cons_zero, List.set_cons_succ]
          refine wpAnyH_take (i := 8) (v := ?_) (by first | (simp only [List.getElem?_toArray, List.getElem?_cons_succ, List.getElem?_cons_zero]; done) | (simp only [List.getElem?_toArray, List.getElem?_cons_succ, List.getElem?_cons_zero]; rfl)) (by kernel_rfl) (by kernel_rfl) (by kernel_rfl) (by exact fun _ _ _ h => h) (Or.inl ⟨by rfl, ?_⟩) hHeld ?_
          rotate_left 1
          · intro wq hSw
            obtain ⟨g0, g1, g2, g3⟩ := HB4.out _ hSw
            go_simp
            all_goals with_reducible rfl
          try simp only [Act.put, List.setIfInBounds_toArray, List.set_cons_zero, List.set_cons_succ]
          refine wpAnyH_ready (rs := [9]) (by kernel_rfl) (by simp) ?_
          refine AllReadyH.cons (by first | (simp only [List.getElem?_toArray, List.getElem?_cons_succ, List.getElem?_cons_zero]; done) | (simp only [List.getElem?_toArray, List.getElem?_cons_succ, List.getElem?_cons_zero]; rfl)) (fun K hK => ?_) AllReadyH.nil
          go_simp
          go_at_call 48
          with_reducible refine (KF.out _ hHeld).mono ?_
          rintro e v2 ⟨rfl, q9⟩
          have hq9 := below2 hHeld q9
          go_wp2_with fail
          refine hK.out _ _ ?_ (fun hHeld => ?_)
          · exact hq9
          clear hK K
          try simp only [Act.put, List.setIfInBounds_toArray, List.set_cons_zero, List.set_cons_succ]
          refine wpAnyH_take (i := 10) (v := ?_) (by first | (simp only [List.getElem?_toArray, List.getElem?_cons_succ, List.getElem?_cons_zero]; done) | (simp only [List.getElem?_toArray, List.getElem?_cons_succ, List.getElem?_cons_zero]; rfl)) (by kernel_rfl) (by kernel_rfl) (by kernel_rfl) (by exact fun _ _ _ h => h) (Or.inl ⟨by rfl, ?_⟩) hHeld ?_
          rotate_left 1
          · intro wq hSw
            go_simp
            all_goals with_reducible rfl
          try simp only [Act.put, List.setIfInBounds_toArray, List.set_cons_zero, List.set_cons_succ]
          refine wpAnyH_take (i := 11) (v := ?_) (by first | (simp only [List.getElem?_toArray, List.getElem?_cons_succ, List.getElem?_cons_zero]; done) | (simp only [List.getElem?_toArray, List.getElem?_cons_succ, List.getElem?_cons_zero]; rfl)) (by kernel_rfl) (by kernel_rfl) (by kernel_rfl) (by exact fun _ _ _ h => h) (Or.inl ⟨by rfl, ?_⟩) hHeld ?_
          rotate_left 1
          · intro wq hSw
            go_simp
            all_goals with_reducible rfl
          try simp only [Act.put, List.setIfInBounds_toArray, List.set_cons_zero, List.set_cons_succ]
          refine wpAnyH_done (by kernel_rfl) ?_ _
          go_wp2_with fail
          go_roundg gk
          case measure => omega
          case rel => exact ⟨k + 1, np6, c6, A6, _, by omega, by go_num, rfl, HN6.out, HA6.out.step hq9, (fun p h0 hp => HP6.out w6 (Below.refl _ _) p h0 hp), below2 hU6 hq9, HS2.out⟩
end Go.Proofs.YtipipjbpjpdcbaaDoor.Al
