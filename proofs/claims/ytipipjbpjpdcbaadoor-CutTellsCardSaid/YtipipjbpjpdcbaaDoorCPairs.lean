/- Layer 7: Pairs, to the letter. -/
import Derived.Test.YtipipjbpjpdcbaaDoorCRef3
namespace Go.Proofs.YtipipjbpjpdcbaaDoor.Ct
set_option linter.unusedVariables false
open Go.RowKit
open Go.Proofs.YtipipjbpjpdcbaaDoor.W
open Go.Proofs.YtipipjbpjpdcbaaDoor.V
open Go.Proofs.YtipipjbpjpdcbaaDoor.O
open Go.Proofs.YtipipjbpjpdcbaaDoor.Pb (Alr alrC alrsC two_blk step_append_alr reads_blk)
open Go.Proofs.YtipipjbpjpdcbaaDoor.Al

/-- Words of 16 bits as they come in. -/
@[reducible] def u16V (x : Nat) : Value := .int .u16 (x : Int)
structure US (w : World) (B : Nat) (xs : List Nat) (L : Option Addr) (c : Nat) : Prop where
  rd : Reads w B 1 L xs.length (xs.map u16V)
  l40 : xs.length ≤ 1099511627776
  el : ∀ x ∈ xs, x < 65536
  cap : xs.length ≤ c
theorem US.below {w W : World} {B : Nat} {xs : List Nat} {L : Option Addr} {c : Nat} (h : US w B xs L c) (hb : Below B w W) : US W B xs L c := { h with rd := h.rd.below hb }
theorem US.more {w : World} {B B' : Nat} {xs : List Nat} {L : Option Addr} {c : Nat} (h : US w B xs L c) (hb : B ≤ B') : US w B' xs L c := { h with rd := h.rd.more hb }
/-- The alert that a number selects. -/
def pairO (num x : Int) (r : Nat) (o : List Int) : List Alr := match o[r]? with
  | none => []
  | some z => [⟨num, (r : Int), z, x⟩]
def pair1 (num : Int) (l : List Int) (xv : Nat) : List Alr :=
  if 32768 ≤ xv then pairO num (1 + ((xv / 8 % 1000 : Nat) : Int)) (xv % 8 % 5) (obsL K l (1 + ((xv / 8 % 1000 : Nat) : Int)))
  else match l[xv / 8 % l.length]? with
    | none => []
    | some x => pairO num x (xv % 8 % 5) (obsL K l x)
def pairsF (num : Int) (l : List Int) (xs : List Nat) : List Alr := xs.flatMap (pair1 num l)
theorem pairsF_snoc {num : Int} {l : List Int} {xs : List Nat} {k x : Nat} (h : xs[k]? = some x) : pairsF num l (xs.take (k + 1)) = pairsF num l (xs.take k) ++ pair1 num l x := by
  unfold pairsF
  rw [List.take_add_one, h, List.flatMap_append]
  simp
theorem pairsF_app {num : Int} {l : List Int} {a b : List Nat} : pairsF num l (a ++ b) = pairsF num l a ++ pairsF num l b := by unfold pairsF; rw [List.flatMap_append]
theorem pair1_big {num : Int} {l : List Int} {xv yq r : Nat} (h : 32768 ≤ xv) (hy : yq = xv / 8 % 1000) (hr : r = xv % 8 % 5) : pair1 num l xv = pairO num (1 + (yq : Int)) r (obsL K l (1 + (yq : Int))) := by
  subst hy hr
  unfold pair1
  rw [if_pos h]
theorem pair1_sm {num : Int} {l : List Int} {xv r : Nat} {x : Int} (h : ¬ 32768 ≤ xv) (hx : l[xv / 8 % l.length]? = some x) (hr : r = xv % 8 % 5) : pair1 num l xv = pairO num x r (obsL K l x) := by
  subst hr
  unfold pair1
  rw [if_neg h, hx]
/-- What Pairs leaves. -/
def OutPf (num : Int) (l : List Int) (n : Nat) (F : List Alr) (w : World) (e : Ending) (w' : World) : Prop := ∃ X cX, e = .returned (.slice X F.length cX) ∧ AS w' w'.heap.size F X cX ∧ (∀ x ∈ F, okA K num l x = true) ∧ F.length ≤ n ∧ Below w.heap.size w w'
theorem okA_elC {num : Int} {l : List Int} {a : Alr} (hnum : In64 num) (h : okA K num l a = true) : El a := by
  have h1 := okA_in h inj_K
  obtain ⟨_, h2, h3, h4, _⟩ := okA_iff.1 h
  unfold inA at h1
  simp only [Bool.and_eq_true] at h1
  obtain ⟨_, _, h5, h6⟩ := h1
  unfold isID at h5 h6
  simp at h5 h6
  exact ⟨by rw [h2]; exact hnum, ⟨by omega, by omega⟩, ⟨by omega, by omega⟩, ⟨by omega, by omega⟩⟩
theorem obs_ok {num : Int} {l : List Int} {x z : Int} {r : Nat} (hv : validV num l = true) (hr : r < 5) (hz : (obsL K l x)[r]? = some z) : okA K num l ⟨num, (r : Int), z, x⟩ = true :=
  okA_iff.2 ⟨hv, rfl, by show (0 : Int) ≤ (r : Int); omega, by show (r : Int) < 5; omega, by simpa using hz⟩
theorem quo8 (x : Nat) (hx : x < 65536) (W : World) : (binOp .quo 42 (.int .u16 (x : Int)) (.int .u16 8)).run Tryd.prog W = .ok (.int .u16 ((x / 8 : Nat) : Int)) W := by
  simp [go_sem]
  rw [IntKind.wrap_u16]; omega
theorem rem8 (x : Nat) (hx : x < 65536) (W : World) : (binOp .rem 42 (.int .u16 (x : Int)) (.int .u16 8)).run Tryd.prog W = .ok (.int .u16 ((x % 8 : Nat) : Int)) W := by
  simp [go_sem]
  rw [IntWalk.rem_in _ _ (by omega)]
theorem mod_idx (s n : Nat) (hn : 0 < n) : ∃ a : Nat, a < n ∧ a = s % n ∧ (s : Int).tmod (n : Int) = (a : Int) :=
  ⟨s % n, Nat.mod_lt _ hn, rfl, by rw [IntWalk.rem_in _ _ (by omega), Int.natCast_emod]⟩
set_option maxRecDepth 1000000 in
set_option maxHeartbeats 4000000 in
theorem pairsF_any (num : Int) (l : List Int) (A L : Option Addr) (c cL B : Nat) (xs : List Nat) (w : World) (h : VW w B num l A c) (hs : US w B xs L cL) (hB : B ≤ w.heap.size) (hv : validV num l = true) :
    Calls Tryd.prog 25 #[.agg #[.int .i64 num, .slice A l.length c], .slice L xs.length cL] w (OutPf num l xs.length (pairsF num l xs) w) := by
  have hb0 := (Below.refl w.heap.size w).alloc (Nat.le_refl _) (.cells #[.int .i64 num, .slice A l.length c] 24)
  have hz := Blk.new w 24 #[.int .i64 num, .slice A l.length c]
  have KV := Lib.hid (fun W (hW : Below w.heap.size w W) => refValid_any num l A c w.heap.size W ((h.more hB).below hW) hW.size)
  have KO := Lib.hid (fun (x : Int) (hx : In64 x) W (hW : Below w.heap.size w W) => (refObservers_any x A c w.heap.size l W ⟨((h.more hB).below hW).rd, h.l40, h.el, h.cap⟩ hW.size hx).mono fun _ _ h => h.to (obsL K l x) (obsL K l x).length rfl rfl)
  have RX := Lib.hid (fun W (hW : Below w.heap.size w W) => ((hs.more hB).below hW).rd)
  have RL := Lib.hid (fun W (hW : Below w.heap.size w W) => ((h.more hB).below hW).rd)
  have EX := Lib.hid hs.el
  have EL := Lib.hid h.el
  have n64 := h.num64
  have HV := Lib.hid hv
  have hx40 := hs.l40
  have g := validM_iff.1 (validV_iff.1 hv).2.2
  have hl1 := g.1
  have hl16 := g.2.1
  rw [hv] at KV
  dsimp only [vwV] at KV
  obtain ⟨n, hn⟩ : ∃ m, m = xs.length := ⟨_, rfl⟩
  have HN := Lib.hid hn
  have HFA := Lib.hid (show pairsF num l (xs.take n) = pairsF num l xs by rw [hn, List.take_length])
  rw [← hn] at RX hx40 ⊢
  obtain ⟨F, hF⟩ : ∃ q, q = pairsF num l xs := ⟨_, rfl⟩
  rw [← hF] at HFA ⊢
  clear hF
  obtain ⟨nl, hnl⟩ : ∃ m, m = l.length := ⟨_, rfl⟩
  have HNL := Lib.hid hnl
  rw [← hnl] at hb0 hz KO KV RL hl1 hl16 ⊢
  have B0 := Lib.hid hb0
  have Z1 := Lib.hid hz
  clear hb0 hz hn hnl h hs hv g
  have qz : ((nl : Int) == 0) = false := beqF (by omega)
  have qn : ¬ nl = 0 := by omega
  go_enter Tryd.func25, Tryd.ntmps25
  go_upto_region 1 with fail
  generalize w.alloc (.cells #[.int .i64 num, .slice A nl c] 24) = w0 at *
  have FB := Lib.hid (fun W (hW : Below w0.heap.size w0 W) => blk2 (Z1.out.below hW Z1.out.lt))
  go_wp2_with fail
  go_loopg [5, 6] n (fun gk s5 s6 wr => ∃ (k : Nat) (P : List Alr), k + gk = n ∧ s6 = .int .i64 k ∧ P.length ≤ k ∧ Hid (wr.ownsRow w0.heap.size 48 4 s5 P.length (alrsC P)) ∧ Hid (∀ x ∈ P, okA K num l x = true) ∧ Hid (P = pairsF num l (xs.take k)) ∧ Hid (Below w0.heap.size w0 wr))
  case atStart => exact ⟨0, [], by omega, rfl, Nat.le_refl _, World.ownsRow_nil _ _ _ _, (fun x hx => by cases hx), rfl, Below.refl _ _⟩
  case round =>
    obtain ⟨k, P, hkg, rfl, hPk, HO, HP, HPF, HW⟩ := hrel
    have WW := Lib.hid (below2s B0.out HW.out)
    have p1 := FB.out _ HW.out
    cases gk with
    | zero =>
      have hkz : ¬ ((k : Int) < (n : Int)) := by omega
      obtain ⟨X, cX, rfl, has⟩ := AS.of_own HO.out (by omega) fun x hx => okA_elC n64 (HP.out x hx)
      have HAS := Lib.hid has
      clear has
      go_wp2_with fail
      go_ret
      have hPF : P = F := by have h1 := HPF.out; have h2 := HFA.out; rw [show k = n by omega] at h1; exact h1.trans h2
      exact hPF ▸ ⟨X, cX, rfl, HAS.out, HP.out, by omega, WW.out⟩
    | succ gk =>
      have hkz : (k : Int) < (n : Int) := by omega
      go_upto_region 5 with (first
        | (go_at_call 19; (with_reducible refine (KV.out _ WW.out).mono ?_); rintro e w2 ⟨rfl, b2⟩)
        | fail)
      have W2 := Lib.hid (below2s WW.out b2)
      have V2 := Lib.hid (below2s HW.out b2)
      have HO2 := Lib.hid (own_below HO.out b2)
      have p2 := FB.out _ V2.out
      clear p1 b2
      obtain ⟨xv, hxv⟩ : ∃ x, xs[k]? = some x := ⟨_, List.getElem?_eq_getElem (by have := HN.out; omega)⟩
      obtain ⟨ad, u, rfl, -, hxu, hcx⟩ := (RX.out _ W2.out).at_ (k := k) (by omega)
      have h1 : u = .int .u16 (xv : Int) := by simp [hxv, u16V] at hxu; exact hxu.symm
      rw [h1] at hcx
      have HSN := Lib.hid (show pairsF num l (xs.take (k + 1)) = P ++ pair1 num l xv from by rw [pairsF_snoc hxv, ← HPF.out])
      have hx16 : xv < 65536 := EX.out xv (List.mem_of_getElem? hxv)
      obtain ⟨y, hy⟩ : ∃ y : Nat, y = xv / 8 := ⟨_, rfl⟩
      have HY8 := Lib.hid hy
      have d8 : (xv : Int) / 8 = (y : Int) := by omega
      have hq8 := fun W => quo8 xv hx16 W
      rw [← hy] at hq8
      have q80 : ((8 : Int) == 0) = false := rfl
      have ht8 : (xv : Int).tdiv 8 = (y : Int) := by rw [Int.tdiv_eq_ediv_of_nonneg (by omega)]; omega
      have w16 : IntKind.u16.wrap (y : Int) = (y : Int) := by rw [IntKind.wrap_u16]; omega
      have wy : IntKind.i64.wrap (y : Int) = (y : Int) := IntWalk.i64_in _ (by omega)
      obtain ⟨i, hi, hii, hmi⟩ := mod_idx y nl (by omega)
      obtain ⟨md, hmd⟩ : ∃ x, l[i]? = some x := ⟨_, List.getElem?_eq_getElem (by have := HNL.out; omega)⟩
      have HMD := Lib.hid (show l[xv / 8 % l.length]? = some md by rw [← HY8.out, ← HNL.out, ← hii]; exact hmd)
      clear hii
      obtain ⟨bd, u', rfl, -, hyu, hcy⟩ := (RL.out _ W2.out).at_ (k := i) hi
      have h2 : u' = .int .i64 md := by simp [hmd, intV] at hyu; exact hyu.symm
      rw [h2] at hcy
      have hi' : (i : Int) < (nl : Int) := by omega
      have m64 := EL.out md (List.mem_of_getElem? hmd)
      have hy8 : y < 8192 := by omega
      clear h1 h2 hxu hyu hxv hmd hy
      go_quiet (fail)
      have W5 := Lib.hid (show Below w.heap.size w (w2.drewN nq) from below_drewN' W2.out _)
      have V5 := Lib.hid (show Below w0.heap.size w0 (w2.drewN nq) from below_drewN' V2.out _)
      obtain ⟨v8, hv8, he8, hm8⟩ := mod_idx xv 8 (by decide)
      have hr8 := fun W => rem8 xv hx16 W
      rw [← he8] at hr8
      have HE8 := Lib.hid he8
      clear he8
      have wv8 : IntKind.i64.wrap (v8 : Int) = (v8 : Int) := IntWalk.i64_in _ (by omega)
      obtain ⟨r, hr5, hrr, hm5⟩ := mod_idx v8 5 (by decide)
      have HRR := Lib.hid (show r = xv % 8 % 5 by rw [← HE8.out]; exact hrr)
      clear hrr
      obtain ⟨yq, hyq, hqq, hmq⟩ := mod_idx y 1000 (by decide)
      have HQQ := Lib.hid (show yq = xv / 8 % 1000 by rw [← HY8.out]; exact hqq)
      clear hqq
      replace hm8 : (xv : Int).tmod 8 = (v8 : Int) := hm8
      replace hm5 : (v8 : Int).tmod 5 = (r : Int) := hm5
      replace hmq : (y : Int).tmod 1000 = (yq : Int) := hmq
      have wq1 : IntKind.i64.wrap (1 + (yq : Int)) = 1 + (yq : Int) := IntWalk.i64_in _ (by omega)
      by_cases hbig : 32768 ≤ xv
      · have hbi : decide ((32768 : Int) ≤ (xv : Int)) = true := by simp; omega
        have S64 : In64 (1 + (yq : Int)) := ⟨by omega, by omega⟩
        have HPO := Lib.hid (pair1_big (num := num) (l := l) hbig HQQ.out HRR.out)
        clear hbig
        have K3 := Lib.hid (KO.out (1 + (yq : Int)) S64)
        have OC := Lib.hid (obs_cases l (1 + (yq : Int)))
        have OZ := Lib.hid (fun (r : Nat) (z : Int) (hr : r < 5) (hz : (obsL K l (1 + (yq : Int)))[r]? = some z) => obs_ok (num := num) HV.out hr hz)
        generalize obsL K l (1 + (yq : Int)) = o at *
        obtain ⟨no, hno⟩ : ∃ m, m = o.length := ⟨_, rfl⟩
        have HNO := Lib.hid hno
        rw [← hno] at K3
        clear hno
        go_upto_region 10 with (first
          | (go_at_call 22; (with_reducible refine (K3.out (w2.drewN nq) W5.out).mono ?_); rintro e w6 ⟨X6, c6, rfl, hc6, ho6, hr6, q6⟩)
          | fail)
        have W6 := Lib.hid (below2s W5.out q6)
        have V6 := Lib.hid (below2s V5.out q6)
        have HO6 := Lib.hid (own_below (show (w2.drewN nq).ownsRow _ _ _ _ _ _ from HO2.out) q6)
        have hs6 : w0.heap.size ≤ w6.heap.size := V6.out.size
        have p6 := FB.out _ V6.out
        clear p2 q6 ho6 hc6
        by_cases ho0 : o = []
        · have hn0 : no = 0 := by rw [HNO.out, ho0]; rfl
          subst hn0
          have HPN := Lib.hid (show P = pairsF num l (xs.take (k + 1)) by rw [HSN.out, HPO.out, ho0]; simp [pairO])
          clear ho0
          go_wp2_with fail
          go_roundg gk
          case measure => omega
          case rel => exact ⟨k + 1, P, by omega, by go_num, by omega, HO6.out, HP.out, HPN.out, V6.out⟩
        · have hn5 : no = 5 := by rw [HNO.out]; exact OC.out.resolve_left ho0
          obtain ⟨z, hz⟩ : ∃ z, o[r]? = some z := ⟨_, List.getElem?_eq_getElem (by have := HNO.out; omega)⟩
          have HZ := Lib.hid (OZ.out r z hr5 hz)
          have HPN := Lib.hid (show P ++ [(⟨num, (r : Int), z, 1 + (yq : Int)⟩ : Alr)] = pairsF num l (xs.take (k + 1)) by rw [HSN.out, HPO.out]; simp [pairO, hz])
          subst  hn5
          obtain ⟨ed, u6, rfl, hedb, hzu, hcz⟩ := hr6.at_ (k := r) hr5
          have h6 : u6 = .int .i64 z := by simp [hz, intV] at hzu; exact hzu.symm
          rw [h6] at hcz
          have hri : (r : Int) < 5 := by omega
          clear h6 hzu hz ho0 hr6
          go_upto_region 11 with fail
          go_region_law ((refine step_append_alr _ rfl (.tmp 61) (.tmp 71) rfl w0.heap.size _ P ⟨num, (r : Int), z, 1 + (yq : Int)⟩ _ _ _ rfl (World.ownsRow.alloc HO6.out _) rfl (reads_blk _ _ _) (by omega) (by simp; omega) ?_; intro v7 w7 ho7 hb7; have hb8 : Below w0.heap.size w6 w7 := Below.trans (by first | exact ((Below.refl _ _).alloc hs6 _).drew | exact (Below.refl _ _).drew.alloc hs6 _ | exact (Below.refl _ _).alloc hs6 _) hb7))
          all_goals
            have hb9 : Below w0.heap.size w6 w7 := by assumption
            have ho9 : w7.ownsRow w0.heap.size 48 4 v7 (P ++ [(⟨num, (r : Int), z, 1 + (yq : Int)⟩ : Alr)]).length (alrsC (P ++ [(⟨num, (r : Int), z, 1 + (yq : Int)⟩ : Alr)])) := by assumption
            have HO9 := Lib.hid ho9
            have V9 := Lib.hid (V6.out.trans hb9)
            clear ho9 hb9
            go_wp2_with fail
            go_roundg gk
            case measure => omega
            case rel =>
              refine ⟨k + 1, P ++ [(⟨num, (r : Int), z, 1 + (yq : Int)⟩ : Alr)], by omega, by go_num, by simp; omega, HO9.out, ?_, HPN.out, V9.out⟩
              show ∀ x ∈ P ++ [_], _
              intro x hx
              rcases List.mem_append.1 hx with h | h
              · exact HP.out x h
              · rw [List.mem_singleton.1 h]; exact HZ.out
      · have hbi : decide ((32768 : Int) ≤ (xv : Int)) = false := by simp; omega
        have S64 := m64
        have HPO := Lib.hid (pair1_sm (num := num) (l := l) hbig HMD.out HRR.out)
        clear hbig
        have K3 := Lib.hid (KO.out (md) S64)
        have OC := Lib.hid (obs_cases l (md))
        have OZ := Lib.hid (fun (r : Nat) (z : Int) (hr : r < 5) (hz : (obsL K l (md))[r]? = some z) => obs_ok (num := num) HV.out hr hz)
        generalize obsL K l (md) = o at *
        obtain ⟨no, hno⟩ : ∃ m, m = o.length := ⟨_, rfl⟩
        have HNO := Lib.hid hno
        rw [← hno] at K3
        clear hno
        go_upto_region 10 with (first
          | (go_at_call 22; (with_reducible refine (K3.out (w2.drewN nq) W5.out).mono ?_); rintro e w6 ⟨X6, c6, rfl, hc6, ho6, hr6, q6⟩)
          | fail)
        have W6 := Lib.hid (below2s W5.out q6)
        have V6 := Lib.hid (below2s V5.out q6)
        have HO6 := Lib.hid (own_below (show (w2.drewN nq).ownsRow _ _ _ _ _ _ from HO2.out) q6)
        have hs6 : w0.heap.size ≤ w6.heap.size := V6.out.size
        have p6 := FB.out _ V6.out
        clear p2 q6 ho6 hc6
        by_cases ho0 : o = []
        · have hn0 : no = 0 := by rw [HNO.out, ho0]; rfl
          subst hn0
          have HPN := Lib.hid (show P = pairsF num l (xs.take (k + 1)) by rw [HSN.out, HPO.out, ho0]; simp [pairO])
          clear ho0
          go_wp2_with fail
          go_roundg gk
          case measure => omega
          case rel => exact ⟨k + 1, P, by omega, by go_num, by omega, HO6.out, HP.out, HPN.out, V6.out⟩
        · have hn5 : no = 5 := by rw [HNO.out]; exact OC.out.resolve_left ho0
          obtain ⟨z, hz⟩ : ∃ z, o[r]? = some z := ⟨_, List.getElem?_eq_getElem (by have := HNO.out; omega)⟩
          have HZ := Lib.hid (OZ.out r z hr5 hz)
          have HPN := Lib.hid (show P ++ [(⟨num, (r : Int), z, md⟩ : Alr)] = pairsF num l (xs.take (k + 1)) by rw [HSN.out, HPO.out]; simp [pairO, hz])
          subst  hn5
          obtain ⟨ed, u6, rfl, hedb, hzu, hcz⟩ := hr6.at_ (k := r) hr5
          have h6 : u6 = .int .i64 z := by simp [hz, intV] at hzu; exact hzu.symm
          rw [h6] at hcz
          have hri : (r : Int) < 5 := by omega
          clear h6 hzu hz ho0 hr6
          go_upto_region 11 with fail
          go_region_law ((refine step_append_alr _ rfl (.tmp 61) (.tmp 71) rfl w0.heap.size _ P ⟨num, (r : Int), z, md⟩ _ _ _ rfl (World.ownsRow.alloc HO6.out _) rfl (reads_blk _ _ _) (by omega) (by simp; omega) ?_; intro v7 w7 ho7 hb7; have hb8 : Below w0.heap.size w6 w7 := Below.trans (by first | exact ((Below.refl _ _).alloc hs6 _).drew | exact (Below.refl _ _).drew.alloc hs6 _ | exact (Below.refl _ _).alloc hs6 _) hb7))
          all_goals
            have hb9 : Below w0.heap.size w6 w7 := by assumption
            have ho9 : w7.ownsRow w0.heap.size 48 4 v7 (P ++ [(⟨num, (r : Int), z, md⟩ : Alr)]).length (alrsC (P ++ [(⟨num, (r : Int), z, md⟩ : Alr)])) := by assumption
            have HO9 := Lib.hid ho9
            have V9 := Lib.hid (V6.out.trans hb9)
            clear ho9 hb9
            go_wp2_with fail
            go_roundg gk
            case measure => omega
            case rel =>
              refine ⟨k + 1, P ++ [(⟨num, (r : Int), z, md⟩ : Alr)], by omega, by go_num, by simp; omega, HO9.out, ?_, HPN.out, V9.out⟩
              show ∀ x ∈ P ++ [_], _
              intro x hx
              rcases List.mem_append.1 hx with h | h
              · exact HP.out x h
              · rw [List.mem_singleton.1 h]; exact HZ.out
end Go.Proofs.YtipipjbpjpdcbaaDoor.Ct
