/- Layer 6: Pairs. -/
import Derived.Test.YtojhdljbpmjigaaDoorAGath
namespace Go.Proofs.YtojhdljbpmjigaaDoor.Al
set_option linter.unusedVariables false
open Go.RowKit
open Go.Proofs.YtojhdljbpmjigaaDoor.W
open Go.Proofs.YtojhdljbpmjigaaDoor.V
open Go.Proofs.YtojhdljbpmjigaaDoor.O
open Go.Proofs.YtojhdljbpmjigaaDoor.Pb (Alr alrC alrsC two_blk step_append_alr reads_blk)

/-- Words of 16 bits as they come in. -/
@[reducible] def u16V (x : Nat) : Value := .int .u16 (x : Int)
structure US (w : World) (B : Nat) (xs : List Nat) (L : Option Addr) (c : Nat) : Prop where
  rd : Reads w B 1 L xs.length (xs.map u16V)
  l40 : xs.length ≤ 1099511627776
  el : ∀ x ∈ xs, x < 65536
  cap : xs.length ≤ c
theorem US.below {w W : World} {B : Nat} {xs : List Nat} {L : Option Addr} {c : Nat} (h : US w B xs L c) (hb : Below B w W) : US W B xs L c := { h with rd := h.rd.below hb }
theorem US.more {w : World} {B B' : Nat} {xs : List Nat} {L : Option Addr} {c : Nat} (h : US w B xs L c) (hb : B ≤ B') : US w B' xs L c := { h with rd := h.rd.more hb }
/-- What Pairs leaves: alerts that are valid. -/
def OutPa (num : Int) (l : List Int) (n : Nat) (w : World) (e : Ending) (w' : World) : Prop := ∃ P X cX, e = .returned (.slice X P.length cX) ∧ AS w' w'.heap.size P X cX ∧ (∀ x ∈ P, okA K num l x = true) ∧ P.length ≤ n ∧ Below w.heap.size w w'
theorem obs_ok {num : Int} {l : List Int} {x z : Int} {r : Nat} (hv : validV num l = true) (hr : r < 5) (hz : (obsL K l x)[r]? = some z) : okA K num l ⟨num, (r : Int), z, x⟩ = true :=
  okA_iff.2 ⟨hv, rfl, by show (0 : Int) ≤ (r : Int); omega, by show (r : Int) < 5; omega, by simpa using hz⟩
theorem quo8 (x : Nat) (hx : x < 65536) (W : World) : (binOp .quo 74 (.int .u16 (x : Int)) (.int .u16 8)).run Tryd.prog W = .ok (.int .u16 ((x / 8 : Nat) : Int)) W := by
  simp [go_sem]
  rw [IntKind.wrap_u16]; omega
theorem rem8 (x : Nat) (hx : x < 65536) (W : World) : (binOp .rem 74 (.int .u16 (x : Int)) (.int .u16 8)).run Tryd.prog W = .ok (.int .u16 ((x % 8 : Nat) : Int)) W := by
  simp [go_sem]
  rw [IntWalk.rem_in _ _ (by omega)]
theorem mod_idx (s n : Nat) (hn : 0 < n) : ∃ a : Nat, a < n ∧ a = s % n ∧ (s : Int).tmod (n : Int) = (a : Int) :=
  ⟨s % n, Nat.mod_lt _ hn, rfl, by rw [IntWalk.rem_in _ _ (by omega), Int.natCast_emod]⟩
set_option maxRecDepth 1000000 in
set_option maxHeartbeats 4000000 in
theorem pairs_any (num : Int) (l : List Int) (A L : Option Addr) (c cL B : Nat) (xs : List Nat) (w : World) (h : VW w B num l A c) (hs : US w B xs L cL) (hB : B ≤ w.heap.size) (hv : validV num l = true) :
    Calls Tryd.prog 25 #[.agg #[.int .i64 num, .slice A l.length c], .slice L xs.length cL] w (OutPa num l xs.length w) := by
  have hb0 := (Below.refl w.heap.size w).alloc (Nat.le_refl _) (.cells #[.int .i64 num, .slice A l.length c] 24)
  have hz := Blk.new w 24 #[.int .i64 num, .slice A l.length c]
  have KV := Lib.hid (fun W (hW : Below w.heap.size w W) => refValid_any num l A c w.heap.size W ((h.more hB).below hW) hW.size)
  have KO := Lib.hid (fun (x : Int) (hx : In64 x) W (hW : Below w.heap.size w W) => (refObservers_any x A c w.heap.size l W ⟨((h.more hB).below hW).rd, h.l40, h.el, h.cap⟩ hW.size hx).mono fun _ _ h => h.to (obsL K l x) (obsL K l x).length rfl rfl)
  have RX := Lib.hid (fun W (hW : Below w.heap.size w W) => ((hs.more hB).below hW).rd)
  have RL := Lib.hid (fun W (hW : Below w.heap.size w W) => ((h.more hB).below hW).rd)
  have EX := Lib.hid hs.el
  have EL := Lib.hid h.el
  have n64 := h.num64
  have HV := Lib.hid hv
  have hx40 := hs.l40
  have g := validM_iff.1 (validV_iff.1 hv).2.2
  have hl1 := g.1
  have hl16 := g.2.1
  rw [hv] at KV
  dsimp only [vwV] at KV
  obtain ⟨n, hn⟩ : ∃ m, m = xs.length := ⟨_, rfl⟩
  have HN := Lib.hid hn
  rw [← hn] at RX hx40 ⊢
  obtain ⟨nl, hnl⟩ : ∃ m, m = l.length := ⟨_, rfl⟩
  have HNL := Lib.hid hnl
  rw [← hnl] at hb0 hz KO KV RL hl1 hl16 ⊢
  have B0 := Lib.hid hb0
  have Z1 := Lib.hid hz
  clear hb0 hz hn hnl h hs hv g
  have qz : ((nl : Int) == 0) = false := beqF (by omega)
  have qn : ¬ nl = 0 := by omega
  go_enter Tryd.func25, Tryd.ntmps25
  go_upto_region 1 with fail
  generalize w.alloc (.cells #[.int .i64 num, .slice A nl c] 24) = w0 at *
  have FB := Lib.hid (fun W (hW : Below w0.heap.size w0 W) => blk2 (Z1.out.below hW Z1.out.lt))
  go_wp2_with fail
  go_loopg [5, 6] n (fun gk s5 s6 wr => ∃ (k : Nat) (P : List Alr), k + gk = n ∧ s6 = .int .i64 k ∧ P.length ≤ k ∧ Hid (wr.ownsRow w0.heap.size 27 4 s5 P.length (alrsC P)) ∧ Hid (∀ x ∈ P, okA K num l x = true) ∧ Hid (Below w0.heap.size w0 wr))
  case atStart => exact ⟨0, [], by omega, rfl, Nat.le_refl _, World.ownsRow_nil _ _ _ _, (fun x hx => by cases hx), Below.refl _ _⟩
  case round =>
    obtain ⟨k, P, hkg, rfl, hPk, HO, HP, HW⟩ := hrel
    have WW := Lib.hid (below2s B0.out HW.out)
    have p1 := FB.out _ HW.out
    cases gk with
    | zero =>
      have hkz : ¬ ((k : Int) < (n : Int)) := by omega
      obtain ⟨X, cX, rfl, has⟩ := AS.of_own HO.out (by omega) fun x hx => okA_el n64 (HP.out x hx)
      have HAS := Lib.hid has
      clear has
      go_wp2_with fail
      go_ret
      exact ⟨P, X, cX, rfl, HAS.out, HP.out, by omega, WW.out⟩
    | succ gk =>
      have hkz : (k : Int) < (n : Int) := by omega
      go_upto_region 5 with (first
        | (go_at_call 24; (with_reducible refine (KV.out _ WW.out).mono ?_); rintro e w2 ⟨rfl, b2⟩)
        | fail)
      have W2 := Lib.hid (below2s WW.out b2)
      have V2 := Lib.hid (below2s HW.out b2)
      have HO2 := Lib.hid (own_below HO.out b2)
      have p2 := FB.out _ V2.out
      clear p1 b2
      obtain ⟨xv, hxv⟩ : ∃ x, xs[k]? = some x := ⟨_, List.getElem?_eq_getElem (by have := HN.out; omega)⟩
      obtain ⟨ad, u, rfl, -, hxu, hcx⟩ := (RX.out _ W2.out).at_ (k := k) (by omega)
      have h1 : u = .int .u16 (xv : Int) := by simp [hxv, u16V] at hxu; exact hxu.symm
      rw [h1] at hcx
      have hx16 : xv < 65536 := EX.out xv (List.mem_of_getElem? hxv)
      obtain ⟨y, hy⟩ : ∃ y : Nat, y = xv / 8 := ⟨_, rfl⟩
      have d8 : (xv : Int) / 8 = (y : Int) := by omega
      have hq8 := fun W => quo8 xv hx16 W
      rw [← hy] at hq8
      have q80 : ((8 : Int) == 0) = false := rfl
      have ht8 : (xv : Int).tdiv 8 = (y : Int) := by rw [Int.tdiv_eq_ediv_of_nonneg (by omega)]; omega
      have w16 : IntKind.u16.wrap (y : Int) = (y : Int) := by rw [IntKind.wrap_u16]; omega
      have wy : IntKind.i64.wrap (y : Int) = (y : Int) := IntWalk.i64_in _ (by omega)
      obtain ⟨i, hi, -, hmi⟩ := mod_idx y nl (by omega)
      obtain ⟨md, hmd⟩ : ∃ x, l[i]? = some x := ⟨_, List.getElem?_eq_getElem (by have := HNL.out; omega)⟩
      obtain ⟨bd, u', rfl, -, hyu, hcy⟩ := (RL.out _ W2.out).at_ (k := i) hi
      have h2 : u' = .int .i64 md := by simp [hmd, intV] at hyu; exact hyu.symm
      rw [h2] at hcy
      have hi' : (i : Int) < (nl : Int) := by omega
      have m64 := EL.out md (List.mem_of_getElem? hmd)
      have hy8 : y < 8192 := by omega
      clear h1 h2 hxu hyu hxv hmd hy
      go_quiet (fail)
      have W5 := Lib.hid (show Below w.heap.size w (w2.drewN nq) from below_drewN' W2.out _)
      have V5 := Lib.hid (show Below w0.heap.size w0 (w2.drewN nq) from below_drewN' V2.out _)
      obtain ⟨v8, hv8, he8, hm8⟩ := mod_idx xv 8 (by decide)
      have hr8 := fun W => rem8 xv hx16 W
      rw [← he8] at hr8
      clear he8
      have wv8 : IntKind.i64.wrap (v8 : Int) = (v8 : Int) := IntWalk.i64_in _ (by omega)
      obtain ⟨r, hr5, -, hm5⟩ := mod_idx v8 5 (by decide)
      obtain ⟨yq, hyq, -, hmq⟩ := mod_idx y 1000 (by decide)
      replace hm8 : (xv : Int).tmod 8 = (v8 : Int) := hm8
      replace hm5 : (v8 : Int).tmod 5 = (r : Int) := hm5
      replace hmq : (y : Int).tmod 1000 = (yq : Int) := hmq
      have wq1 : IntKind.i64.wrap (1 + (yq : Int)) = 1 + (yq : Int) := IntWalk.i64_in _ (by omega)
      by_cases hbig : 32768 ≤ xv
      · have hbi : decide ((32768 : Int) ≤ (xv : Int)) = true := by simp; omega
        have S64 : In64 (1 + (yq : Int)) := ⟨by omega, by omega⟩
        clear hbig
        have K3 := Lib.hid (KO.out (1 + (yq : Int)) S64)
        have OC := Lib.hid (obs_cases l (1 + (yq : Int)))
        have OZ := Lib.hid (fun (r : Nat) (z : Int) (hr : r < 5) (hz : (obsL K l (1 + (yq : Int)))[r]? = some z) => obs_ok (num := num) HV.out hr hz)
        generalize obsL K l (1 + (yq : Int)) = o at *
        obtain ⟨no, hno⟩ : ∃ m, m = o.length := ⟨_, rfl⟩
        have HNO := Lib.hid hno
        rw [← hno] at K3
        clear hno
        go_upto_region 10 with (first
          | (go_at_call 38; (with_reducible refine (K3.out (w2.drewN nq) W5.out).mono ?_); rintro e w6 ⟨X6, c6, rfl, hc6, ho6, hr6, q6⟩)
          | fail)
        have W6 := Lib.hid (below2s W5.out q6)
        have V6 := Lib.hid (below2s V5.out q6)
        have HO6 := Lib.hid (own_below (show (w2.drewN nq).ownsRow _ _ _ _ _ _ from HO2.out) q6)
        have hs6 : w0.heap.size ≤ w6.heap.size := V6.out.size
        have p6 := FB.out _ V6.out
        clear p2 q6 ho6 hc6
        by_cases ho0 : o = []
        · have hn0 : no = 0 := by rw [HNO.out, ho0]; rfl
          subst hn0
          clear ho0
          go_wp2_with fail
          go_roundg gk
          case measure => omega
          case rel => exact ⟨k + 1, P, by omega, by go_num, by omega, HO6.out, HP.out, V6.out⟩
        · have hn5 : no = 5 := by rw [HNO.out]; exact OC.out.resolve_left ho0
          obtain ⟨z, hz⟩ : ∃ z, o[r]? = some z := ⟨_, List.getElem?_eq_getElem (by have := HNO.out; omega)⟩
          have HZ := Lib.hid (OZ.out r z hr5 hz)
          subst hn5
          obtain ⟨ed, u6, rfl, hedb, hzu, hcz⟩ := hr6.at_ (k := r) hr5
          have h6 : u6 = .int .i64 z := by simp [hz, intV] at hzu; exact hzu.symm
          rw [h6] at hcz
          have hri : (r : Int) < 5 := by omega
          clear h6 hzu hz ho0 hr6
          go_upto_region 11 with fail
          go_region_law ((refine step_append_alr _ rfl (.tmp 61) (.tmp 71) rfl w0.heap.size _ P ⟨num, (r : Int), z, 1 + (yq : Int)⟩ _ _ _ rfl (World.ownsRow.alloc HO6.out _) rfl (reads_blk _ _ _) (by omega) (by simp; omega) ?_; intro v7 w7 ho7 hb7; have hb8 : Below w0.heap.size w6 w7 := Below.trans (by first | exact ((Below.refl _ _).alloc hs6 _).drew | exact (Below.refl _ _).drew.alloc hs6 _ | exact (Below.refl _ _).alloc hs6 _) hb7))
          all_goals
            have hb9 : Below w0.heap.size w6 w7 := by assumption
            have ho9 : w7.ownsRow w0.heap.size 27 4 v7 (P ++ [(⟨num, (r : Int), z, 1 + (yq : Int)⟩ : Alr)]).length (alrsC (P ++ [(⟨num, (r : Int), z, 1 + (yq : Int)⟩ : Alr)])) := by assumption
            have HO9 := Lib.hid ho9
            have V9 := Lib.hid (V6.out.trans hb9)
            clear ho9 hb9
            go_wp2_with fail
            go_roundg gk
            case measure => omega
            case rel =>
              refine ⟨k + 1, P ++ [(⟨num, (r : Int), z, 1 + (yq : Int)⟩ : Alr)], by omega, by go_num, by simp; omega, HO9.out, ?_, V9.out⟩
              show ∀ x ∈ P ++ [_], _
              intro x hx
              rcases List.mem_append.1 hx with h | h
              · exact HP.out x h
              · rw [List.mem_singleton.1 h]; exact HZ.out
      · have hbi : decide ((32768 : Int) ≤ (xv : Int)) = false := by simp; omega
        have S64 := m64
        clear hbig
        have K3 := Lib.hid (KO.out (md) S64)
        have OC := Lib.hid (obs_cases l (md))
        have OZ := Lib.hid (fun (r : Nat) (z : Int) (hr : r < 5) (hz : (obsL K l (md))[r]? = some z) => obs_ok (num := num) HV.out hr hz)
        generalize obsL K l (md) = o at *
        obtain ⟨no, hno⟩ : ∃ m, m = o.length := ⟨_, rfl⟩
        have HNO := Lib.hid hno
        rw [← hno] at K3
        clear hno
        go_upto_region 10 with (first
          | (go_at_call 38; (with_reducible refine (K3.out (w2.drewN nq) W5.out).mono ?_); rintro e w6 ⟨X6, c6, rfl, hc6, ho6, hr6, q6⟩)
          | fail)
        have W6 := Lib.hid (below2s W5.out q6)
        have V6 := Lib.hid (below2s V5.out q6)
        have HO6 := Lib.hid (own_below (show (w2.drewN nq).ownsRow _ _ _ _ _ _ from HO2.out) q6)
        have hs6 : w0.heap.size ≤ w6.heap.size := V6.out.size
        have p6 := FB.out _ V6.out
        clear p2 q6 ho6 hc6
        by_cases ho0 : o = []
        · have hn0 : no = 0 := by rw [HNO.out, ho0]; rfl
          subst hn0
          clear ho0
          go_wp2_with fail
          go_roundg gk
          case measure => omega
          case rel => exact ⟨k + 1, P, by omega, by go_num, by omega, HO6.out, HP.out, V6.out⟩
        · have hn5 : no = 5 := by rw [HNO.out]; exact OC.out.resolve_left ho0
          obtain ⟨z, hz⟩ : ∃ z, o[r]? = some z := ⟨_, List.getElem?_eq_getElem (by have := HNO.out; omega)⟩
          have HZ := Lib.hid (OZ.out r z hr5 hz)
          subst hn5
          obtain ⟨ed, u6, rfl, hedb, hzu, hcz⟩ := hr6.at_ (k := r) hr5
          have h6 : u6 = .int .i64 z := by simp [hz, intV] at hzu; exact hzu.symm
          rw [h6] at hcz
          have hri : (r : Int) < 5 := by omega
          clear h6 hzu hz ho0 hr6
          go_upto_region 11 with fail
          go_region_law ((refine step_append_alr _ rfl (.tmp 61) (.tmp 71) rfl w0.heap.size _ P ⟨num, (r : Int), z, md⟩ _ _ _ rfl (World.ownsRow.alloc HO6.out _) rfl (reads_blk _ _ _) (by omega) (by simp; omega) ?_; intro v7 w7 ho7 hb7; have hb8 : Below w0.heap.size w6 w7 := Below.trans (by first | exact ((Below.refl _ _).alloc hs6 _).drew | exact (Below.refl _ _).drew.alloc hs6 _ | exact (Below.refl _ _).alloc hs6 _) hb7))
          all_goals
            have hb9 : Below w0.heap.size w6 w7 := by assumption
            have ho9 : w7.ownsRow w0.heap.size 27 4 v7 (P ++ [(⟨num, (r : Int), z, md⟩ : Alr)]).length (alrsC (P ++ [(⟨num, (r : Int), z, md⟩ : Alr)])) := by assumption
            have HO9 := Lib.hid ho9
            have V9 := Lib.hid (V6.out.trans hb9)
            clear ho9 hb9
            go_wp2_with fail
            go_roundg gk
            case measure => omega
            case rel =>
              refine ⟨k + 1, P ++ [(⟨num, (r : Int), z, md⟩ : Alr)], by omega, by go_num, by simp; omega, HO9.out, ?_, V9.out⟩
              show ∀ x ∈ P ++ [_], _
              intro x hx
              rcases List.mem_append.1 hx with h | h
              · exact HP.out x h
              · rw [List.mem_singleton.1 h]; exact HZ.out
end Go.Proofs.YtojhdljbpmjigaaDoor.Al
