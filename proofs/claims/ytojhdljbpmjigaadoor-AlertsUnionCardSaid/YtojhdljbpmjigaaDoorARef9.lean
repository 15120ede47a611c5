/- The reference of layer 6: Decode. -/
import Derived.Test.YtojhdljbpmjigaaDoorARef8
namespace Go.Proofs.YtojhdljbpmjigaaDoor.Al
set_option linter.unusedVariables false
set_option linter.unusedSimpArgs false
open Go.RowKit
open Go.Proofs.YtojhdljbpmjigaaDoor.W
open Go.Proofs.YtojhdljbpmjigaaDoor.V
open Go.Proofs.YtojhdljbpmjigaaDoor.O
open Go.Proofs.YtojhdljbpmjigaaDoor.Pb (Alr alrC alrsC len_alrsC alrsC_app alrsC_one alrsC_get alrsC_cell alrInfo step_append_alr reads_blk two_blk)
open Go.Lib (byteCells byteCells_length byteCells_append)

/-- One alert read, at a place of the whole. -/
theorem rdItems_at {num : Int} {l : List Int} {k at_ n1 n2 x y e1 e2 : Nat} {O : List Alr} {bs : List UInt8} (h1 : rdU (bs.drop at_) = (x, n1, e1)) (h2 : rdU (bs.drop (at_ + n1)) = (y, n2, e2)) :
    rdItems K num l (k + 1) O at_ (bs.drop at_) =
      if e1 ≠ 0 then ([], 0, e1) else if e2 ≠ 0 then ([], 0, e2) else if 1000 < x ∨ 5 ≤ y then ([], 0, 3)
      else match (obsL K l (x : Int))[y]? with
        | none => ([], 0, 3)
        | some o => if (match O.getLast? with | none => false | some p => !(lessA p ⟨num, (y : Int), o, (x : Int)⟩)) then ([], 0, 3)
          else rdItems K num l k (O ++ [⟨num, (y : Int), o, (x : Int)⟩]) (at_ + n1 + n2) (bs.drop (at_ + n1 + n2)) := by
  rw [rdItems]
  simp only [h1, List.drop_drop]
  rw [h2]
  simp only []
  rw [show at_ + n1 + n2 = at_ + (n1 + n2) by omega]
  rfl
theorem obs_64 {num : Int} {l : List Int} {x y : Nat} {z : Int} (hv : validV num l = true) (hy : y < 5) (hz : (obsL K l (x : Int))[y]? = some z) : In64 z := by
  have h : okA K num l ⟨num, (y : Int), z, (x : Int)⟩ = true := okA_iff.2 ⟨hv, rfl, by show (0 : Int) ≤ (y : Int); omega, by show (y : Int) < 5; omega, by simpa using hz⟩
  have := okA_in h inj_K
  unfold inA at this
  simp only [Bool.and_eq_true] at this
  have := this.2.2.1
  unfold isID at this
  simp at this
  exact ⟨by omega, by omega⟩
theorem below2s {w a b : World} (h : Below w.heap.size w a) (q : Below a.heap.size a b) : Below w.heap.size w b := h.trans (q.mono h.size)
theorem el_snoc {O : List Alr} {a : Alr} (h : ∀ x ∈ O, El x) (ha : El a) : ∀ x ∈ O ++ [a], El x := fun x hx => by
  rcases List.mem_append.1 hx with h1 | h1
  · exact h x h1
  · rw [List.mem_singleton.1 h1]; exact ha
theorem outDec_no {w w' : World} {R : List Alr × Nat × Nat} {k : Nat} {e : Ending} (hR : R = ([], 0, k)) (he : e = .returned (.tuple #[.slice none 0 0, .int .i64 0, .int .i64 (k : Int)])) (hb : Below w.heap.size w w') : OutDec w R e w' := by
  subst hR
  exact ⟨none, 0, he, AS.nil, hb⟩
theorem outDec_yes {w w' : World} {R : List Alr × Nat × Nat} {O : List Alr} {n : Nat} {e : Ending} {X : Option Addr} {cX : Nat} (hR : R = (O, n, 0)) (he : e = .returned (.tuple #[.slice X O.length cX, .int .i64 (n : Int), .int .i64 0])) (ho : AS w' w'.heap.size O X cX) (hb : Below w.heap.size w w') : OutDec w R e w' := by
  subst hR
  exact ⟨X, cX, he, ho, hb⟩
set_option maxRecDepth 1000000 in
set_option maxHeartbeats 8000000 in
theorem refDecodeS_any (num : Int) (l : List Int) (A F : Option Addr) (c cF B : Nat) (bs : List UInt8) (w : World) (h : VW w B num l A c) (hr : Reads w B 1 F bs.length (byteCells bs)) (hcap : bs.length ≤ cF) (hB : B ≤ w.heap.size) (hn : bs.length ≤ 1099511627776) :
    Calls Tryd.prog 21 #[.agg #[.int .i64 num, .slice A l.length c], .slice F bs.length cF] w (OutDec w (rdSet K num l bs)) := by
  have hb0 := (Below.refl w.heap.size w).alloc (Nat.le_refl _) (.cells #[.int .i64 num, .slice A l.length c] 24)
  have hz := Blk.new w 24 #[.int .i64 num, .slice A l.length c]
  have KV := Lib.hid (fun W (hW : Below w.heap.size w W) => refValid_any num l A c w.heap.size W ((h.more hB).below hW) hW.size)
  have KO := Lib.hid (fun (x : Nat) (hx : x ≤ 1000) W (hW : Below w.heap.size w W) => (refObservers_any (x : Int) A c w.heap.size l W ⟨((h.more hB).below hW).rd, h.l40, h.el, h.cap⟩ hW.size ⟨by omega, by omega⟩).mono fun _ _ h => h.to (obsL K l (x : Int)) (obsL K l (x : Int)).length rfl rfl)
  have RB := Lib.hid (fun W (hW : Below w.heap.size w W) => (hr.more hB).below hW)
  have n64 := h.num64
  have HEL := Lib.hid h.el
  have HR := Lib.hid (show rdSet K num l bs = (if !(validV num l) then ([], 0, 1) else if (rdU bs).2.2 ≠ 0 then ([], 0, (rdU bs).2.2) else if 5000 < (rdU bs).1 then ([], 0, 5) else rdItems K num l (rdU bs).1 [] (rdU bs).2.1 (bs.drop (rdU bs).2.1)) from rfl)
  obtain ⟨R, hR⟩ : ∃ R, R = rdSet K num l bs := ⟨_, rfl⟩
  rw [← hR] at HR ⊢
  clear hR
  have ND := Lib.hid (fun k w' e hR he hb => outDec_no (w := w) (w' := w') (R := R) (k := k) (e := e) hR he hb)
  have YD := Lib.hid (fun O n X cX w' e hR he ho hb => outDec_yes (w := w) (w' := w') (R := R) (O := O) (n := n) (X := X) (cX := cX) (e := e) hR he ho hb)
  obtain ⟨Q, hQ⟩ : ∃ Q, Q = OutDec w R := ⟨_, rfl⟩
  rw [← hQ] at ND YD ⊢
  clear hQ
  obtain ⟨nl, hnl⟩ : ∃ n, n = l.length := ⟨_, rfl⟩
  rw [← hnl] at hb0 hz KO ⊢
  dsimp only [vwV] at KV
  rw [← hnl] at KV
  obtain ⟨⟨u, n0, e0⟩, hu⟩ : ∃ r, rdU bs = r := ⟨_, rfl⟩
  have KU := Lib.hid (fun W (hW : Below w.heap.size w W) => by
    have := refReadUint_any F cF w.heap.size bs W (RB.out W hW) hn
    rw [hu] at this
    exact this)
  rw [hu] at HR
  obtain ⟨nb, hnb⟩ : ∃ n, n = bs.length := ⟨_, rfl⟩
  have HNB := Lib.hid hnb
  rw [← hnb] at KU RB hcap hn ⊢
  have B0 := Lib.hid hb0
  have Z1 := Lib.hid hz
  clear hb0 hz hnl h hr
  go_enter Tryd.func21, Tryd.ntmps21
  go_upto_region 1 with fail
  generalize w.alloc (.cells #[.int .i64 num, .slice A nl c] 24) = w0 at *
  have FB := Lib.hid (fun W (hW : Below w0.heap.size w0 W) => (blk2 (Z1.out.below hW Z1.out.lt)))
  have p0 := FB.out _ (Below.refl _ _)
  cases hv : validV num l
  · have HR1 := Lib.hid (show R = ([], 0, 1) by rw [HR.out, hv]; rfl)
    rw [hv] at KV
    clear HR hv hu hnb
    go_wp2_with (go_at_call 24; (with_reducible refine (KV.out _ B0.out).mono ?_); rintro e w1 ⟨rfl, b1⟩)
    go_ret3
    exact ND.out _ _ _ HR1.out rfl (B0.out.trans (b1.mono B0.out.size))
  rw [hv] at KV
  by_cases he0 : e0 = 0
  case neg =>
    have HR1 := Lib.hid (show R = ([], 0, e0) by rw [HR.out, hv]; simp [he0])
    have hb : ((e0 : Int) != 0) = true := bneT (by omega)
    clear HR hv hu hnb he0
    go_wp2_with (first
      | (go_at_call 24; (with_reducible refine (KV.out _ B0.out).mono ?_); rintro e w1 ⟨rfl, b1⟩; (have W1 := B0.out.trans (b1.mono B0.out.size)))
      | (go_at_call 44; (with_reducible refine (KU.out _ W1).mono ?_); rintro e w2 ⟨rfl, rfl⟩)
      | fail)
    go_ret3
    exact ND.out _ _ _ HR1.out rfl W1
  subst he0
  by_cases h5 : 5000 < u
  · have HR1 := Lib.hid (show R = ([], 0, 5) by rw [HR.out, hv]; simp [h5])
    have h5i : (5000 : Int) < (u : Int) := by omega
    clear HR hv hu hnb h5
    go_wp2_with (first
      | (go_at_call 24; (with_reducible refine (KV.out _ B0.out).mono ?_); rintro e w1 ⟨rfl, b1⟩; (have W1 := B0.out.trans (b1.mono B0.out.size)))
      | (go_at_call 44; (with_reducible refine (KU.out _ W1).mono ?_); rintro e w2 ⟨rfl, rfl⟩)
      | fail)
    go_ret3
    exact ND.out _ _ _ HR1.out rfl W1
  have h5i : ¬ (5000 : Int) < (u : Int) := by omega
  have HR1 := Lib.hid (show R = rdItems K num l u [] n0 (bs.drop n0) by rw [HR.out, hv]; simp [h5])
  obtain ⟨hv1, hn1, hn2, hnl0⟩ := rdU_used hu
  rw [← hnb] at hnl0
  have HV := Lib.hid hv
  clear HR hv hu hnb
  go_wp2_with (first
      | (go_at_call 24; (with_reducible refine (KV.out _ B0.out).mono ?_); rintro e w1 ⟨rfl, b1⟩; (have W1 := B0.out.trans (b1.mono B0.out.size)))
      | (go_at_call 44; (with_reducible refine (KU.out _ W1).mono ?_); rintro e w2 ⟨rfl, rfl⟩)
      | fail)
  have V1 := Lib.hid b1
  clear p0 b1 W1 KV KU
  go_loopg [8, 10, 11] u (fun gk s8 s10 s11 wr => ∃ (k at_ : Nat) (O : List Alr), k + gk = u ∧ s11 = .int .u64 k ∧ s8 = .int .i64 at_ ∧ at_ ≤ nb ∧ O.length = k ∧ Hid (R = rdItems K num l gk O at_ (bs.drop at_)) ∧ Hid (wr.ownsRow w0.heap.size 27 4 s10 O.length (alrsC O)) ∧ Hid (∀ x ∈ O, El x) ∧ Hid (Below w0.heap.size w0 wr))
  case atStart => exact ⟨0, n0, [], by omega, rfl, rfl, hnl0, rfl, HR1.out, World.ownsRow_nil _ _ _ _, (fun x hx => by cases hx), V1.out⟩
  case round =>
    obtain ⟨k, at_, O, hkg, rfl, rfl, hat, hOk, HRR, HO, HE, HW⟩ := hrel
    have HOK := Lib.hid hOk
    have hO40 : O.length ≤ 1099511627776 := by omega
    clear hOk
    have hws := HW.out.size
    have BW := Lib.hid (B0.out.trans (HW.out.mono B0.out.size))
    cases gk with
    | zero =>
      have hkz : ¬ ((k : Int) < (u : Int)) := by omega
      obtain ⟨X, cX, rfl, has⟩ := AS.of_own HO.out hO40 HE.out
      have HAS := Lib.hid has
      have HRE := Lib.hid (show R = (O, at_, 0) from HRR.out)
      clear has
      go_wp2_with fail
      go_ret3
      exact YD.out _ _ _ _ _ _ HRE.out rfl HAS.out BW.out
    | succ gk =>
      have hkz : (k : Int) < (u : Int) := by omega
      have p1 := FB.out _ HW.out
      obtain ⟨A1, hs1, hrr1⟩ := slice_from (k := at_) (ki := (at_ : Int)) (RB.out wr BW.out) hcap hat rfl
      obtain ⟨⟨x, n1, e1⟩, hx⟩ : ∃ r, rdU (bs.drop at_) = r := ⟨_, rfl⟩
      obtain ⟨⟨y, n2, e2⟩, hy⟩ : ∃ r, rdU (bs.drop (at_ + n1)) = r := ⟨_, rfl⟩
      have hdl : (bs.drop at_).length = nb - at_ := by rw [List.length_drop, HNB.out]
      have HST := Lib.hid (HRR.out.trans (rdItems_at (num := num) (l := l) (k := gk) (O := O) hx hy))
      have hcall := refReadUint_any A1 (cF - at_) w.heap.size (bs.drop at_) wr (by rw [hdl]; exact hrr1) (by omega)
      rw [hdl, hx] at hcall
      have K1 := Lib.hid hcall
      clear hcall HRR hrr1
      by_cases he1 : e1 = 0
      case neg =>
        have HR2 := Lib.hid (show R = ([], 0, e1) by rw [HST.out]; simp [he1])
        have hb : ((e1 : Int) != 0) = true := bneT (by omega)
        clear HST hx hy hdl he1
        go_wp2_with (first
          | (go_at_call 44; (with_reducible refine K1.out.mono ?_); rintro e w3 ⟨rfl, rfl⟩)
          | fail)
        go_ret3
        exact ND.out _ _ _ HR2.out rfl BW.out
      subst he1
      obtain ⟨hx1, hx2, hx3, hx4⟩ := rdU_used hx
      rw [hdl] at hx4
      have hat2 : at_ + n1 ≤ nb := by omega
      obtain ⟨A2, hs2, hrr2⟩ := slice_from (k := at_ + n1) (ki := (at_ : Int) + (n1 : Int)) (RB.out wr BW.out) hcap hat2 (by omega)
      have hdl2 : (bs.drop (at_ + n1)).length = nb - (at_ + n1) := by rw [List.length_drop, HNB.out]
      have hcall := refReadUint_any A2 (cF - (at_ + n1)) w.heap.size (bs.drop (at_ + n1)) wr (by rw [hdl2]; exact hrr2) (by omega)
      rw [hdl2, hy] at hcall
      have K2 := Lib.hid hcall
      have wn1 : IntKind.i64.wrap ((at_ : Int) + (n1 : Int)) = (at_ : Int) + (n1 : Int) := IntWalk.i64_in _ (by omega)
      clear hcall hrr2
      by_cases he2 : e2 = 0
      case neg =>
        have HR2 := Lib.hid (show R = ([], 0, e2) by rw [HST.out]; simp [he2])
        have hb : ((e2 : Int) != 0) = true := bneT (by omega)
        clear HST hx hy hdl hdl2 he2
        go_wp2_with (first
          | (go_at_call 44; (with_reducible refine K1.out.mono ?_); rintro e w3 ⟨rfl, rfl⟩)
          | (go_at_call 44; (with_reducible refine K2.out.mono ?_); rintro e w3 ⟨rfl, rfl⟩)
          | fail)
        go_ret3
        exact ND.out _ _ _ HR2.out rfl BW.out
      subst he2
      obtain ⟨hy1, hy2, hy3, hy4⟩ := rdU_used hy
      rw [hdl2] at hy4
      have hat3 : at_ + n1 + n2 ≤ nb := by omega
      have wn2 : IntKind.i64.wrap ((at_ : Int) + (n1 : Int) + (n2 : Int)) = (at_ : Int) + (n1 : Int) + (n2 : Int) := IntWalk.i64_in _ (by omega)
      clear hx hy hdl hdl2
      by_cases hbx : 1000 < x
      · have HR2 := Lib.hid (show R = ([], 0, 3) by rw [HST.out]; simp [hbx])
        have hbi : decide ((1000 : Int) < (x : Int)) = true := by simp; omega
        clear HST hbx
        go_wp2_with (first
          | (go_at_call 44; (with_reducible refine K1.out.mono ?_); rintro e w3 ⟨rfl, rfl⟩)
          | (go_at_call 44; (with_reducible refine K2.out.mono ?_); rintro e w3 ⟨rfl, rfl⟩)
          | fail)
        go_ret3
        exact ND.out _ _ _ HR2.out rfl BW.out
      have hbi : decide ((1000 : Int) < (x : Int)) = false := by simp; omega
      by_cases hby : 5 ≤ y
      · have HR2 := Lib.hid (show R = ([], 0, 3) by rw [HST.out]; simp [hby])
        have hci : decide ((5 : Int) ≤ (y : Int)) = true := by simp; omega
        clear HST hbx hby
        go_wp2_with (first
          | (go_at_call 44; (with_reducible refine K1.out.mono ?_); rintro e w3 ⟨rfl, rfl⟩)
          | (go_at_call 44; (with_reducible refine K2.out.mono ?_); rintro e w3 ⟨rfl, rfl⟩)
          | fail)
        go_ret3
        exact ND.out _ _ _ HR2.out rfl BW.out
      have hci : decide ((5 : Int) ≤ (y : Int)) = false := by simp; omega
      have wx : IntKind.i64.wrap (x : Int) = (x : Int) := IntWalk.i64_in _ (by omega)
      have wy : IntKind.i64.wrap (y : Int) = (y : Int) := IntWalk.i64_in _ (by omega)
      have K3 := Lib.hid (KO.out x (by omega) wr BW.out)
      have OC := Lib.hid (obs_cases l (x : Int))
      have OE := Lib.hid (fun z (hz : (obsL K l (x : Int))[y]? = some z) => obs_64 HV.out (by omega) hz)
      generalize obsL K l (x : Int) = o at *
      obtain ⟨no, hno⟩ : ∃ n, n = o.length := ⟨_, rfl⟩
      have HNO := Lib.hid hno
      rw [← hno] at K3
      clear hno
      by_cases ho0 : o = []
      · have HR2 := Lib.hid (show R = ([], 0, 3) by rw [HST.out, ho0]; simp [hbx, hby])
        have hn0 : no = 0 := by rw [HNO.out, ho0]; rfl
        subst hn0
        clear HST hbx hby OC OE
        clear ho0
        go_wp2_with (first
          | (go_at_call 44; (with_reducible refine K1.out.mono ?_); rintro e w3 ⟨rfl, rfl⟩)
          | (go_at_call 44; (with_reducible refine K2.out.mono ?_); rintro e w3 ⟨rfl, rfl⟩)
          | (go_at_call 38; (with_reducible refine K3.out.mono ?_); rintro e w3 ⟨X3, c3, rfl, hc3, ho3, hr3, q3⟩)
          | fail)
        go_ret3
        exact ND.out _ _ _ HR2.out rfl (W.bstep BW.out q3)
      have hn5 : no = 5 := by rw [HNO.out]; exact OC.out.resolve_left ho0
      obtain ⟨z, hz⟩ : ∃ z, o[y]? = some z := ⟨_, List.getElem?_eq_getElem (by have := HNO.out; omega)⟩
      have z64 := OE.out z hz
      have HZ := Lib.hid hz
      have HS4 := Lib.hid (show R = (if (match O.getLast? with | none => false | some p => !(lessA p ⟨num, (y : Int), z, (x : Int)⟩)) then ([], 0, 3)
          else rdItems K num l gk (O ++ [⟨num, (y : Int), z, (x : Int)⟩]) (at_ + n1 + n2) (bs.drop (at_ + n1 + n2))) from by rw [HST.out, hz]; simp [hbx, hby])
      have hyi : (y : Int) < 5 := by omega
      have hx1000 : x ≤ 1000 := by omega
      have hy0 : (0 : Int) ≤ (y : Int) := by omega
      rw [hn5] at K3
      clear HST hbx hby OC OE ho0 hz hn5
      go_upto_region 25 with (first
          | (go_at_call 44; (with_reducible refine K1.out.mono ?_); rintro e w3 ⟨rfl, rfl⟩)
          | (go_at_call 44; (with_reducible refine K2.out.mono ?_); rintro e w3 ⟨rfl, rfl⟩)
          | (go_at_call 38; (with_reducible refine K3.out.mono ?_); rintro e w3 ⟨X3, c3, rfl, hc3, ho3, hr3, q3⟩)
          | fail)
      have V3 := Lib.hid (W.bstep HW.out q3)
      have hs3 : w0.heap.size ≤ w3.heap.size := V3.out.size
      have p3 := FB.out _ V3.out
      obtain ⟨xd, ux, rfl, hxb, hxu, hcx⟩ := hr3.at_ (k := y) (by omega)
      have hux : ux = .int .i64 z := by simp [HZ.out, intV] at hxu; exact hxu.symm
      rw [hux] at hcx
      have hcy : ∀ o, (w3.alloc o).cell? (xd.add y) = some (.int .i64 z) := fun o => (World.cell?_alloc_lt _ _ _ (by rw [block_of_add]; omega)).trans hcx
      have p4 := fun o => blk2 ((Z1.out.below V3.out Z1.out.lt).alloc o)
      have HO3 := Lib.hid (own_below HO.out q3)
      obtain ⟨X10, c10, rfl, hc10, hr10⟩ := own_openS HO3.out
      have R10 := Lib.hid hr10
      have EA := Lib.hid (show El ⟨num, (y : Int), z, (x : Int)⟩ from ⟨n64, ⟨by show _ ≤ (y : Int); omega, by show (y : Int) ≤ _; omega⟩, z64, ⟨by show _ ≤ (x : Int); omega, by show (x : Int) ≤ _; omega⟩⟩)
      clear hxu hux hr3 ho3 q3 hc3 hr10 K1 K2 K3 hs1 hs2 hbi hci wn1 wn2 HZ HNO p1
      have W3 := Lib.hid (B0.out.trans (V3.out.mono B0.out.size))
      have key := Lib.hid (show ∀ W4, (W4 = (w3.alloc (.cells #[.int .i64 num, .int .i64 (y : Int), .int .i64 z, .int .i64 (x : Int)] 27)).drew ∨ W4 = w3.drew.alloc (.cells #[.int .i64 num, .int .i64 (y : Int), .int .i64 z, .int .i64 (x : Int)] 27)) → Below w3.heap.size w3 W4 ∧ Blk W4 w3.heap.size 27 #[.int .i64 num, .int .i64 (y : Int), .int .i64 z, .int .i64 (x : Int)] from by
        rintro W4 (rfl | rfl)
        · exact ⟨((Below.refl _ _).alloc (Nat.le_refl _) _).drew, (Blk.new w3 _ _).drew⟩
        · exact ⟨(Below.refl _ _).drew.alloc (Nat.le_refl _) _, Blk.new w3.drew _ _⟩)
      go_cut [19] from 81 to 91 (fun s19 wx => s19 = .pointer (some ⟨w3.heap.size, 0, none⟩) ∧ Hid (Below w3.heap.size w3 wx ∧ Blk wx w3.heap.size 27 #[.int .i64 num, .int .i64 (y : Int), .int .i64 z, .int .i64 (x : Int)]))
      case first =>
        go_region_law (fail)
        all_goals
          first
            | generalize hw4 : (w3.alloc (.cells #[.int .i64 num, .int .i64 (y : Int), .int .i64 z, .int .i64 (x : Int)] 27)).drew = w4
              have hk := key.out w4 (.inl hw4.symm)
            | generalize hw4 : w3.drew.alloc (.cells #[.int .i64 num, .int .i64 (y : Int), .int .i64 z, .int .i64 (x : Int)] 27) = w4
              have hk := key.out w4 (.inr hw4.symm)
          clear hw4
          go_wp2_with fail
          go_meet
          exact ⟨rfl, hk⟩
      case rest =>
        obtain ⟨rfl, HK⟩ := hcut
        obtain ⟨w4, rfl⟩ : ∃ x, x = wc := ⟨_, rfl⟩
        obtain ⟨q4, hb4⟩ := HK.out
        have V4 := Lib.hid (V3.out.trans (q4.mono hs3))
        have hs4 : w0.heap.size ≤ w4.heap.size := V4.out.size
        have HB4 := Lib.hid hb4
        have p5 := blk4 hb4
        have HO4 := Lib.hid (own_below HO3.out q4)
        have R4 := Lib.hid ((R10.out.below q4).more q4.size)
        clear q4 hb4 key p3 p4 hcx hcy hxb HK
        obtain ⟨no, hno⟩ : ∃ n, n = O.length := ⟨_, rfl⟩
        have HNO := Lib.hid hno
        rw [← hno] at R4 hc10 ⊢
        cases hgl : O.getLast? with
        | none =>
          have hO : O = [] := List.getLast?_eq_none_iff.1 hgl
          have hn0 : no = 0 := by rw [hno, hO]; rfl
          have HS5 := Lib.hid (show R = rdItems K num l gk (O ++ [⟨num, (y : Int), z, (x : Int)⟩]) (at_ + n1 + n2) (bs.drop (at_ + n1 + n2)) from by rw [HS4.out, hgl]; rfl)
          subst hn0
          have HO5 := Lib.hid (show w4.ownsRow w0.heap.size 27 4 (.slice X10 0 c10) O.length (alrsC O) from by have := HO4.out; rw [← hno] at this; rw [← hno]; exact this)
          clear hno hO hgl HS4
          go_wp2_with fail
          go_quiet (fail)
          go_wp2_with (first
            | (at_builtin; (refine wp_append_alr _ rfl (.tmp 106) (.tmp 108) rfl w0.heap.size _ O ⟨num, (y : Int), z, (x : Int)⟩ _ _ _ rfl (World.ownsRow.alloc (show (w4.drewN nq).ownsRow _ _ _ _ _ _ from HO5.out) _) rfl (reads_blk _ _ _) (by have := HOK.out; omega) (by simp; omega) ?_; intro v7 w7 ho7 hb7))
            | fail)
          have HO7 := Lib.hid ho7
          have V7 := Lib.hid (V4.out.trans (((show Below w0.heap.size w4 (w4.drewN nq) from below_drewN' (Below.refl _ _) _).alloc hs4 _).trans hb7))
          clear ho7 hb7
          go_roundg gk
          case measure => omega
          case rel =>
            refine ⟨k + 1, at_ + n1 + n2, O ++ [(⟨num, (y : Int), z, (x : Int)⟩ : Alr)], by omega, by go_num, ?_, hat3, ?_, ?_, ?_, ?_, ?_⟩
            · first | rfl | go_num | simp
            · have := HOK.out; simp; omega
            · exact HS5.out
            · exact HO7.out
            · exact el_snoc HE.out EA.out
            · exact V7.out
        | some p =>
          have hpos : 0 < O.length := by
            rcases Nat.eq_zero_or_pos O.length with h0 | h0
            · rw [List.eq_nil_of_length_eq_zero h0] at hgl; cases hgl
            · exact h0
          obtain ⟨m, hm⟩ : ∃ m, no = m + 1 := ⟨no - 1, by omega⟩
          have hpm : O[m]? = some p := by rw [List.getLast?_eq_getElem?, ← hno, hm] at hgl; exact hgl
          obtain ⟨pd, rfl, -, -, e0, e1, e2, e3⟩ := alr_at R4.out hpm
          have wm : IntKind.i64.wrap ((no : Int) - 1) = (m : Int) := by rw [IntWalk.i64_in _ (by omega)]; omega
          have hn0 : 0 < no := by omega
          have hmn : (m : Int) < (no : Int) := by omega
          have hn9 : no ≤ 5000 := by have := HOK.out; omega
          have HFP := Lib.hid (fun W (hW : Below w4.heap.size w4 W) => alr_at2 (R4.out.below hW) hpm)
          have HFB := Lib.hid (fun W (hW : Below w4.heap.size w4 W) => blk4 (HB4.out.below hW HB4.out.lt))
          have KL := Lib.hid (fun W => refLess_any p ⟨num, (y : Int), z, (x : Int)⟩ W)
          have HO5 := Lib.hid (show w4.ownsRow w0.heap.size 27 4 (.slice (some pd) no c10) O.length (alrsC O) from by have := HO4.out; rw [← hno] at this; rw [← hno]; exact this)
          cases hls : lessA p ⟨num, (y : Int), z, (x : Int)⟩
          · have HR2 := Lib.hid (show R = ([], 0, 3) from by rw [HS4.out, hgl]; simp [hls])
            rw [hls] at KL
            dsimp only [alrV] at KL
            clear hno hgl HS4 hls hpm hpos hm e0 e1 e2 e3
            go_upto_region 26 with fail
            refine wp_region_held_drew (S := (fun wx => Below w4.heap.size w4 wx)) (by kernel_rfl) ?_ (fun hHeld => ?_)
            · exact (Below.refl _ _).drew
            refine wpAnyH_take (i := 0) (v := ?_) (by first | (simp only [List.getElem?_toArray, List.getElem?_cons_succ, List.getElem?_cons_zero]; done) | (simp only [List.getElem?_toArray, List.getElem?_cons_succ, List.getElem?_cons_zero]; rfl)) (by kernel_rfl) (by kernel_rfl) (by kernel_rfl) (by exact fun _ _ _ h => h) (Or.inl ⟨by rfl, ?_⟩) hHeld ?_
            rotate_left 1
            · intro wq hSw
              go_simp
              all_goals with_reducible rfl
            try simp only [Act.put, List.setIfInBounds_toArray, List.set_cons_zero, List.set_cons_succ]
            refine wpAnyH_take (i := 1) (v := ?_) (by first | (simp only [List.getElem?_toArray, List.getElem?_cons_succ, List.getElem?_cons_zero]; done) | (simp only [List.getElem?_toArray, List.getElem?_cons_succ, List.getElem?_cons_zero]; rfl)) (by kernel_rfl) (by kernel_rfl) (by kernel_rfl) (by exact fun _ _ _ h => h) (Or.inl ⟨by rfl, ?_⟩) hHeld ?_
            rotate_left 1
            · intro wq hSw
              go_simp
              all_goals with_reducible rfl
            try simp only [Act.put, List.setIfInBounds_toArray, List.set_cons_zero, List.set_cons_succ]
            refine wpAnyH_take (i := 2) (v := ?_) (by first | (simp only [List.getElem?_toArray, List.getElem?_cons_succ, List.getElem?_cons_zero]; done) | (simp only [List.getElem?_toArray, List.getElem?_cons_succ, List.getElem?_cons_zero]; rfl)) (by kernel_rfl) (by kernel_rfl) (by kernel_rfl) (by exact fun _ _ _ h => h) (Or.inl ⟨by rfl, ?_⟩) hHeld ?_
            rotate_left 1
            · intro wq hSw
              go_simp
              all_goals with_reducible rfl
            try simp only [Act.put, List.setIfInBounds_toArray, List.set_cons_zero, List.set_cons_succ]
            refine wpAnyH_take (i := 3) (v := ?_) (by first | (simp only [List.getElem?_toArray, List.getElem?_cons_succ, List.getElem?_cons_zero]; done) | (simp only [List.getElem?_toArray, List.getElem?_cons_succ, List.getElem?_cons_zero]; rfl)) (by kernel_rfl) (by kernel_rfl) (by kernel_rfl) (by exact fun _ _ _ h => h) (Or.inl ⟨by rfl, ?_⟩) hHeld ?_
            rotate_left 1
            · intro wq hSw
              go_simp
              all_goals with_reducible rfl
            try simp only [Act.put, List.setIfInBounds_toArray, List.set_cons_zero, List.set_cons_succ]
            refine wpAnyH_take (i := 4) (v := ?_) (by first | (simp only [List.getElem?_toArray, List.getElem?_cons_succ, List.getElem?_cons_zero]; done) | (simp only [List.getElem?_toArray, List.getElem?_cons_succ, List.getElem?_cons_zero]; rfl)) (by kernel_rfl) (by kernel_rfl) (by kernel_rfl) (by exact fun _ _ _ h => h) (Or.inl ⟨by rfl, ?_⟩) hHeld ?_
            rotate_left 1
            · intro wq hSw
              go_simp
              all_goals with_reducible rfl
            try simp only [Act.put, List.setIfInBounds_toArray, List.set_cons_zero, List.set_cons_succ]
            refine wpAnyH_take (i := 5) (v := ?_) (by first | (simp only [List.getElem?_toArray, List.getElem?_cons_succ, List.getElem?_cons_zero]; done) | (simp only [List.getElem?_toArray, List.getElem?_cons_succ, List.getElem?_cons_zero]; rfl)) (by kernel_rfl) (by kernel_rfl) (by kernel_rfl) (by exact fun _ _ _ h => h) (Or.inl ⟨by rfl, ?_⟩) hHeld ?_
            rotate_left 1
            · intro wq hSw
              go_simp
              all_goals with_reducible rfl
            try simp only [Act.put, List.setIfInBounds_toArray, List.set_cons_zero, List.set_cons_succ]
            refine wpAnyH_take (i := 6) (v := ?_) (by first | (simp only [List.getElem?_toArray, List.getElem?_cons_succ, List.getElem?_cons_zero]; done) | (simp only [List.getElem?_toArray, List.getElem?_cons_succ, List.getElem?_cons_zero]; rfl)) (by kernel_rfl) (by kernel_rfl) (by kernel_rfl) (by exact fun _ _ _ h => h) (Or.inl ⟨by rfl, ?_⟩) hHeld ?_
            rotate_left 1
            · intro wq hSw
              go_simp
              all_goals with_reducible rfl
            try simp only [Act.put, List.setIfInBounds_toArray, List.set_cons_zero, List.set_cons_succ]
            refine wpAnyH_take (i := 7) (v := ?_) (by first | (simp only [List.getElem?_toArray, List.getElem?_cons_succ, List.getElem?_cons_zero]; done) | (simp only [List.getElem?_toArray, List.getElem?_cons_succ, List.getElem?_cons_zero]; rfl)) (by kernel_rfl) (by kernel_rfl) (by kernel_rfl) (by exact fun _ _ _ h => h) (Or.inl ⟨by rfl, ?_⟩) hHeld ?_
            rotate_left 1
            · intro wq hSw
              go_simp
              all_goals with_reducible rfl
            try simp only [Act.put, List.setIfInBounds_toArray, List.set_cons_zero, List.set_cons_succ]
            refine wpAnyH_take (i := 8) (v := ?_) (by first | (simp only [List.getElem?_toArray, List.getElem?_cons_succ, List.getElem?_cons_zero]; done) | (simp only [List.getElem?_toArray, List.getElem?_cons_succ, List.getElem?_cons_zero]; rfl)) (by kernel_rfl) (by kernel_rfl) (by kernel_rfl) (by exact fun _ _ _ h => h) (Or.inl ⟨by rfl, ?_⟩) hHeld ?_
            rotate_left 1
            · intro wq hSw
              go_simp
              all_goals with_reducible rfl
            try simp only [Act.put, List.setIfInBounds_toArray, List.set_cons_zero, List.set_cons_succ]
            refine wpAnyH_take (i := 9) (v := ?_) (by first | (simp only [List.getElem?_toArray, List.getElem?_cons_succ, List.getElem?_cons_zero]; done) | (simp only [List.getElem?_toArray, List.getElem?_cons_succ, List.getElem?_cons_zero]; rfl)) (by kernel_rfl) (by kernel_rfl) (by kernel_rfl) (by exact fun _ _ _ h => h) (Or.inl ⟨by rfl, ?_⟩) hHeld ?_
            rotate_left 1
            · intro wq hSw
              obtain ⟨f0, f1, f2, f3⟩ := HFP.out _ hSw
              go_simp
              all_goals with_reducible rfl
            try simp only [Act.put, List.setIfInBounds_toArray, List.set_cons_zero, List.set_cons_succ]
            refine wpAnyH_take (i := 10) (v := ?_) (by first | (simp only [List.getElem?_toArray, List.getElem?_cons_succ, List.getElem?_cons_zero]; done) | (simp only [List.getElem?_toArray, List.getElem?_cons_succ, List.getElem?_cons_zero]; rfl)) (by kernel_rfl) (by kernel_rfl) (by kernel_rfl) (by exact fun _ _ _ h => h) (Or.inl ⟨by rfl, ?_⟩) hHeld ?_
            rotate_left 1
            · intro wq hSw
              obtain ⟨f0, f1, f2, f3⟩ := HFB.out _ hSw
              go_simp
              all_goals with_reducible rfl
            try simp only [Act.put, List.setIfInBounds_toArray, List.set_cons_zero, List.set_cons_succ]
            refine wpAnyH_ready (rs := [11]) (by kernel_rfl) (by simp) ?_
            refine AllReadyH.cons (by first | (simp only [List.getElem?_toArray, List.getElem?_cons_succ, List.getElem?_cons_zero]; done) | (simp only [List.getElem?_toArray, List.getElem?_cons_succ, List.getElem?_cons_zero]; rfl)) (fun K hK => ?_) AllReadyH.nil
            go_simp
            go_at_call 17
            with_reducible refine (KL.out _).mono ?_
            rintro e w6 ⟨rfl, q6⟩
            have q7 := below2s hHeld q6
            go_wp2_with fail
            refine hK.out _ _ ?_ (fun hHeld => ?_)
            · exact q7
            clear hK K
            try simp only [Act.put, List.setIfInBounds_toArray, List.set_cons_zero, List.set_cons_succ]
            refine wpAnyH_take (i := 12) (v := ?_) (by first | (simp only [List.getElem?_toArray, List.getElem?_cons_succ, List.getElem?_cons_zero]; done) | (simp only [List.getElem?_toArray, List.getElem?_cons_succ, List.getElem?_cons_zero]; rfl)) (by kernel_rfl) (by kernel_rfl) (by kernel_rfl) (by exact fun _ _ _ h => h) (Or.inl ⟨by rfl, ?_⟩) hHeld ?_
            rotate_left 1
            · intro wq hSw
              go_simp
              all_goals with_reducible rfl
            try simp only [Act.put, List.setIfInBounds_toArray, List.set_cons_zero, List.set_cons_succ]
            refine wpAnyH_take (i := 13) (v := ?_) (by first | (simp only [List.getElem?_toArray, List.getElem?_cons_succ, List.getElem?_cons_zero]; done) | (simp only [List.getElem?_toArray, List.getElem?_cons_succ, List.getElem?_cons_zero]; rfl)) (by kernel_rfl) (by kernel_rfl) (by kernel_rfl) (by exact fun _ _ _ h => h) (Or.inl ⟨by rfl, ?_⟩) hHeld ?_
            rotate_left 1
            · intro wq hSw
              go_simp
              all_goals with_reducible rfl
            try simp only [Act.put, List.setIfInBounds_toArray, List.set_cons_zero, List.set_cons_succ]
            refine wpAnyH_done (by kernel_rfl) ?_ _
            go_wp2_with fail
            go_ret3
            exact ND.out _ _ _ HR2.out rfl (B0.out.trans ((W.bstep V4.out q7).mono B0.out.size))
          · have HS5 := Lib.hid (show R = rdItems K num l gk (O ++ [⟨num, (y : Int), z, (x : Int)⟩]) (at_ + n1 + n2) (bs.drop (at_ + n1 + n2)) from by rw [HS4.out, hgl]; simp [hls])
            rw [hls] at KL
            dsimp only [alrV] at KL
            clear hno hgl HS4 hls hpm hpos hm e0 e1 e2 e3
            go_upto_region 26 with fail
            refine wp_region_held_drew (S := (fun wx => Below w4.heap.size w4 wx)) (by kernel_rfl) ?_ (fun hHeld => ?_)
            · exact (Below.refl _ _).drew
            refine wpAnyH_take (i := 0) (v := ?_) (by first | (simp only [List.getElem?_toArray, List.getElem?_cons_succ, List.getElem?_cons_zero]; done) | (simp only [List.getElem?_toArray, List.getElem?_cons_succ, List.getElem?_cons_zero]; rfl)) (by kernel_rfl) (by kernel_rfl) (by kernel_rfl) (by exact fun _ _ _ h => h) (Or.inl ⟨by rfl, ?_⟩) hHeld ?_
            rotate_left 1
            · intro wq hSw
              go_simp
              all_goals with_reducible rfl
            try simp only [Act.put, List.setIfInBounds_toArray, List.set_cons_zero, List.set_cons_succ]
            refine wpAnyH_take (i := 1) (v := ?_) (by first | (simp only [List.getElem?_toArray, List.getElem?_cons_succ, List.getElem?_cons_zero]; done) | (simp only [List.getElem?_toArray, List.getElem?_cons_succ, List.getElem?_cons_zero]; rfl)) (by kernel_rfl) (by kernel_rfl) (by kernel_rfl) (by exact fun _ _ _ h => h) (Or.inl ⟨by rfl, ?_⟩) hHeld ?_
            rotate_left 1
            · intro wq hSw
              go_simp
              all_goals with_reducible rfl
            try simp only [Act.put, List.setIfInBounds_toArray, List.set_cons_zero, List.set_cons_succ]
            refine wpAnyH_take (i := 2) (v := ?_) (by first | (simp only [List.getElem?_toArray, List.getElem?_cons_succ, List.getElem?_cons_zero]; done) | (simp only [List.getElem?_toArray, List.getElem?_cons_succ, List.getElem?_cons_zero]; rfl)) (by kernel_rfl) (by kernel_rfl) (by kernel_rfl) (by exact fun _ _ _ h => h) (Or.inl ⟨by rfl, ?_⟩) hHeld ?_
            rotate_left 1
            · intro wq hSw
              go_simp
              all_goals with_reducible rfl
            try simp only [Act.put, List.setIfInBounds_toArray, List.set_cons_zero, List.set_cons_succ]
            refine wpAnyH_take (i := 3) (v := ?_) (by first | (simp only [List.getElem?_toArray, List.getElem?_cons_succ, List.getElem?_cons_zero]; done) | (simp only [List.getElem?_toArray, List.getElem?_cons_succ, List.getElem?_cons_zero]; rfl)) (by kernel_rfl) (by kernel_rfl) (by kernel_rfl) (by exact fun _ _ _ h => h) (Or.inl ⟨by rfl, ?_⟩) hHeld ?_
            rotate_left 1
            · intro wq hSw
              go_simp
              all_goals with_reducible rfl
            try simp only [Act.put, List.setIfInBounds_toArray, List.set_cons_zero, List.set_cons_succ]
            refine wpAnyH_take (i := 4) (v := ?_) (by first | (simp only [List.getElem?_toArray, List.getElem?_cons_succ, List.getElem?_cons_zero]; done) | (simp only [List.getElem?_toArray, List.getElem?_cons_succ, List.getElem?_cons_zero]; rfl)) (by kernel_rfl) (by kernel_rfl) (by kernel_rfl) (by exact fun _ _ _ h => h) (Or.inl ⟨by rfl, ?_⟩) hHeld ?_
            rotate_left 1
            · intro wq hSw
              go_simp
              all_goals with_reducible rfl
            try simp only [Act.put, List.setIfInBounds_toArray, List.set_cons_zero, List.set_cons_succ]
            refine wpAnyH_take (i := 5) (v := ?_) (by first | (simp only [List.getElem?_toArray, List.getElem?_cons_succ, List.getElem?_cons_zero]; done) | (simp only [List.getElem?_toArray, List.getElem?_cons_succ, List.getElem?_cons_zero]; rfl)) (by kernel_rfl) (by kernel_rfl) (by kernel_rfl) (by exact fun _ _ _ h => h) (Or.inl ⟨by rfl, ?_⟩) hHeld ?_
            rotate_left 1
            · intro wq hSw
              go_simp
              all_goals with_reducible rfl
            try simp only [Act.put, List.setIfInBounds_toArray, List.set_cons_zero, List.set_cons_succ]
            refine wpAnyH_take (i := 6) (v := ?_) (by first | (simp only [List.getElem?_toArray, List.getElem?_cons_succ, List.getElem?_cons_zero]; done) | (simp only [List.getElem?_toArray, List.getElem?_cons_succ, List.getElem?_cons_zero]; rfl)) (by kernel_rfl) (by kernel_rfl) (by kernel_rfl) (by exact fun _ _ _ h => h) (Or.inl ⟨by rfl, ?_⟩) hHeld ?_
            rotate_left 1
            · intro wq hSw
              go_simp
              all_goals with_reducible rfl
            try simp only [Act.put, List.setIfInBounds_toArray, List.set_cons_zero, List.set_cons_succ]
            refine wpAnyH_take (i := 7) (v := ?_) (by first | (simp only [List.getElem?_toArray, List.getElem?_cons_succ, List.getElem?_cons_zero]; done) | (simp only [List.getElem?_toArray, List.getElem?_cons_succ, List.getElem?_cons_zero]; rfl)) (by kernel_rfl) (by kernel_rfl) (by kernel_rfl) (by exact fun _ _ _ h => h) (Or.inl ⟨by rfl, ?_⟩) hHeld ?_
            rotate_left 1
            · intro wq hSw
              go_simp
              all_goals with_reducible rfl
            try simp only [Act.put, List.setIfInBounds_toArray, List.set_cons_zero, List.set_cons_succ]
            refine wpAnyH_take (i := 8) (v := ?_) (by first | (simp only [List.getElem?_toArray, List.getElem?_cons_succ, List.getElem?_cons_zero]; done) | (simp only [List.getElem?_toArray, List.getElem?_cons_succ, List.getElem?_cons_zero]; rfl)) (by kernel_rfl) (by kernel_rfl) (by kernel_rfl) (by exact fun _ _ _ h => h) (Or.inl ⟨by rfl, ?_⟩) hHeld ?_
            rotate_left 1
            · intro wq hSw
              go_simp
              all_goals with_reducible rfl
            try simp only [Act.put, List.setIfInBounds_toArray, List.set_cons_zero, List.set_cons_succ]
            refine wpAnyH_take (i := 9) (v := ?_) (by first | (simp only [List.getElem?_toArray, List.getElem?_cons_succ, List.getElem?_cons_zero]; done) | (simp only [List.getElem?_toArray, List.getElem?_cons_succ, List.getElem?_cons_zero]; rfl)) (by kernel_rfl) (by kernel_rfl) (by kernel_rfl) (by exact fun _ _ _ h => h) (Or.inl ⟨by rfl, ?_⟩) hHeld ?_
            rotate_left 1
            · intro wq hSw
              obtain ⟨f0, f1, f2, f3⟩ := HFP.out _ hSw
              go_simp
              all_goals with_reducible rfl
            try simp only [Act.put, List.setIfInBounds_toArray, List.set_cons_zero, List.set_cons_succ]
            refine wpAnyH_take (i := 10) (v := ?_) (by first | (simp only [List.getElem?_toArray, List.getElem?_cons_succ, List.getElem?_cons_zero]; done) | (simp only [List.getElem?_toArray, List.getElem?_cons_succ, List.getElem?_cons_zero]; rfl)) (by kernel_rfl) (by kernel_rfl) (by kernel_rfl) (by exact fun _ _ _ h => h) (Or.inl ⟨by rfl, ?_⟩) hHeld ?_
            rotate_left 1
            · intro wq hSw
              obtain ⟨f0, f1, f2, f3⟩ := HFB.out _ hSw
              go_simp
              all_goals with_reducible rfl
            try simp only [Act.put, List.setIfInBounds_toArray, List.set_cons_zero, List.set_cons_succ]
            refine wpAnyH_ready (rs := [11]) (by kernel_rfl) (by simp) ?_
            refine AllReadyH.cons (by first | (simp only [List.getElem?_toArray, List.getElem?_cons_succ, List.getElem?_cons_zero]; done) | (simp only [List.getElem?_toArray, List.getElem?_cons_succ, List.getElem?_cons_zero]; rfl)) (fun K hK => ?_) AllReadyH.nil
            go_simp
            go_at_call 17
            with_reducible refine (KL.out _).mono ?_
            rintro e w6 ⟨rfl, q6⟩
            have q7 := below2s hHeld q6
            go_wp2_with fail
            refine hK.out _ _ ?_ (fun hHeld => ?_)
            · exact q7
            clear hK K
            try simp only [Act.put, List.setIfInBounds_toArray, List.set_cons_zero, List.set_cons_succ]
            refine wpAnyH_take (i := 12) (v := ?_) (by first | (simp only [List.getElem?_toArray, List.getElem?_cons_succ, List.getElem?_cons_zero]; done) | (simp only [List.getElem?_toArray, List.getElem?_cons_succ, List.getElem?_cons_zero]; rfl)) (by kernel_rfl) (by kernel_rfl) (by kernel_rfl) (by exact fun _ _ _ h => h) (Or.inl ⟨by rfl, ?_⟩) hHeld ?_
            rotate_left 1
            · intro wq hSw
              go_simp
              all_goals with_reducible rfl
            try simp only [Act.put, List.setIfInBounds_toArray, List.set_cons_zero, List.set_cons_succ]
            refine wpAnyH_take (i := 13) (v := ?_) (by first | (simp only [List.getElem?_toArray, List.getElem?_cons_succ, List.getElem?_cons_zero]; done) | (simp only [List.getElem?_toArray, List.getElem?_cons_succ, List.getElem?_cons_zero]; rfl)) (by kernel_rfl) (by kernel_rfl) (by kernel_rfl) (by exact fun _ _ _ h => h) (Or.inl ⟨by rfl, ?_⟩) hHeld ?_
            rotate_left 1
            · intro wq hSw
              go_simp
              all_goals with_reducible rfl
            try simp only [Act.put, List.setIfInBounds_toArray, List.set_cons_zero, List.set_cons_succ]
            refine wpAnyH_done (by kernel_rfl) ?_ _
            have V6 := Lib.hid (W.bstep V4.out q7)
            have hs6 : w0.heap.size ≤ w6.heap.size := V6.out.size
            have p6 := blk4 (HB4.out.below q7 HB4.out.lt)
            have HO6 := Lib.hid (own_below HO5.out q7)
            clear q6 q7 p5
            go_wp2_with (first
              | (at_builtin; (refine wp_append_alr _ rfl (.tmp 106) (.tmp 108) rfl w0.heap.size _ O ⟨num, (y : Int), z, (x : Int)⟩ _ _ _ rfl (World.ownsRow.alloc HO6.out _) rfl (reads_blk _ _ _) (by have := HOK.out; omega) (by simp; omega) ?_; intro v7 w7 ho7 hb7))
              | fail)
            have HO7 := Lib.hid ho7
            have V7 := Lib.hid (V6.out.trans (((Below.refl _ _).alloc hs6 _).trans hb7))
            clear ho7 hb7
            go_roundg gk
            case measure => omega
            case rel =>
              refine ⟨k + 1, at_ + n1 + n2, O ++ [(⟨num, (y : Int), z, (x : Int)⟩ : Alr)], by omega, by go_num, ?_, hat3, ?_, ?_, ?_, ?_, ?_⟩
              · first | rfl | go_num | simp
              · have := HOK.out; simp; omega
              · exact HS5.out
              · exact HO7.out
              · exact el_snoc HE.out EA.out
              · exact V7.out
end Go.Proofs.YtojhdljbpmjigaaDoor.Al
