/- The reference of layer 7: Propose. -/
import Derived.Test.YtipipjbpjpdcbaaDoorCRef2
namespace Go.Proofs.YtipipjbpjpdcbaaDoor.Ct
set_option linter.unusedVariables false
set_option linter.unusedSimpArgs false
open Go.RowKit
open Go.Proofs.YtipipjbpjpdcbaaDoor.W
open Go.Proofs.YtipipjbpjpdcbaaDoor.V
open Go.Proofs.YtipipjbpjpdcbaaDoor.O
open Go.Proofs.YtipipjbpjpdcbaaDoor.Pb (Alr alrC alrsC len_alrsC reads_blk)
open Go.Proofs.YtipipjbpjpdcbaaDoor.Al

theorem lastF_drop {m S : List Int} {r : Nat} {acc x : Int} (h : S[r]? = some x) : lastF m r (S.drop r) acc = lastF m (r + 1) (S.drop (r + 1)) (if hasB m x then acc else (r : Int)) := by
  rw [List.drop_eq_getElem_cons (List.getElem?_eq_some_iff.1 h).1, (List.getElem?_eq_some_iff.1 h).2]; rfl
theorem step_append_ints {ops : Array Oper} {o : Oper} {a : Act} {K : Act → World → Prop} {Q : Exit → Act → World → Prop} {E : Prop} (W : World) (hgd : o.guard = none) (s x : Operand)
    (ho : o.op = .call { callee := .builtin .append, args := #[s, x], argTypes := #[22, 22] }) (base : Nat) (v : Value) (es news : List Int) (B m c : Nat) (A : Option Addr) (hs : a.eval s = v)
    (hown : W.ownsRow base 3 1 v es.length (es.map intV)) (hx : a.eval x = .slice A m c) (hr : Reads W B 1 A m (news.map intV)) (hm : news.length = m)
    (hl : es.length + m ≤ 1099511627776) (hbase : base ≤ W.heap.size)
    (h : ∀ v' w', w'.ownsRow base 3 1 v' (es ++ news).length ((es ++ news).map intV) → Below base W w' → K (a.put o.dst v') w') :
    if Region.wanted o (yielded ops a.tmps) = true then Oper.wp Tryd.prog o a W K Q else E := by
  subst hm
  obtain ⟨i0, hi, hz0, hz1, hz2⟩ := info_parts intInfo
  refine step_append_any W hgd s x 22 ho base 3 i0 _ 1 8 Tryd.underlying22 hi hz0 hz1 hz2 rfl (by decide) v _ _ hs hown B A news.length c _ hx hr ?_ ?_ ?_ hbase ?_
  · intro u hu
    obtain ⟨z, _, rfl⟩ := List.mem_map.1 hu
    rfl
  · unfold maxLen; omega
  · omega
  · intro v' w' h1 h2 _
    refine h v' w' ?_ ((Below.refl _ _).grown h2 hbase fun q hq => (hown.lt q hq).1)
    rw [List.map_append, List.length_append]
    exact h1
theorem outLB_no {w w' : World} {R : Option (List Int)} {e : Ending} (hR : R = none) (he : e = .returned (.tuple #[.slice none 0 0, .bool false])) (hb : Below w.heap.size w w') : OutLB w (R.getD []) (R.getD []).length R.isSome e w' := by
  subst hR
  exact ⟨none, 0, he, Nat.le_refl _, Reads.none_, hb⟩
theorem outLB_yes {w w' : World} {R : Option (List Int)} {S : List Int} {e : Ending} {X : Option Addr} {cX k : Nat} (hR : R = some S) (hk : k = S.length) (he : e = .returned (.tuple #[.slice X k cX, .bool true])) (ho : LS w' w'.heap.size S X cX) (hb : Below w.heap.size w w') : OutLB w (R.getD []) (R.getD []).length R.isSome e w' := by
  subst hR hk
  exact ⟨X, cX, he, ho.cap, ho.rd, hb⟩
def OutN (w : World) (l : List Int) (n : Nat) (e : Ending) (w' : World) : Prop := ∃ A c, e = .returned (.slice A n c) ∧ n ≤ c ∧ Reads w' w'.heap.size 1 A n (l.map intV) ∧ Below w.heap.size w w'
theorem outInt_n {w w' : World} {l : List Int} {e : Ending} (h : OutInt w l e w') (n : Nat) (hn : n = l.length) : OutN w l n e w' := by subst hn; exact h
def OutNx (w : World) (num : Int) (k err : Nat) (e : Ending) (w' : World) : Prop := ∃ A c, e = .returned (.tuple #[.agg #[.int .i64 num, .slice A k c], .int .i64 (err : Int)]) ∧ Below w.heap.size w w'
theorem next_n {w w' : World} {r : (Int × List Int) × Nat} {e : Ending} (h : NextPost w r e w') (num : Int) (k err : Nat) (h1 : num = r.1.1) (h2 : k = r.1.2.length) (h3 : err = r.2) : OutNx w num k err e w' := by
  subst h1 h2 h3
  obtain ⟨A, c, h4, h5, h6, h7⟩ := h
  exact ⟨A, c, h4, h7⟩
theorem susp_mem {num : Int} {l : List Int} {s : List Alr} {high : Bool} {x : Int} (h : x ∈ susp K num l s high) : x ∈ subsA s := by
  rw [susp_eq] at h
  split at h
  · exact (List.mem_filter.1 h).1
  · cases h
theorem susp_len {num : Int} {l : List Int} {s : List Alr} {high : Bool} (hm : s.length ≤ 100000) : (susp K num l s high).length ≤ 100000 := by
  unfold susp
  rw [List.length_map]
  exact Nat.le_trans (List.length_filter_le _ _) (tal_len hm)
set_option maxRecDepth 1000000 in
set_option maxHeartbeats 8000000 in
theorem refPropose_any (num : Int) (l : List Int) (A E : Option Addr) (c cE B : Nat) (s : List Alr) (w : World) (h : VW w B num l A c) (hs : AS w B s E cE) (hB : B ≤ w.heap.size) (hm : s.length ≤ 100000) :
    Calls Tryd.prog 14 #[.agg #[.int .i64 num, .slice A l.length c], .slice E s.length cE] w (OutLB w ((propA K num l s).getD []) ((propA K num l s).getD []).length (propA K num l s).isSome) := by
  have hb0 := (Below.refl w.heap.size w).alloc (Nat.le_refl _) (.cells #[.int .i64 num, .slice A l.length c] 24)
  have hz := Blk.new w 24 #[.int .i64 num, .slice A l.length c]
  have KT := Lib.hid (fun W (hW : Below w.heap.size w W) => refSuspects_any num l A E c cE w.heap.size s true W ((h.more hB).below hW) ((hs.more hB).below hW) hW.size hm)
  have KF := Lib.hid (fun W (hW : Below w.heap.size w W) => refSuspects_any num l A E c cE w.heap.size s false W ((h.more hB).below hW) ((hs.more hB).below hW) hW.size hm)
  have KN := Lib.hid (fun (S : List Int) (X : Option Addr) (cX : Nat) W (hW : Below w.heap.size w W) (hS : LS W W.heap.size S X cX) => (refNext_any num l S A X c cX W.heap.size W (((h.more hB).below hW).more hW.size) hS (Nat.le_refl _)))
  have KO := Lib.hid (fun (x : Int) W (hW : Below w.heap.size w W) => refContains_any A c w.heap.size l x W ((h.more hB).below hW).rd h.l40)
  have EL := Lib.hid (fun x (hx : x ∈ susp K num l s true) => show In64 x from by
    obtain ⟨a, ha, rfl⟩ := mem_subsA.1 (susp_mem hx)
    exact (hs.el a ha).2.2.2)
  have TL := Lib.hid (susp_len (num := num) (l := l) (high := true) hm)
  have HR := Lib.hid (show propA K num l s = if susp K num l s true = [] ∨ susp K num l s false ≠ [] then none else prop num l ((susp K num l s true).length + 1) (susp K num l s true) from rfl)
  obtain ⟨R, hR⟩ : ∃ R, R = propA K num l s := ⟨_, rfl⟩
  rw [← hR] at HR ⊢
  clear hR
  have ND := Lib.hid (fun w' e hR he hb => outLB_no (w := w) (w' := w') (R := R) (e := e) hR he hb)
  have YD := Lib.hid (fun S X cX k w' e hR hk he ho hb => outLB_yes (w := w) (w' := w') (R := R) (S := S) (X := X) (cX := cX) (k := k) (e := e) hR hk he ho hb)
  obtain ⟨Q, hQ⟩ : ∃ Q, Q = OutLB w (R.getD []) (R.getD []).length R.isSome := ⟨_, rfl⟩
  rw [← hQ] at ND YD ⊢
  clear hQ
  generalize susp K num l s true = T at *
  generalize susp K num l s false = F at *
  obtain ⟨n, hn⟩ : ∃ n, n = l.length := ⟨_, rfl⟩
  obtain ⟨ns, hns⟩ : ∃ m, m = s.length := ⟨_, rfl⟩
  dsimp only [vwV] at KN
  rw [← hn] at hb0 hz KT KF KN KO ⊢
  rw [← hns] at KT KF ⊢
  obtain ⟨nt, hnt⟩ : ∃ m, m = T.length := ⟨_, rfl⟩
  obtain ⟨nf, hnf⟩ : ∃ m, m = F.length := ⟨_, rfl⟩
  have KT := Lib.hid (fun W hW => (KT.out W hW).mono fun _ _ h => outInt_n h nt hnt)
  have KF := Lib.hid (fun W hW => (KF.out W hW).mono fun _ _ h => outInt_n h nf hnf)
  have HNT := Lib.hid hnt
  have HNF := Lib.hid hnf
  have hnt5 : nt ≤ 100000 := by rw [hnt]; exact TL.out
  have B0 := Lib.hid hb0
  have Z1 := Lib.hid hz
  clear hb0 hz hn hns hnt hnf h hs hm hB
  go_enter Tryd.func14, Tryd.ntmps14
  go_upto_region 1 with fail
  generalize w.alloc (.cells #[.int .i64 num, .slice A n c] 24) = w0 at *
  have FB := Lib.hid (fun W (hW : Below w0.heap.size w0 W) => (blk2 (Z1.out.below hW Z1.out.lt)))
  have p0 := FB.out _ (Below.refl _ _)
  go_upto_region 2 with (first
    | (go_at_call 17; (with_reducible refine (KT.out _ B0.out).mono ?_); rintro e w1 ⟨A1, c1, rfl, hc1, hr1, q1⟩)
    | fail)
  have V1 := Lib.hid q1
  have W1 := Lib.hid (below2 B0.out q1)
  have R1 := Lib.hid hr1
  have p1 := FB.out _ V1.out
  clear q1 hr1 KT p0
  by_cases h0 : nt = 0
  · have HRN := Lib.hid (show R = none by
      have h1 := HNT.out
      have : T = [] := List.eq_nil_of_length_eq_zero (by omega)
      rw [HR.out, if_pos (.inl this)])
    subst h0
    go_wp2_with fail
    exact ND.out _ _ HRN.out rfl W1.out
  have hne : ¬ ((nt : Int) = 0) := by omega
  by_cases hf : nf = 0
  case neg =>
    have HRN := Lib.hid (show R = none by
      have h1 := HNF.out
      have : F ≠ [] := fun h => by rw [h] at h1; exact hf h1
      rw [HR.out, if_pos (.inr this)])
    have hfp : (0 : Int) < (nf : Int) := by omega
    go_wp2_with (first
      | (go_at_call 17; (with_reducible refine (KF.out _ W1.out).mono ?_); rintro e w2 ⟨A2, c2, rfl, hc2, -, q2⟩)
      | fail)
    exact ND.out _ _ HRN.out rfl (below2 W1.out q2)
  have HR1 := Lib.hid (show R = prop num l (nt + 1) T by
    have h1 := HNT.out
    have h2 := HNF.out
    have hT : T ≠ [] := fun h => h0 (by rw [h1, h]; rfl)
    have hF : F = [] := List.eq_nil_of_length_eq_zero (by omega)
    rw [HR.out, if_neg (by simp [hT, hF]), h1])
  subst hf
  go_wp2_with (first
      | (go_at_call 17; (with_reducible refine (KF.out _ W1.out).mono ?_); rintro e w2 ⟨A2, c2, rfl, hc2, -, q2⟩)
      | fail)
  have W2 := Lib.hid (below2 W1.out q2)
  have V2 := Lib.hid (below2 V1.out q2)
  have L2 := Lib.hid (show LS w2 w2.heap.size T A1 c1 from ⟨by rw [← HNT.out]; exact (R1.out.below q2).more q2.size, by have := HNT.out; omega, EL.out, by rw [← HNT.out]; exact hc1⟩)
  clear q2 KF R1 hc2 HR p1
  go_loopg [6, 7, 8, 9, 10] (nt + 1) (fun gk s6 _ _ _ _ wr => ∃ (S : List Int) (X : Option Addr) (cX nS : Nat), gk = nS + 1 ∧ nS ≤ 100000 ∧ s6 = .slice X nS cX ∧ Hid (nS = S.length) ∧ Hid (R = prop num l gk S) ∧ Hid (LS wr wr.heap.size S X cX) ∧ Hid (Below w0.heap.size w0 wr))
  case atStart => exact ⟨T, A1, c1, nt, rfl, hnt5, rfl, HNT.out, HR1.out, L2.out, V2.out⟩
  case round =>
    obtain ⟨S, X, cX, nS, rfl, hS5, rfl, HNS, HRS, HL, HW⟩ := hrel
    have hws := HW.out.size
    have BW := Lib.hid (below2 B0.out HW.out)
    have fb := FB.out _ HW.out
    obtain ⟨⟨⟨nn, nl⟩, er⟩, hnx⟩ : ∃ r, next num l S = r := ⟨_, rfl⟩
    obtain ⟨k4, hk4⟩ : ∃ q, q = nl.length := ⟨_, rfl⟩
    have KX := Lib.hid (show Calls Tryd.prog 39 #[.agg #[.int .i64 num, .slice A n c], .slice X nS cX] wr (OutNx wr nn k4 er) by
      have := (KN.out S X cX wr BW.out HL.out).mono fun _ _ h => next_n h nn k4 er (by rw [hnx]) (by rw [hnx]; exact hk4) (by rw [hnx])
      rwa [← HNS.out] at this)
    obtain ⟨LF, hLF⟩ : ∃ q, q = lastF l 0 S (-1) := ⟨_, rfl⟩
    have HLF := Lib.hid hLF
    have HP1 := Lib.hid (show R = if er = 0 then some S else if er = 5 ∧ 0 ≤ LF then prop num l nS (S.eraseIdx LF.toNat) else none by
      rw [HRS.out, prop, hnx, hLF])
    clear hnx hk4 hLF KN
    go_upto_region 5 with (first
      | (go_at_call 39; (with_reducible refine KX.out.mono ?_); rintro e w4 ⟨A4, c4, rfl, q4⟩)
      | fail)
    generalize hw5 : w4.alloc (.cells #[.int .i64 nn, .slice A4 k4 c4] 24) = w5 at *
    have Q5 := Lib.hid (show Below wr.heap.size wr w5 by rw [← hw5]; exact q4.alloc q4.size _)
    have V5 := Lib.hid (below2 HW.out Q5.out)
    have W5 := Lib.hid (below2 BW.out Q5.out)
    have L5 := Lib.hid (show LS w5 w5.heap.size S X cX from (HL.out.below Q5.out).more Q5.out.size)
    have hs5 : w0.heap.size ≤ w5.heap.size := V5.out.size
    clear hw5 q4 HL KX fb BW hws
    by_cases he0 : er = 0
    · have HRY := Lib.hid (show R = some S by rw [HP1.out, if_pos he0])
      subst he0
      go_wp2_with fail
      exact YD.out S X cX nS _ _ HRY.out HNS.out rfl L5.out W5.out
    have hen : ((er : Int) == 0) = false := by simp; omega
    have HP2 := Lib.hid (show R = if er = 5 ∧ 0 ≤ LF then prop num l nS (S.eraseIdx LF.toNat) else none by rw [HP1.out, if_neg he0])
    clear HP1 HRS
    go_wp2_with fail
    go_loopg [9, 10] nS (fun gk s9 s10 wy => ∃ (r m : Nat) (acc : Int), r + gk = nS ∧ s10 = .int .i64 r ∧ s9 = .int .i64 acc ∧ -1 ≤ acc ∧ acc < (r : Int) ∧ wy = w5.drewN m ∧ Hid (LF = lastF l r (S.drop r) acc))
    case atStart => exact ⟨0, 0, -1, by omega, rfl, rfl, by omega, by omega, rfl, by show LF = _; rw [HLF.out, List.drop_zero]⟩
    case round =>
      obtain ⟨r, m, acc, hrg, rfl, rfl, hac1, hac2, rfl, HLR⟩ := hrel
      cases gk with
      | zero =>
        have hrn : ¬ (r : Int) < (nS : Int) := by omega
        have hacc : acc = LF := by
          have h1 := HLR.out
          rw [List.drop_of_length_le (by have := HNS.out; omega)] at h1
          exact h1.symm
        subst hacc
        have W5m := Lib.hid (below_drewN' W5.out m)
        by_cases he5 : er = 5
        case neg =>
          have HRN := Lib.hid (show R = none by rw [HP2.out, if_neg (by simp [he5])])
          have h5n : ¬ ((er : Int) = 5) := by omega
          go_wp2_with fail
          exact ND.out _ _ HRN.out rfl W5m.out
        by_cases hlt : acc < 0
        · have HRN := Lib.hid (show R = none by rw [HP2.out, if_neg (by omega)])
          subst he5
          go_wp2_with fail
          exact ND.out _ _ HRN.out rfl W5m.out
        obtain ⟨k, rfl⟩ : ∃ k : Nat, acc = (k : Int) := ⟨acc.toNat, by omega⟩
        have hkS : k < nS := by omega
        have HRK := Lib.hid (show R = prop num l nS (S.eraseIdx k) by rw [HP2.out, if_pos ⟨he5, by omega⟩]; rfl)
        subst he5
        have hkn : ¬ ((k : Int) < 0) := by omega
        obtain ⟨wz, hwz⟩ : ∃ q, q = w5.drewN m := ⟨_, rfl⟩
        have VZ := Lib.hid (show Below w0.heap.size w0 wz by rw [hwz]; exact below_drewN' V5.out m)
        have LZ := Lib.hid (show LS wz wz.heap.size S X cX by rw [hwz]; have b := below_drewN' (Below.refl w5.heap.size w5) m; exact (L5.out.below b).more b.size)
        have hrd := LZ.out.rd
        have hcap := LZ.out.cap
        rw [← hwz]
        clear hwz W5m
        obtain ⟨Z, hs1, rz⟩ := slice_fromI (w := wz) (B := wz.heap.size) (l := S) (c := cX) (A := X) (k := k + 1) (ki := (k : Int) + 1) hrd hcap (by have := HNS.out; omega) (by omega)
        rw [← HNS.out] at hs1 rz hrd hcap
        have hs2 := slice_toI (n := nS) (c := cX) (k := k) (ki := (k : Int)) X hcap (by omega) rfl
        have RZ := Lib.hid (fun W (hW : Below wz.heap.size wz W) => rz.below hW)
        have RT := Lib.hid (fun W (hW : Below wz.heap.size wz W) => (Reads.takeI (n := nS) (k := k) hrd (by omega)).below hW)
        have LD := Lib.hid (show (S.drop (k + 1)).length = nS - (k + 1) by rw [List.length_drop, ← HNS.out])
        have LT := Lib.hid (show (S.take k).length = k by rw [List.length_take, ← HNS.out]; omega)
        have HER := Lib.hid (show S.eraseIdx k = S.take k ++ S.drop (k + 1) from List.eraseIdx_eq_take_drop_succ _ _)
        have HE64 := Lib.hid (show ∀ x ∈ S.take k ++ S.drop (k + 1), In64 x from fun x hx => LZ.out.el x (by
          rcases List.mem_append.1 hx with h | h
          · exact List.mem_of_mem_take h
          · exact List.mem_of_mem_drop h))
        clear rz hrd
        generalize S.drop (k + 1) = PD at *
        generalize S.take k = PT at *
        have wk : IntKind.i64.wrap ((k : Int) + 1) = (k : Int) + 1 := by rw [IntWalk.i64_in _ (by omega)]
        have k0 : (0 : Int) ≤ (k : Int) := by omega
        have kn : (k : Int) ≤ (nS : Int) := by omega
        have kn1 : (k : Int) + 1 ≤ (nS : Int) := by omega
        have k01 : (0 : Int) ≤ (k : Int) + 1 := by omega
        have bA : Below wz.heap.size wz (wz.alloc (.cells #[] 3)) := (Below.refl _ _).alloc (Nat.le_refl _) _
        have bD : Below wz.heap.size wz (wz.alloc (.cells #[] 3)).drew := bA.drew
        have oA : (wz.alloc (.cells #[] 3)).ownsRow wz.heap.size 3 1 (.slice (some ⟨wz.heap.size, 0, none⟩) 0 0) ([] : List Int).length (([] : List Int).map intV) := World.ownsRow_made (base := wz.heap.size) (e := 3) (size := 1) wz #[] 0 (Nat.le_refl _) (by decide) rfl
        have oD : (wz.alloc (.cells #[] 3)).drew.ownsRow wz.heap.size 3 1 (.slice (some ⟨wz.heap.size, 0, none⟩) 0 0) ([] : List Int).length (([] : List Int).map intV) := World.ownsRow_made (base := wz.heap.size) (e := 3) (size := 1) wz #[] 0 (Nat.le_refl _) (by decide) rfl
        have L1 : ([] : List Int).length + k ≤ 1099511627776 := by simp; omega
        have L2 : ([] ++ PT).length + (nS - (k + 1)) ≤ 1099511627776 := by have := LT.out; simp; omega
        go_upto_region 15 with fail
        go_region_held3 (fun W' => Below wz.heap.size wz W') (first | exact b7 | exact b6 | exact bD | exact bA | exact (Below.refl _ _).drew | exact Below.refl _ _) (first
          | (refine step_append_ints _ rfl (.tmp 54) (.tmp 57) rfl wz.heap.size _ [] PT _ _ _ _ rfl (by first | exact oD | exact oA) rfl (RT.out _ (by first | exact bD | exact bA)) LT.out L1 (by first | exact bD.size | exact bA.size) ?_; intro v6 w6 ho6 hq6; have b6 : Below wz.heap.size wz w6 := (by first | exact bD.trans hq6 | exact bA.trans hq6))
          | (refine step_append_ints _ rfl (.tmp 58) (.tmp 62) rfl wz.heap.size _ ([] ++ PT) PD _ _ _ _ rfl ho6 rfl (RZ.out _ b6) LD.out L2 b6.size ?_; intro v7 w7 ho7 hq7; have b7 : Below wz.heap.size wz w7 := b6.trans hq7)
          | fail)
        all_goals
          have hl9 : ([] ++ PT ++ PD).length = nS - 1 := by have := LT.out; have := LD.out; rw [List.length_append, List.nil_append]; omega
          obtain ⟨A9, c9, rfl, hc9, hr9⟩ := own_out ho7
          rw [hl9] at hc9 hr9 ⊢
          have L9 := Lib.hid (show LS w7 w7.heap.size (PT ++ PD) A9 c9 from ⟨by rw [List.nil_append] at hl9 hr9; rw [hl9]; exact hr9, by rw [List.nil_append] at hl9; omega, HE64.out, by rw [List.nil_append] at hl9; rw [hl9]; exact hc9⟩)
          have V9 := Lib.hid (below2 VZ.out b7)
          clear ho6 ho7 hq6 hq7 b6 b7 oA oD bA bD hs1 hs2 hr9
          go_wp2_with fail
          go_roundg nS
          case measure => omega
          case rel =>
            refine ⟨PT ++ PD, A9, c9, nS - 1, by omega, by omega, rfl, ?_, ?_, L9.out, V9.out⟩
            · show nS - 1 = _; rw [← hl9, List.nil_append]
            · show R = _; rw [HRK.out, HER.out]
      | succ gi =>
        have hri : (r : Int) < (nS : Int) := by omega
        have hr0 : ¬ (r : Int) < 0 := by omega
        obtain ⟨x, hx⟩ : ∃ x, S[r]? = some x := ⟨_, List.getElem?_eq_getElem (by have := HNS.out; omega)⟩
        have HLN := Lib.hid (show LF = lastF l (r + 1) (S.drop (r + 1)) (if hasB l x then acc else (r : Int)) by rw [HLR.out, lastF_drop hx])
        have hrd := L5.out.rd
        rw [← HNS.out] at hrd
        obtain ⟨xd, uy, rfl, hxd, huy, hyc⟩ := hrd.at_ (k := r) (by omega)
        have hyy : uy = .int .i64 x := by simp [hx, intV] at huy; exact huy.symm
        rw [hyy] at hyc
        have fb5 := FB.out _ V5.out
        have KOX := Lib.hid (fun W (hW : Below w.heap.size w W) => KO.out x W hW)
        have W5m := Lib.hid (below_drewN' W5.out m)
        clear huy hyy hx
        generalize hasB l x = b at *
        cases b
        case true =>
          go_wp2_with fail
          go_quiet (first
            | (go_at_call 23; with_reducible exact Go.Proofs.YtipipjbpjpdcbaaDoor.V.quiet_left (KOX.out _ (below_drewN' W5.out _)))
            | fail)
          go_wp2_with fail
          go_roundg gi
          case measure => omega
          case rel => exact ⟨r + 1, _, acc, by omega, by go_num, rfl, hac1, by omega, rfl, HLN.out⟩
        case false =>
          go_wp2_with fail
          go_quiet (first
            | (go_at_call 23; with_reducible exact Go.Proofs.YtipipjbpjpdcbaaDoor.V.quiet_left (KOX.out _ (below_drewN' W5.out _)))
            | fail)
          go_wp2_with fail
          go_roundg gi
          case measure => omega
          case rel => exact ⟨r + 1, _, (r : Int), by omega, by go_num, rfl, by omega, by omega, rfl, HLN.out⟩
end Go.Proofs.YtipipjbpjpdcbaaDoor.Ct
