/- The reference of layer 7: Counts. -/
import Derived.Test.YtipipjbpjpdcbaaDoorCRow
namespace Go.Proofs.YtipipjbpjpdcbaaDoor.Ct
set_option linter.unusedVariables false
set_option linter.unusedSimpArgs false
open Go.RowKit
open Go.Proofs.YtipipjbpjpdcbaaDoor.W
open Go.Proofs.YtipipjbpjpdcbaaDoor.V
open Go.Proofs.YtipipjbpjpdcbaaDoor.O
open Go.Proofs.YtipipjbpjpdcbaaDoor.Pb (Alr alrC alrsC len_alrsC reads_blk)
open Go.Proofs.YtipipjbpjpdcbaaDoor.Al

theorem impF_drop {s : List Alr} {x : Int} {r : Nat} {o : List Int} {y : Int} (h : o[r]? = some y) : impF s x r (o.drop r) = (if (!hasA s x (r : Int)) && decide (2 ≤ cntA s y) then 1 else 0) + impF s x (r + 1) (o.drop (r + 1)) := by
  rw [List.drop_eq_getElem_cons (List.getElem?_eq_some_iff.1 h).1, (List.getElem?_eq_some_iff.1 h).2]; rfl
theorem impF_le {s : List Alr} {x : Int} : ∀ {o : List Int} {r : Nat}, impF s x r o ≤ o.length
  | [], r => Nat.le_refl _
  | y :: t, r => by
    unfold impF
    have := impF_le (s := s) (x := x) (o := t) (r := r + 1)
    rw [List.length_cons]
    split <;> omega
theorem cnt_len {s : List Alr} {x : Int} : cntA s x ≤ s.length := by unfold cntA; exact List.countP_le_length
theorem tal_snoc {K : Int → Int → Nat} {l : List Int} {s : List Alr} {L : List Int} {k : Nat} {x : Int} (h : L[k]? = some x) : (L.take (k + 1)).map (tally K l s) = (L.take k).map (tally K l s) ++ [tally K l s x] := by
  rw [List.take_add_one, h, List.map_append]; rfl
set_option maxRecDepth 1000000 in
set_option maxHeartbeats 8000000 in
theorem refCounts_any (num : Int) (l : List Int) (A E : Option Addr) (c cE B : Nat) (s : List Alr) (w : World) (h : VW w B num l A c) (hs : AS w B s E cE) (hB : B ≤ w.heap.size) (hm : s.length ≤ 100000) :
    Calls Tryd.prog 12 #[.agg #[.int .i64 num, .slice A l.length c], .slice E s.length cE] w (OutT w (tallies K num l s) (tallies K num l s).length) := by
  have hb0 := (Below.refl w.heap.size w).alloc (Nat.le_refl _) (.cells #[.int .i64 num, .slice A l.length c] 24)
  have hz := Blk.new w 24 #[.int .i64 num, .slice A l.length c]
  have KV := Lib.hid (fun W (hW : Below w.heap.size w W) => refValidS_any num l A E c cE w.heap.size s W ((h.more hB).below hW) ((hs.more hB).below hW) hW.size)
  have KS := Lib.hid (fun W (hW : Below w.heap.size w W) => refSubjectsS_any E cE w.heap.size s W ((hs.more hB).below hW) hW.size (by omega))
  have KC := Lib.hid (fun (x : Int) W (hW : Below w.heap.size w W) => refCount_any E cE w.heap.size s x W ((hs.more hB).below hW))
  have KH := Lib.hid (fun (x r : Int) W (hW : Below w.heap.size w W) => refHas_any E cE w.heap.size s x r W ((hs.more hB).below hW))
  have KO := Lib.hid (fun (x : Int) (hx : In64 x) W (hW : Below w.heap.size w W) => (refObservers_any x A c w.heap.size l W ⟨((h.more hB).below hW).rd, h.l40, h.el, h.cap⟩ hW.size hx).mono fun _ _ h => h.to (obsL K l x) (obsL K l x).length rfl rfl)
  have EL := Lib.hid (fun x (hx : x ∈ subsA s) => show In64 x from by
    obtain ⟨a, ha, rfl⟩ := mem_subsA.1 hx
    exact (hs.el a ha).2.2.2)
  have CL := Lib.hid (fun x => (show cntA s x ≤ 100000 from Nat.le_trans cnt_len hm))
  have SL := Lib.hid (show (subsA s).length ≤ 100000 from by
    have := subs_len s []
    simp at this
    exact Nat.le_trans this hm)
  have HT := Lib.hid (show tallies K num l s = if okS K num l s then (subsA s).map (tally K l s) else [] from rfl)
  obtain ⟨T, hT⟩ : ∃ T, T = tallies K num l s := ⟨_, rfl⟩
  rw [← hT] at HT ⊢
  clear hT
  obtain ⟨n, hn⟩ : ∃ n, n = l.length := ⟨_, rfl⟩
  obtain ⟨ns, hns⟩ : ∃ m, m = s.length := ⟨_, rfl⟩
  rw [← hn] at hb0 hz KV KO ⊢
  rw [← hns] at KV KS KC KH ⊢
  have B0 := Lib.hid hb0
  have Z1 := Lib.hid hz
  clear hb0 hz hn hns h hs hm
  go_enter Tryd.func12, Tryd.ntmps12
  go_upto_region 1 with fail
  generalize w.alloc (.cells #[.int .i64 num, .slice A n c] 24) = w0 at *
  have FB := Lib.hid (fun W (hW : Below w0.heap.size w0 W) => (blk2 (Z1.out.below hW Z1.out.lt)))
  have p0 := FB.out _ (Below.refl _ _)
  cases hv : okS K num l s
  · have HN := Lib.hid (show T = [] by rw [HT.out, hv]; rfl)
    rw [hv] at KV
    clear HT hv
    go_wp2_with (go_at_call 33; (with_reducible refine (KV.out _ B0.out).mono ?_); rintro e w1 ⟨rfl, b1⟩)
    go_ret
    rw [HN.out]
    exact ⟨none, 0, rfl, ⟨Reads.none_, Nat.zero_le _, Nat.le_refl _⟩, B0.out.trans (b1.mono B0.out.size)⟩
  have HTT := Lib.hid (show T = (subsA s).map (tally K l s) by rw [HT.out, hv]; rfl)
  rw [hv] at KV
  clear HT hv
  generalize subsA s = L at *
  go_wp2_with (first
    | (go_at_call 33; (with_reducible refine (KV.out _ B0.out).mono ?_); rintro e w1 ⟨rfl, b1⟩; (have c1 := below2 B0.out b1))
    | (go_at_call 34; (with_reducible refine (KS.out _ c1).mono ?_); rintro e w2 ⟨A2, c2, rfl, hc2, hr2, b2⟩)
    | fail)
  have W2 := Lib.hid (below2 c1 b2)
  have V2 := Lib.hid (below2 b1 b2)
  have RL := Lib.hid (fun W (hW : Below w2.heap.size w2 W) => hr2.below hW)
  obtain ⟨nl, hnl⟩ : ∃ m, m = L.length := ⟨_, rfl⟩
  have HNL := Lib.hid hnl
  have hnl5 : nl ≤ 100000 := by rw [hnl]; exact SL.out
  rw [← hnl] at RL ⊢
  clear p0 b1 b2 c1 hc2 hr2 KV KS hnl
  go_loopg [5, 7, 8, 9, 10] nl (fun gk s5 s7 _ _ _ wr => ∃ k : Nat, k + gk = nl ∧ s7 = .int .i64 k ∧ Hid (wr.ownsRow w2.heap.size 31 3 s5 ((L.take k).map (tally K l s)).length (tlysC ((L.take k).map (tally K l s)))) ∧ Hid (Below w2.heap.size w2 wr))
  case atStart => exact ⟨0, by omega, rfl, World.ownsRow_nil _ _ _ _, Below.refl _ _⟩
  case round =>
    obtain ⟨k, hkg, rfl, HO, HW⟩ := hrel
    have hws := HW.out.size
    have BW := Lib.hid (below2 W2.out HW.out)
    cases gk with
    | zero =>
      have hkz : ¬ ((k : Int) < (nl : Int)) := by omega
      have HK := Lib.hid (show (L.take k).map (tally K l s) = T by rw [HTT.out, List.take_of_length_le (by have := HNL.out; omega)])
      rw [HK.out] at HO
      have LT := Lib.hid (show T.length ≤ 1099511627776 by rw [HTT.out, List.length_map, ← HNL.out]; omega)
      go_wp2_with fail
      obtain ⟨X, cX, rfl, hx⟩ := TS.of_own HO.out LT.out
      go_ret
      exact ⟨X, cX, rfl, hx, BW.out⟩
    | succ gi =>
      obtain ⟨wx, rfl⟩ : ∃ wx : World, wx = wr := ⟨_, rfl⟩
      have hkz : (k : Int) < (nl : Int) := by omega
      have hk0 : ¬ (k : Int) < 0 := by omega
      obtain ⟨ad, u, rfl, hadb, hxu, hcell⟩ := (RL.out wx HW.out).at_ (k := k) (by omega)
      obtain ⟨x, hx⟩ : ∃ x, L[k]? = some x := ⟨_, List.getElem?_eq_getElem (by have := HNL.out; omega)⟩
      have hux : u = .int .i64 x := by simp [hx, intV] at hxu; exact hxu.symm
      rw [hux] at hcell
      have hadx : ad.block < wx.heap.size := by omega
      have HCX := Lib.hid (fun W (hW : Below wx.heap.size wx W) => (hW.cell (p := ad.add k) (by rw [block_of_add]; exact hadx)).trans hcell)
      have x64 := EL.out x (List.mem_of_getElem? hx)
      have HSN := Lib.hid (tal_snoc (K := K) (l := l) (s := s) hx)
      have KX := Lib.hid (fun W (hW : Below w.heap.size w W) => KC.out x W hW)
      have KB := Lib.hid (fun W (hW : Below w.heap.size w W) => KO.out x x64 W hW)
      have hcx := CL.out x
      have HTY := Lib.hid (show tally K l s x = ⟨x, cntA s x, if 2 ≤ cntA s x then impF s x 0 (obsL K l x) else 0⟩ from rfl)
      have OC := Lib.hid (obs_cases l x)
      generalize obsL K l x = o at *
      obtain ⟨cx, hcx2⟩ : ∃ q, q = cntA s x := ⟨_, rfl⟩
      have HCN := Lib.hid hcx2
      rw [← hcx2] at KX hcx HTY
      obtain ⟨no, hno⟩ : ∃ q, q = o.length := ⟨_, rfl⟩
      have HNO := Lib.hid hno
      have hno5 : no ≤ 5 := by
        rcases OC.out with h1 | h1
        · rw [hno, h1]; simp
        · omega
      rw [← hno] at KB
      clear hux hxu hx hadb hcx2 hno
      go_upto_region 8 with fail
      have hca := HCX.out _ ((Below.refl wx.heap.size wx).alloc (Nat.le_refl _) (.cells #[.int .i64 0, .int .i64 0, .int .i64 0] 31))
      have ZA := Lib.hid (Blk.new wx 31 #[.int .i64 0, .int .i64 0, .int .i64 0])
      have BA := Lib.hid ((Below.refl wx.heap.size wx).alloc (Nat.le_refl _) (.cells #[.int .i64 0, .int .i64 0, .int .i64 0] 31))
      have hfz := ZA.out.frozen 0
      have ZA3 := Lib.hid ((Blk.new wx 31 #[.int .i64 x, .int .i64 (cx : Int), .int .i64 0]).drew)
      have BA3 := Lib.hid (((Below.refl wx.heap.size wx).alloc (Nat.le_refl _) (.cells #[.int .i64 x, .int .i64 (cx : Int), .int .i64 0] 31)).drew)
      go_cut [8] from 23 to 33 (fun s8 wy => s8 = .pointer (some ⟨wx.heap.size, 0, none⟩) ∧ Hid (Below wx.heap.size wx wy ∧ Blk wy wx.heap.size 31 #[.int .i64 x, .int .i64 (cx : Int), .int .i64 0]))
      case first =>
        go_region_law (first
          | ((try go_simp); go_at_call 26; (with_reducible refine (KX.out _ (by first | exact BW.out | exact BW.out.drew | exact (BW.out.alloc BW.out.size _).drew | exact BW.out.alloc BW.out.size _)).mono ?_); rintro e w4 ⟨rfl, rfl⟩)
          | fail)
        all_goals
          go_wp2_with fail
          go_meet
          exact ⟨rfl, BA3.out, ZA3.out⟩
      case rest =>
        obtain ⟨rfl, HK⟩ := hcut
        obtain ⟨wy, rfl⟩ : ∃ q, q = wc := ⟨_, rfl⟩
        obtain ⟨q3, hb3⟩ := HK.out
        have VX := Lib.hid (below2 V2.out HW.out)
        have VY := Lib.hid (below2 VX.out q3)
        have BY := Lib.hid (below2 BW.out q3)
        have fb := FB.out wy VY.out
        have hcell3 := HCX.out wy q3
        have ZY := Lib.hid hb3
        have Q3 := Lib.hid q3
        have hsy : wx.heap.size + 1 ≤ wy.heap.size := hb3.lt
        have FX := Lib.hid (fun W (hW : Below w0.heap.size w0 W) (hX : Below wx.heap.size wx W) => And.intro (FB.out W hW) (HCX.out W hX))
        clear HK q3 hb3 hca hfz hcell ZA BA ZA3 BA3 KX
        go_upto_region 9 with fail
        go_cut [9] from 34 to 40 (fun s9 wz => ∃ X cX, s9 = .slice X no cX ∧ no ≤ cX ∧ Hid (wz.ownsRow wy.heap.size 3 1 (.slice X no cX) no (o.map intV)) ∧ Hid (Below wy.heap.size wy wz))
        case first =>
          go_region_law (first
            | ((try go_simp); go_at_call 22; (with_reducible refine (KB.out _ (by first | exact BY.out | exact BY.out.drew)).mono ?_); rintro e w4 ⟨X, cX, rfl, hcX, ho4, -, q4⟩)
            | fail)
          all_goals
            go_wp2_with fail
            go_meet
            first
              | exact ⟨X, cX, rfl, hcX, ho4, q4⟩
              | exact ⟨X, cX, rfl, hcX, ho4.drew, q4.drew⟩
              | exact ⟨X, cX, rfl, hcX, ho4, bdrew q4⟩
        case rest =>
          obtain ⟨X, cX, rfl, hcX, HOX, HQ4⟩ := hcut
          obtain ⟨wz, rfl⟩ : ∃ q, q = wc := ⟨_, rfl⟩
          have Q5 := Lib.hid (below2 Q3.out HQ4.out)
          have ZZ := Lib.hid (ZY.out.below HQ4.out ZY.out.lt)
          have HX1 := Lib.hid (own_base HOX.out hsy)
          have HO4 := Lib.hid (own_below HO.out Q5.out)
          clear HOX HQ4 ZY fb hcell3 BY VY Q3 HO4
          obtain ⟨fi, hfi⟩ : ∃ q, q = (if 2 ≤ cx then impF s x 0 o else 0) := ⟨_, rfl⟩
          have HTZ := Lib.hid (show tally K l s x = ⟨x, cx, fi⟩ by rw [HTY.out, hfi])
          obtain ⟨m, hm⟩ : ∃ q, q = (if 2 ≤ cx then no else 0) := ⟨_, rfl⟩
          have HFI := Lib.hid hfi
          have HMM := Lib.hid hm
          have hm5 : m ≤ no := by rw [hm]; split <;> omega
          clear hfi hm HTY
          go_wp2_with fail
          go_loopg [10] m (fun gk s10 wr => ∃ r v : Nat, r + gk = m ∧ s10 = .int .i64 r ∧ Hid (fi = v + (if 2 ≤ cx then impF s x r (o.drop r) else 0)) ∧ v ≤ r ∧ Hid (Blk wr wx.heap.size 31 #[.int .i64 x, .int .i64 (cx : Int), .int .i64 (v : Int)]) ∧ Hid (Below wx.heap.size wx wr) ∧ Hid (wr.ownsRow (wx.heap.size + 1) 3 1 (.slice X no cX) no (o.map intV)))
          case atStart => exact ⟨0, 0, by omega, rfl, by show fi = _; rw [HFI.out, List.drop_zero, Nat.zero_add], Nat.le_refl _, ZZ, Q5, HX1⟩
          case round =>
            obtain ⟨r, v, hrg, rfl, HFV, hvr, HZ, HQ, HX⟩ := hrel
            have hqs := HQ.out.size
            cases gk with
            | zero =>
              have hvf : v = fi := by
                have h1 := HFV.out
                have h2 := HMM.out
                have h3 := HNO.out
                by_cases h : 2 ≤ cx
                · rw [if_pos h] at h1 h2
                  rw [List.drop_of_length_le (by omega)] at h1
                  exact h1.symm
                · rw [if_neg h] at h1
                  omega
              have hcd : (¬ ((r : Int) < (no : Int))) ∨ ((r : Int) < (no : Int) ∧ ¬ (2 : Int) ≤ (cx : Int)) := by
                have h2 := HMM.out
                by_cases h : 2 ≤ cx
                · rw [if_pos h] at h2; left; omega
                · by_cases h' : (r : Int) < (no : Int)
                  · exact .inr ⟨h', by omega⟩
                  · exact .inl h'
              subst hvf
              obtain ⟨z0, z1, z2⟩ := blk3 HZ.out
              have HO6 := Lib.hid (show wr.ownsRow w2.heap.size 31 3 u5 ((L.take k).map (tally K l s)).length (tlysC ((L.take k).map (tally K l s))) from own_below HO.out HQ.out)
              have LK := Lib.hid (show ((L.take k).map (tally K l s)).length ≤ 100000 by rw [List.length_map, List.length_take]; omega)
              have h26 := Nat.le_trans hws HQ.out.size
              rcases hcd with hc1 | ⟨hc1, hc2⟩
              all_goals
                go_wp2_with (first
                  | (at_builtin; (refine wp_append_tly _ rfl (.tmp 73) (.tmp 75) rfl w2.heap.size _ ((L.take k).map (tally K l s)) ⟨x, cx, v⟩ _ _ _ rfl (World.ownsRow.alloc HO6.out _) rfl (reads_blk _ _ _) (by have := LK.out; omega) (by simp; omega) ?_; intro v7 w7 ho7 hb7))
                  | fail)
                have HO7 := Lib.hid ho7
                have V7 := Lib.hid (show Below w2.heap.size w2 w7 from HW.out.trans (((HQ.out.mono hws).alloc h26 _).trans hb7))
                clear ho7 hb7
                go_roundg gi
                case measure => omega
                case rel =>
                  refine ⟨k + 1, by omega, by go_num, ?_, V7.out⟩
                  rw [HSN.out, HTZ.out]
                  exact HO7.out
            | succ gr =>
              have h2c : 2 ≤ cx ∧ m = no := by
                have h2 := HMM.out
                by_cases h : 2 ≤ cx
                · rw [if_pos h] at h2; exact ⟨h, h2⟩
                · rw [if_neg h] at h2; omega
              have hr1 : (r : Int) < (no : Int) := by omega
              have hr0 : ¬ (r : Int) < 0 := by omega
              have hcg : (2 : Int) ≤ (cx : Int) := by omega
              obtain ⟨y, hy⟩ : ∃ y, o[r]? = some y := ⟨_, List.getElem?_eq_getElem (by have := HNO.out; omega)⟩
              obtain ⟨z0, z1, z2⟩ := blk3 HZ.out
              obtain ⟨xd, uy, rfl, hxd, huy, hyc⟩ := (Reads.of_own HX.out).at_ (k := r) (by omega)
              have hyy : uy = .int .i64 y := by simp [hy, intV] at huy; exact huy.symm
              rw [hyy] at hyc
              have HF2 := Lib.hid (show fi = v + ((if (!hasA s x (r : Int)) && decide (2 ≤ cntA s y) then 1 else 0) + impF s x (r + 1) (o.drop (r + 1))) by rw [HFV.out, if_pos h2c.1, impF_drop hy])
              have BZ := Lib.hid (below2 BW.out HQ.out)
              have hcr := HCX.out wr HQ.out
              have KHX := Lib.hid (KH.out x (r : Int) wr BZ.out)
              have KCY := Lib.hid (KC.out y wr BZ.out)
              have z2f := HZ.out.frozen 2
              have hv5 : v ≤ 5 := by omega
              have SZ := Lib.hid (show Blk (wr.setCell ⟨wx.heap.size, 2, none⟩ (.int .i64 ((v + 1 : Nat) : Int))) wx.heap.size 31 #[.int .i64 x, .int .i64 (cx : Int), .int .i64 ((v + 1 : Nat) : Int)] from HZ.out.set_ 2 _)
              have SQ := Lib.hid (below_set0 HQ.out 2 (.int .i64 ((v + 1 : Nat) : Int)))
              have SX := Lib.hid (own_set0 HX.out 2 (.int .i64 ((v + 1 : Nat) : Int)))
              have wv : IntKind.i64.wrap ((v : Int) + 1) = ((v + 1 : Nat) : Int) := by rw [IntWalk.i64_in _ (by omega)]; omega
              have HF3 := HF2.out
              obtain ⟨hm0, hm1⟩ := h2c
              cases hh : hasA s x (r : Int)
              case true =>
                rw [hh] at KHX HF3
                go_wp2_with (first
                  | (go_at_call 35; (with_reducible refine KHX.out.mono ?_); rintro e w4 ⟨rfl, rfl⟩)
                  | fail)
                go_roundg gr
                case measure => omega
                case rel =>
                  refine ⟨r + 1, v, by omega, by go_num, ?_, by omega, HZ.out, HQ.out, HX.out⟩
                  show fi = _
                  rw [if_pos hm0]
                  simpa using HF3
              case false =>
                rw [hh] at KHX HF3
                by_cases h2y : 2 ≤ cntA s y
                · have hcy : (2 : Int) ≤ ((cntA s y : Nat) : Int) := by omega
                  generalize cntA s y = cy at *
                  go_wp2_with (first
                    | (go_at_call 35; (with_reducible refine KHX.out.mono ?_); rintro e w4 ⟨rfl, rfl⟩)
                    | (go_at_call 26; (with_reducible refine KCY.out.mono ?_); rintro e w5 ⟨rfl, rfl⟩)
                    | fail)
                  go_roundg gr
                  case measure => omega
                  case rel =>
                    refine ⟨r + 1, v + 1, by omega, by go_num, ?_, by omega, SZ.out, SQ.out, SX.out⟩
                    show fi = _
                    rw [if_pos hm0]
                    have h4 := HF3
                    simp [h2y] at h4
                    omega
                · have hcy : ¬ (2 : Int) ≤ ((cntA s y : Nat) : Int) := by omega
                  generalize cntA s y = cy at *
                  go_wp2_with (first
                    | (go_at_call 35; (with_reducible refine KHX.out.mono ?_); rintro e w4 ⟨rfl, rfl⟩)
                    | (go_at_call 26; (with_reducible refine KCY.out.mono ?_); rintro e w5 ⟨rfl, rfl⟩)
                    | fail)
                  go_roundg gr
                  case measure => omega
                  case rel =>
                    refine ⟨r + 1, v, by omega, by go_num, ?_, by omega, HZ.out, HQ.out, HX.out⟩
                    show fi = _
                    rw [if_pos hm0]
                    simpa [h2y] using HF3
end Go.Proofs.YtipipjbpjpdcbaaDoor.Ct
