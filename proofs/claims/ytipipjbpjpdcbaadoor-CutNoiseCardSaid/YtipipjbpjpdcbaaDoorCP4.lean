/- Package cut: Counts. -/
import Derived.Test.YtipipjbpjpdcbaaDoorCP3
import Derived.Test.YtipipjbpjpdcbaaDoorAP6
namespace Go.Proofs.YtipipjbpjpdcbaaDoor.Ct
set_option linter.unusedVariables false
set_option linter.unusedSimpArgs false
open Go.RowKit
open Go.Proofs.YtipipjbpjpdcbaaDoor.W
open Go.Proofs.YtipipjbpjpdcbaaDoor.V
open Go.Proofs.YtipipjbpjpdcbaaDoor.O
open Go.Proofs.YtipipjbpjpdcbaaDoor.Pb (Alr alrsC len_alrsC reads_blk)
open Go.Proofs.YtipipjbpjpdcbaaDoor.Al

theorem obs_in {l : List Int} {x o : Int} (hv : validM l = true) (h : o ∈ obsL K l x) : o ∈ l := by
  unfold obsL at h
  split at h
  · obtain ⟨r, _, e⟩ := List.mem_map.1 h
    rw [← e]; exact ahead_mem inj_K hv r _
  · cases h
/-- The tallies while the loop is at k. -/
def mixT (l : List Int) (s : List Alr) (k : Nat) : List Tly := ((subsA s).take k).map (tally K l s) ++ (explL s).drop k
section
variable {l : List Int} {s : List Alr} {k : Nat} {x : Int}
theorem expl_count : (explL s).length = (subsA s).length := by unfold explL; rw [List.length_map]
theorem mix_zero : mixT l s 0 = explL s := by unfold mixT; simp
theorem mix_len : (mixT l s k).length = (subsA s).length := by
  unfold mixT
  rw [List.length_append, List.length_map, List.length_take, List.length_drop, expl_count]
  omega
theorem mix_at (hx : (subsA s)[k]? = some x) : (mixT l s k)[k]? = some ⟨x, cntA s x, 0⟩ := by
  have hk := (List.getElem?_eq_some_iff.1 hx).1
  unfold mixT
  rw [List.getElem?_append_right (by simp; omega)]
  simp only [List.length_map, List.length_take, Nat.min_eq_left (Nat.le_of_lt hk), Nat.sub_self, List.getElem?_drop, Nat.add_zero]
  exact expl_at hx
theorem mix_set (hx : (subsA s)[k]? = some x) : (mixT l s k).set k (tally K l s x) = mixT l s (k + 1) := by
  have hk := (List.getElem?_eq_some_iff.1 hx).1
  unfold mixT
  rw [List.set_append_right _ _ (by simp; omega), show k - (((subsA s).take k).map (tally K l s)).length = 0 by simp; omega, List.take_add_one, hx, List.drop_eq_getElem_cons (l := explL s) (i := k) (by rw [expl_count]; exact hk), List.set_cons_zero, List.map_append, List.append_assoc]
  rfl
theorem mix_same (hx : (subsA s)[k]? = some x) (h : tally K l s x = ⟨x, cntA s x, 0⟩) : mixT l s (k + 1) = mixT l s k := by
  rw [← mix_set hx, h]
  have := mix_at (l := l) hx
  refine List.ext_getElem? fun i => ?_
  rw [List.getElem?_set]
  split
  · rename_i e
    subst e
    rw [this, if_pos (List.getElem?_eq_some_iff.1 this).1]
  · rfl
theorem mix_done (h : (subsA s).length ≤ k) : mixT l s k = (subsA s).map (tally K l s) := by
  unfold mixT
  rw [List.take_of_length_le h, List.drop_eq_nil_of_le (by rw [expl_count]; exact h), List.append_nil]
theorem blk_sub {a : Alr} (h : a ∈ blkA s x) : a ∈ s := (List.mem_filter.1 h).1
theorem rest_sub {a : Alr} (h : a ∈ restA s k) : a ∈ s := by
  unfold restA at h
  obtain ⟨x, _, h2⟩ := List.mem_flatMap.1 h
  exact blk_sub h2
theorem subs_el {s : List Alr} (h : ∀ a ∈ s, El a) {x : Int} (hx : x ∈ subsA s) : In64 x := by
  obtain ⟨a, ha, rfl⟩ := mem_subsA.1 hx
  exact (h a ha).2.2.2
end
theorem ownI_n {w w' : World} {l : List Int} {e : Ending} (h : OwnI w l e w') (n : Nat) (hn : n = l.length) : OutI w l n e w' := by subst hn; exact h.to l l.length rfl rfl
theorem row_openA {W : World} {B n c : Nat} {A : Option Addr} {P : List Tly} (h : W.ownsRow B 31 3 (.slice A n c) n (tlysC P)) (hn : P.length = n) (h0 : 0 < n) : ∃ ad, A = some ad ∧ RowT W B ad n c P := by
  have h2 := h
  rw [← hn] at h2
  obtain ⟨ad, c', e, hr⟩ := row_open (n := n) (by rw [hn] at h2 ⊢; exact h2) hn h0
  cases e
  exact ⟨ad, rfl, hr⟩
theorem own_lsV {W : World} {B n c : Nat} {A : Option Addr} {P : List Int} (h : W.ownsRow B 3 1 (.slice A n c) n (P.map intV)) (hn : n = P.length) (hl : n ≤ 1099511627776) (hel : ∀ x ∈ P, In64 x) : LS W W.heap.size P A c := by
  subst hn
  obtain ⟨A', c', e, h1, h2⟩ := own_out h
  cases e
  exact ⟨h2, hl, hel, h1⟩
theorem tally_lo {K : Int → Int → Nat} {l : List Int} {s : List Alr} {x : Int} (h : decide (2 ≤ cntA s x) = false) : tally K l s x = ⟨x, cntA s x, 0⟩ := by
  unfold tally; rw [if_neg (by simpa using h)]
theorem tally_hi {K : Int → Int → Nat} {l : List Int} {s : List Alr} {x : Int} (h : decide (2 ≤ cntA s x) = true) : tally K l s x = ⟨x, cntA s x, impF s x 0 (obsL K l x)⟩ := by
  unfold tally; rw [if_pos (by simpa using h)]
set_option maxRecDepth 1000000 in
set_option maxHeartbeats 16000000 in
theorem cutCounts_any (num : Int) (l : List Int) (A E : Option Addr) (c cE B : Nat) (s : List Alr) (w : World) (h : VW w B num l A c) (hs : AS w B s E cE) (hB : B ≤ w.heap.size) (hm : s.length ≤ 100000) (ht : H.Tab w) :
    Calls Tryd.prog 11 #[.agg #[.int .i64 num, .slice A l.length c], .slice E s.length cE] w (OutT w (tallies K num l s) (tallies K num l s).length) := by
  have hb0 := (Below.refl w.heap.size w).alloc (Nat.le_refl _) (.cells #[.int .i64 num, .slice A l.length c] 24)
  have hz := Blk.new w 24 #[.int .i64 num, .slice A l.length c]
  have KV := Lib.hid (fun W (hW : Below w.heap.size w W) => alValid_any num l A E c cE w.heap.size s W ((h.more hB).below hW) ((hs.more hB).below hW) hW.size (ht.on hW))
  have KE := Lib.hid (fun (hA : AscA s) W (hW : Below w.heap.size w W) => cutExplicit_any E cE w.heap.size s W ((hs.more hB).below hW) hW.size hA hm)
  have KL := Lib.hid (fun W (hW : Below w.heap.size w W) At ct (hT : Reads W W.heap.size 3 At (explL s).length (tlysC (explL s))) => cutLeavers_any num l A At c ct W.heap.size (explL s) W (((h.more hB).below hW).more hW.size) hT (Nat.le_refl _) (Nat.le_trans expl_len hm) (fun t ht => by
    unfold explL at ht
    obtain ⟨x, hx, rfl⟩ := List.mem_map.1 ht
    exact subs_el hs.el hx))
  have KI := Lib.hid (fun (x : Int) (hx : In64 x) (lv : List Int) (E' L' : Option Addr) (c' cl : Nat) W (hW : Below w.heap.size w W) (ha : AS W W.heap.size (blkA s x) E' c') (hl : LS W W.heap.size lv L' cl) => cutImplicit_any num x l lv A E' L' c c' cl W.heap.size (blkA s x) W (((h.more hB).below hW).more hW.size) ha hl (Nat.le_refl _) hx (ht.on hW))
  have KS := Lib.hid (fun (x : Int) (e i : Nat) W => cutIsSuspect_any x e i W)
  have HAS := Lib.hid (fun W (hW : Below w.heap.size w W) => (hs.more hB).below hW)
  have EL := Lib.hid (fun x (hx : x ∈ subsA s) => subs_el hs.el hx)
  have SL := Lib.hid (show (explL s).length ≤ 100000 from Nat.le_trans expl_len hm)
  have HT := Lib.hid (show tallies K num l s = if okS K num l s then (subsA s).map (tally K l s) else [] from rfl)
  obtain ⟨T, hT⟩ : ∃ T, T = tallies K num l s := ⟨_, rfl⟩
  rw [← hT] at HT ⊢
  clear hT
  obtain ⟨n, hn⟩ : ∃ n, n = l.length := ⟨_, rfl⟩
  obtain ⟨ns, hns⟩ : ∃ m, m = s.length := ⟨_, rfl⟩
  have HNS := Lib.hid hns
  rw [← hn] at hb0 hz KV KL KI ⊢
  rw [← hns] at KV KE hm ⊢
  have B0 := Lib.hid hb0
  have Z1 := Lib.hid hz
  clear hb0 hz hn hns h hs ht
  go_enter Tryd.func11, Tryd.ntmps11
  go_upto_region 1 with fail
  generalize w.alloc (.cells #[.int .i64 num, .slice A n c] 24) = w0 at *
  have FB := Lib.hid (fun W (hW : Below w0.heap.size w0 W) => (blk2 (Z1.out.below hW Z1.out.lt)))
  have p0 := FB.out _ (Below.refl _ _)
  cases hv : okS K num l s
  · have HN := Lib.hid (show T = [] by rw [HT.out, hv]; rfl)
    rw [hv] at KV
    clear HT hv
    go_wp2_with (go_at_call 28; (with_reducible refine (KV.out _ B0.out).mono ?_); rintro e w1 ⟨rfl, b1⟩)
    go_ret
    rw [HN.out]
    exact ⟨none, 0, rfl, ⟨Reads.none_, Nat.zero_le _, Nat.le_refl _⟩, B0.out.trans (b1.mono B0.out.size)⟩
  have HTT := Lib.hid (show T = (subsA s).map (tally K l s) by rw [HT.out, hv]; rfl)
  have OK := Lib.hid (okS_iff.1 hv)
  have KE2 := Lib.hid (KE.out OK.out.2.2)
  have HIN := Lib.hid (fun (x o : Int) (h : o ∈ obsL K l x) => obs_in (validV_iff.1 OK.out.1).2.2 h)
  have HR0 := Lib.hid (rest_zero OK.out.2.2)
  rw [hv] at KV
  clear HT hv KE
  obtain ⟨nt, hnt⟩ : ∃ m, m = (explL s).length := ⟨_, rfl⟩
  have HNT := Lib.hid hnt
  rw [← hnt] at SL KL
  have nt5 : nt ≤ 100000 := SL.out
  obtain ⟨nv, hnv⟩ : ∃ m, m = (leavL l (explL s)).length := ⟨_, rfl⟩
  have HNV := Lib.hid hnv
  have nv5 : nv ≤ 100000 := by rw [hnv]; exact Nat.le_trans leav_len (by rw [← hnt]; exact nt5)
  clear hnt hnv
  go_wp2_with (first
    | (go_at_call 28; (with_reducible refine (KV.out _ B0.out).mono ?_); rintro e w1 ⟨rfl, b1⟩; (have c1 := below2 B0.out b1); (have p1 := FB.out _ b1))
    | (go_at_call 29; (with_reducible refine (KE2.out _ c1).mono ?_); rintro e w2 ⟨v2, rfl, ho2, b2⟩; (have c2 := below2 c1 b2); (have d2 := below2 b1 b2); (have p2 := FB.out _ d2); obtain ⟨A5, c5, rfl, hc5, hr5⟩ := own_openT ho2; rw [← HNT.out] at hc5 hr5 ho2; rw [← HNT.out])
    | (go_at_call 30; (with_reducible refine (KL.out _ c2 _ _ hr5).mono ?_); rintro e w3 q3; obtain ⟨A6, c6, rfl, hc6, ho6, hr6, b3⟩ := ownI_n q3 nv HNV.out; (have c3 := below2 c2 b3); (have d3 := below2 d2 b3))
    | fail)
  have C3 := Lib.hid c3
  have D3 := Lib.hid d3
  have O5 := Lib.hid (own_base (own_below ho2 b3) b1.size)
  have O6 := Lib.hid ho6
  have HB5 := Lib.hid (fun ad (e : A5 = some ad) (h0 : 0 < nt) => show ad.block < w2.heap.size by
    obtain ⟨ad', e', h1, _⟩ := hr5.2 h0
    rw [e] at e'
    cases e'
    exact h1)
  have HV := Lib.hid (fun x (hx : x ∈ leavL l (explL s)) => show In64 x from by
    obtain ⟨t, ht, rfl⟩ := leav_el hx
    unfold explL at ht
    obtain ⟨y, hy, rfl⟩ := List.mem_map.1 ht
    exact EL.out y hy)
  have W20 := Lib.hid (below2 b1 b2).size
  clear p0 p1 p2 c1 c2 d2 b1 b2 b3 c3 d3 ho2 hr5 ho6 hr6 hc5 hc6 KV KE2 KL
  go_loopg [1, 7, 8, 9, 21] nt (fun gk s1 _ _ _ s21 wr => ∃ (k nk c' : Nat) (A' : Option Addr), k + gk = nt ∧ s21 = .int .i64 k ∧ s1 = .slice A' nk c' ∧ nk ≤ c' ∧ Hid (nk = (restA s k).length) ∧ Hid (Reads w w.heap.size 4 A' nk (alrsC (restA s k))) ∧
    Hid (wr.ownsRow w0.heap.size 31 3 (.slice A5 nt c5) nt (tlysC (mixT l s k))) ∧ Hid (wr.ownsRow w2.heap.size 3 1 (.slice A6 nv c6) nv ((leavL l (explL s)).map intV)) ∧ Hid (Below w0.heap.size w0 wr))
  case atStart =>
    have q := HAS.out w (Below.refl _ _)
    exact ⟨0, ns, cE, E, by omega, rfl, rfl, by rw [HNS.out]; exact q.cap, by have := HR0.out; show ns = (restA s 0).length; rw [this]; exact HNS.out, by
      have e := HR0.out
      have r := q.rd
      rw [← HNS.out] at r
      show Reads w w.heap.size 4 E ns (alrsC (restA s 0))
      rw [e]; exact r, by rw [mix_zero]; exact O5.out, O6.out, D3.out⟩
  case round =>
    obtain ⟨k, nk, c', A', hkg, rfl, rfl, hnc, HNK, HRD, HO5, HO6, HW⟩ := hrel
    have BW := Lib.hid (below2 B0.out HW.out)
    cases gk with
    | zero =>
      have hkz : ¬ ((k : Int) < (nt : Int)) := by omega
      have LT := Lib.hid (show T.length = nt by rw [HTT.out, List.length_map, ← expl_count]; exact HNT.out.symm)
      have HK := Lib.hid (show mixT l s k = T by rw [HTT.out]; exact mix_done (by rw [← expl_count, ← HNT.out]; omega))
      rw [HK.out] at HO5
      go_wp2_with fail
      go_ret
      have q := HO5.out
      rw [← LT.out] at q ⊢
      obtain ⟨X, cX, e, hx⟩ := TS.of_own q (by rw [LT.out]; omega)
      cases e
      exact ⟨_, _, rfl, hx, BW.out⟩
    | succ gi =>
      have hkz : (k : Int) < (nt : Int) := by omega
      have hk0 : ¬ (k : Int) < 0 := by omega
      obtain ⟨x, hx⟩ : ∃ x, (subsA s)[k]? = some x := ⟨_, List.getElem?_eq_getElem (by have := HNT.out; rw [expl_count] at this; omega)⟩
      obtain ⟨ad, rfl, HRT⟩ := row_openA HO5.out (by rw [mix_len, ← expl_count]; exact HNT.out.symm) (by omega)
      have had := HB5.out ad rfl (by omega)
      have HRT := Lib.hid HRT
      obtain ⟨z0, z1, z2', -⟩ := HRT.out.at_ (mix_at hx)
      have z2 : wr.cell? ⟨(ad.add (k * 3)).block, (ad.add (k * 3)).off + 2, none⟩ = some (.int .i64 0) := z2'
      clear z2'
      have x64 := EL.out x (List.mem_of_getElem? hx)
      have HX := Lib.hid hx
      have HRC := Lib.hid (rest_cons hx)
      have HBL := Lib.hid (blk_len (s := s) (x := x))
      obtain ⟨cx, hcx⟩ : ∃ q, q = cntA s x := ⟨_, rfl⟩
      have HCX := Lib.hid hcx
      have hcx5 : cx ≤ 100000 := by rw [hcx]; exact Nat.le_trans cnt_len (by rw [← HNS.out]; exact hm)
      rw [← hcx] at HBL z1
      obtain ⟨nk2, hnk2⟩ : ∃ q, q = (restA s (k + 1)).length := ⟨_, rfl⟩
      have HNK2 := Lib.hid hnk2
      have hnk : nk = cx + nk2 := by rw [HNK.out, HRC.out, List.length_append, HBL.out, hnk2]
      have hcn : cx ≤ nk := by omega
      obtain ⟨A2, hs2, hr2⟩ := slice_fromA (ki := (cx : Int)) HRD.out HNK.out.symm hnc hcn rfl
      have hs1 := slice_toA (ki := (cx : Int)) HRD.out hnc hcn rfl
      have R2 := Lib.hid (show Reads w w.heap.size 4 A2 nk2 (alrsC (restA s (k + 1))) by
        have := hr2
        rw [HRC.out, show nk - cx = nk2 by omega, List.drop_append_of_le_length (by rw [HBL.out]; exact Nat.le_refl _), List.drop_of_length_le (by rw [HBL.out]; exact Nat.le_refl _), List.nil_append] at this
        exact this)
      have R1 := Lib.hid (show Reads w w.heap.size 4 A' cx (alrsC (blkA s x)) by
        have := readsA_take HRD.out hcn HNK.out.symm
        rw [HRC.out, List.take_append_of_le_length (by rw [HBL.out]; exact Nat.le_refl _), List.take_of_length_le (by rw [HBL.out]; exact Nat.le_refl _)] at this
        exact this)
      rw [show nk - cx = nk2 by omega] at hs2
      obtain ⟨c2, hc2⟩ : ∃ q, q = c' - cx := ⟨_, rfl⟩
      rw [← hc2] at hs2
      have hnc2 : nk2 ≤ c2 := by omega
      have KX := Lib.hid (fun W (hW : Below w.heap.size w W) (hl : LS W W.heap.size (leavL l (explL s)) A6 c6) => by
        have q := KI.out x x64 (leavL l (explL s)) A' A6 c' c6 W hW ⟨by
          rw [HBL.out]; exact (R1.out.below hW).more hW.size, by rw [HBL.out]; omega, fun a ha => (HAS.out w (Below.refl _ _)).el a (blk_sub ha), by rw [HBL.out]; omega⟩ hl
        rw [HBL.out, ← HNV.out, imp_eq (HIN.out x)] at q
        exact q)
      have HTY := Lib.hid (show decide (2 ≤ cx) = true → tally K l s x = ⟨x, cx, impF s x 0 (obsL K l x)⟩ by rw [HCX.out]; exact tally_hi)
      have HTN := Lib.hid (show decide (2 ≤ cx) = false → tally K l s x = ⟨x, cx, 0⟩ by rw [HCX.out]; exact tally_lo)
      have KY := Lib.hid (fun W => show Calls Tryd.prog 31 #[.agg #[.int .i64 x, .int .i64 (cx : Int), .int .i64 0]] W (PB W (decide (2 ≤ cx))) from KS.out x cx 0 W)
      obtain ⟨iv, hiv⟩ : ∃ q, q = impF s x 0 (obsL K l x) := ⟨_, rfl⟩
      rw [← hiv] at KX HTY
      clear hx hcx hnk2 hnk hr2 hc2 hiv KI KS HNK HRD HO5
      have hzx := Blk.new wr 31 #[.int .i64 x, .int .i64 (cx : Int), .int .i64 0]
      have hbx := (Below.refl wr.heap.size wr).alloc (Nat.le_refl _) (.cells #[.int .i64 x, .int .i64 (cx : Int), .int .i64 0] 31)
      have hcx0 : ¬ (cx : Int) < 0 := by omega
      have hcxn : (cx : Int) ≤ (nk : Int) := by omega
      have hcxc : (cx : Int) ≤ (c' : Int) := by omega
      have hncc : (nk : Int) ≤ (c' : Int) := by omega
      go_upto_region 8 with fail
      generalize hw5 : wr.alloc (.cells #[.int .i64 x, .int .i64 (cx : Int), .int .i64 0] 31) = w5 at *
      clear hw5 z0 z1 z2
      have Z5 := Lib.hid hzx
      have B5 := Lib.hid hbx
      have V5 := Lib.hid (below2 HW.out hbx)
      have U5 := Lib.hid (below2 BW.out hbx)
      clear hbx hzx
      have F5 := Lib.hid (fun W (hW : Below w5.heap.size w5 W) => And.intro (FB.out W (below2 V5.out hW)) (blk3 (Z5.out.below hW Z5.out.lt)))
      have p5 := F5.out w5 (Below.refl _ _)
      go_upto_region 10 with fail
      cases hd : decide (2 ≤ cx)
      · have HS := Lib.hid (mix_same (l := l) HX.out (by rw [← HCX.out]; exact HTN.out hd))
        rw [hd] at KY
        clear hd HTY HTN KX
        go_wp2_with (go_at_call 31; (with_reducible refine (KY.out _).mono ?_); rintro e w6 ⟨rfl, b6⟩)
        go_roundg gi
        case measure => omega
        case rel =>
          have q6 := below2 B5.out b6
          refine ⟨k + 1, nk2, c2, A2, by omega, by go_num, rfl, hnc2, HNK2.out, R2.out, ?_, own_below HO6.out q6, below2 HW.out q6⟩
          rw [HS.out]
          have := (HRT.out.on q6).row
          rw [HRT.out.len] at this
          exact this
      · have HT1 := Lib.hid (HTY.out hd)
        rw [hd] at KY
        clear hd HTY HTN
        have KZ := Lib.hid (fun W (hW : Below w5.heap.size w5 W) => KX.out W (below2 U5.out hW) (own_lsV (own_below HO6.out (below2 B5.out hW)) HNV.out (by omega) HV.out))
        go_upto_region 11 with (go_at_call 31; (with_reducible refine (KY.out _).mono ?_); rintro e w6 ⟨rfl, b6⟩; (have p6 := F5.out _ b6))
        have B6 := Lib.hid b6
        go_wp2_with (first
          | (go_at_call 32; (with_reducible refine (KZ.out _ B6.out).mono ?_); rintro e w7 ⟨rfl, b7⟩; (have q7 := below2 B6.out b7); (have HR7 := Lib.hid (HRT.out.on (below2 B5.out q7))); obtain ⟨z0, z1, z2, zf⟩ := HR7.out.at_ (mix_at HX.out); (have zf2 := zf ((ad.add (k * 3)).off + 2)))
          | fail)
        go_roundg gi
        case measure => omega
        case rel =>
          have HE := HR7.out.set_ (j := 2) (v := .int .i64 (iv : Int)) (x' := tally K l s x) (mix_at HX.out) (by omega) (by rw [HT1.out, ← HCX.out]; rfl)
          have r7 := below2 B5.out q7
          refine ⟨k + 1, nk2, c2, A2, by omega, by go_num, rfl, hnc2, HNK2.out, R2.out, ?_, own_setV (own_below HO6.out r7) (by show (ad.add (k * 3)).block < w2.heap.size; rw [block_of_add]; exact had) _, HR7.out.bel (below2 HW.out r7) (Nat.le_refl _)⟩
          rw [mix_set HX.out] at HE
          have := HE.row
          rw [HE.len] at this
          exact this
end Go.Proofs.YtipipjbpjpdcbaaDoor.Ct
