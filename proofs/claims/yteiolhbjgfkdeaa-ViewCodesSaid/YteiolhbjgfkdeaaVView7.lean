/- Package view: Encode, Decode. -/
import Derived.Test.YteiolhbjgfkdeaaVView6
namespace Go.Proofs.Yteiolhbjgfkdeaa.V
set_option linter.unusedVariables false
open Go.RowKit
open Go.Proofs.Yteiolhbjgfkdeaa.W
open Go.Lib (byteCells byteCells_length byteCells_append byteCells_snoc)

set_option maxRecDepth 100000 in
set_option maxHeartbeats 1000000 in
theorem viewEncode_any (num : Int) (l : List Int) (A : Option Addr) (c B : Nat) (w : World) (h : VW w B num l A c) (hB : B ≤ w.heap.size) :
    Calls Try.prog 38 #[vwV num A l.length c] w (OwnPost w.heap.size w (encV num l)) := by
  have h01 := (Below.refl w.heap.size w).alloc (Nat.le_refl _) (.cells #[.int .i64 num, .slice A l.length c] 31)
  have hk := Blk.new w 31 #[.int .i64 num, .slice A l.length c]
  have hs0 : (w.alloc (.cells #[.int .i64 num, .slice A l.length c] 31)).heap.size = w.heap.size + 1 := by simp
  have CV := Lib.hid (fun W (hW : Below w.heap.size w W) => viewValid_any num l A c w.heap.size W ((h.more hB).below hW) hW.size)
  have K0 := Lib.hid (fun W (hW : Below (w.alloc (.cells #[.int .i64 num, .slice A l.length c] 31)).heap.size (w.alloc (.cells #[.int .i64 num, .slice A l.length c] 31)) W) => hk.below hW hk.lt)
  have FB := Lib.hid (fun W (hW : Below (w.alloc (.cells #[.int .i64 num, .slice A l.length c] 31)).heap.size (w.alloc (.cells #[.int .i64 num, .slice A l.length c] 31)) W) => h01.trans (hW.mono (by rw [hs0]; omega)))
  cases h1 : validV num l
  · have ht := Lib.hid (show encV num l = [] by unfold encV; rw [h1]; simp)
    rw [h1] at CV
    dsimp only [vwV] at *
    clear h hk hs0
    go_enter Try.func38, Try.ntmps38
    go_wp2_with (go_at_call 27; (with_reducible refine (CV.out _ h01).mono ?_); rintro e w1 ⟨rfl, b1⟩)
    go_ret
    exact ⟨_, rfl, by rw [ht.out]; exact World.ownsRow_nil _ _ _ _, FB.out _ b1⟩
  · have g := validV_iff.1 h1
    obtain ⟨N, rfl⟩ : ∃ N : Nat, num = (N : Int) := ⟨num.toNat, by omega⟩
    have ht := Lib.hid (show encV (N : Int) l = enU N ++ enIs l by unfold encV; rw [h1]; simp)
    have gm := validM_iff.1 g.2.2
    have hle := enU_len (x := N) (by omega)
    have hli : (enIs l).length ≤ 200 := by
      have e1 := enU_len (x := l.length) (by omega)
      have e2 := enIs_len h.el
      rw [enIs, List.length_append]; omega
    have CU := Lib.hid (fun W => (show Calls Try.prog 58 #[.slice none 0 0, .int .u64 (N : Int)] W (OwnPost W.heap.size W ([] ++ enU N)) from AppendUint_any none 0 [] N W Reads.none_ (by simp) (by omega)).mono fun _ _ h => h.to (enU N) (enU N).length rfl rfl)
    have CI := Lib.hid (fun W A2 c2 (hW : Below w.heap.size w W) (hr : Reads W W.heap.size 1 A2 (enU N).length (byteCells (enU N))) =>
      AppendInts_any A2 A c2 c (enU N) l W hr (((h.rd.more hB).below hW).more hW.size) (by omega) h.l40 h.el)
    have n0 := g.1
    have n1 := g.2.1
    have n2 : N ≤ 1099511627776 := by omega
    have wu : IntKind.u64.wrap (N : Int) = (N : Int) := by rw [IntKind.wrap_u64]; omega
    rw [h1] at CV
    generalize enU N = EU at *
    generalize enIs l = EI at *
    dsimp only [vwV] at *
    clear h hk hs0 g gm
    go_enter Try.func38, Try.ntmps38
    go_wp2_with (go_at_call 27; (with_reducible refine (CV.out _ h01).mono ?_); rintro e w1 ⟨rfl, b1⟩)
    have B1 := Lib.hid (K0.out _ b1)
    have hb1 := FB.out _ b1
    go_region_held3 (fun w' => w'.cell? ⟨w.heap.size, 0, none⟩ = some (.int .i64 (N : Int)) ∧ w'.cell? ⟨w.heap.size, 1, none⟩ = some (.slice A l.length c))
      (first | exact blk2 B3.out | exact blk2 B2.out | exact blk2 B1.out | fail)
      (first
        | (go_at_call 58; (with_reducible refine (CU.out _).mono ?_); rintro e w2 ⟨A2, c2, rfl, hc2, ho2, hr2, hq2⟩; (have j2 : Below w1.heap.size w1 w2 := ((Below.refl _ _).drew).trans hq2); (have B2 := Lib.hid (B1.out.below j2 B1.out.lt)); (have hb2 := bstep hb1 j2))
        | (go_at_call 57; (with_reducible refine (CI.out _ _ _ (by exact hb2) hr2).mono ?_); rintro e w3 ⟨v3, rfl, ho3, hq3⟩; (have j3 := bstep j2 hq3); (have B3 := Lib.hid (B1.out.below j3 B1.out.lt)); (have hb3 := bstep hb1 j3))
        | fail)
    all_goals
      go_wp2
      go_ret
      exact ⟨_, rfl, by rw [ht.out]; exact own_base ho3 hb2.size, hb3⟩

set_option maxRecDepth 100000 in
set_option maxHeartbeats 2000000 in
theorem viewDecode_any (A : Option Addr) (c B : Nat) (bs : List UInt8) (w : World) (hr : Reads w B 1 A bs.length (byteCells bs)) (hB : B ≤ w.heap.size) (hcap : bs.length ≤ c) (hn : bs.length ≤ 1099511627776) :
    Calls Try.prog 36 #[.slice A bs.length c] w (DecPost w (decV bs)) := by
  have h01 := (Below.refl w.heap.size w).alloc (Nat.le_refl _) (.cells #[.int .i64 0, .slice none 0 0] 31)
  have hk := Blk.new w 31 #[.int .i64 0, .slice none 0 0]
  have hs0 : (w.alloc (.cells #[.int .i64 0, .slice none 0 0] 31)).heap.size = w.heap.size + 1 := by simp
  have FB := Lib.hid (fun W (hW : Below (w.alloc (.cells #[.int .i64 0, .slice none 0 0] 31)).heap.size (w.alloc (.cells #[.int .i64 0, .slice none 0 0] 31)) W) => h01.trans (hW.mono (by rw [hs0]; omega)))
  have FZ := Lib.hid (fun W (hW : Below (w.alloc (.cells #[.int .i64 0, .slice none 0 0] 31)).heap.size (w.alloc (.cells #[.int .i64 0, .slice none 0 0] 31)) W) => blk2f (hk.below hW hk.lt))
  have hc := fun W (hW : Below w.heap.size w W) => uint_any A c w.heap.size bs W ((hr.more hB).below hW) hn
  obtain ⟨⟨u, n, e⟩, hu⟩ : ∃ r, rdU bs = r := ⟨_, rfl⟩
  rw [hu] at hc
  have HC := Lib.hid hc
  clear hc
  by_cases he : e = 0
  · subst he
    obtain ⟨hv, hn1, hn2, hnl⟩ := rdU_used hu
    by_cases hgt : 1099511627776 < u
    · have HR := Lib.hid (show decV bs = (((0, []), 0), 3) by unfold decV; rw [hu]; simp [hgt])
      have fg : (1099511627776 : Int) < (u : Int) := by omega
      clear hu hk hs0
      go_enter Try.func36, Try.ntmps36
      go_wp2_with (go_at_call 53; (with_reducible refine (HC.out _ h01).mono ?_); rintro e w' ⟨rfl, rfl⟩)
      refine bodyPost_ret (v := .tuple #[vwV 0 none 0 0, .int .i64 0, .int .i64 3]) (by simp [results, Try.results36, go_sem, vwV]) rfl ⟨none, 0, ?_, ?_, ?_, ?_⟩
      · rw [HR.out]; rfl
      · rw [HR.out]; exact Nat.le_refl _
      · rw [HR.out]; exact Reads.none_
      · repeat (first | exact Below.refl _ _ | refine Below.alloc ?_ (by simp) _ | refine Below.setCell ?_ (by simp) _)
    have fg : ¬ (1099511627776 : Int) < (u : Int) := by omega
    obtain ⟨A', hs', hrr⟩ := slice_from (k := n) (ki := (n : Int)) (hr.more hB) hcap hnl rfl
    have hdl : (bs.drop n).length = bs.length - n := List.length_drop
    obtain ⟨⟨l, m, e2⟩, hx⟩ : ∃ r, rdIs (bs.drop n) 16 = r := ⟨_, rfl⟩
    have hi := IntList_any A' (c - n) (bs.drop n) 16 (w.alloc (.cells #[.int .i64 0, .slice none 0 0] 31)) (by rw [hdl]; exact (hrr.below h01).more h01.size) (by omega) (by omega) ⟨by omega, by omega⟩
    rw [hdl, hx] at hi
    have HI := Lib.hid (hi.mono fun _ _ h => rowO_of h)
    have hml : e2 = 0 → m ≤ bs.length - n := fun h0 => by subst h0; rw [← hdl]; exact rdIs_used hx
    have hcn : e2 = 0 → l.length ≤ 16 ∧ ∀ x ∈ l, In64 x := fun h0 => by subst h0; have := rdIs_canon hx; exact ⟨by have := this.1; omega, this.2.1⟩
    by_cases he2 : e2 = 0
    · subst he2
      obtain ⟨hl16, hel⟩ := hcn rfl
      have hm := hml rfl
      have HM := Lib.hid (fun W A2 c2 (h : Reads W W.heap.size 1 A2 l.length (l.map intV)) (hc : l.length ≤ c2) => viewValidM_any A2 c2 W.heap.size l W ⟨h, by omega, hel, hc⟩ (Nat.le_refl _))
      have hd : decV bs = if validM l = false then (((0, []), 0), 3) else ((((u : Int), l), n + m), 0) := by
        unfold decV
        rw [hu]
        simp only [hx]
        simp [hgt]
      cases hvl : validM l
      · have HR := Lib.hid (show decV bs = (((0, []), 0), 3) by rw [hd, hvl]; simp)
        rw [hvl] at HM
        clear hu hx hd hvl hi hdl hrr hk hs0 hml hcn hel
        go_enter Try.func36, Try.ntmps36
        go_wp2_with (first
          | (go_at_call 53; (with_reducible refine (HC.out _ h01).mono ?_); rintro e w' ⟨rfl, rfl⟩)
          | (go_at_call 54; (with_reducible refine HI.out.mono ?_); rintro e w2 ⟨A2, c2, rfl, hc2, ho2, hr2, b2⟩; obtain ⟨z0, z1, f0, f1⟩ := FZ.out _ b2)
          | (go_at_call 12; (with_reducible refine (HM.out w2 A2 c2 hr2 hc2).mono ?_); rintro e w3 ⟨rfl, hq3⟩; (have b3 := bstep b2 hq3); clear z0 z1 f0 f1; obtain ⟨z0, z1, f0, f1⟩ := FZ.out _ b3))
        refine bodyPost_ret (v := .tuple #[vwV 0 none 0 0, .int .i64 0, .int .i64 3]) (by simp [results, Try.results36, go_sem, vwV, z0, z1]) rfl ⟨none, 0, ?_, ?_, ?_, ?_⟩
        · rw [HR.out]; rfl
        · rw [HR.out]; exact Nat.le_refl _
        · rw [HR.out]; exact Reads.none_
        · repeat (with_reducible refine below_setV ?_ (by simp) _)
          exact FB.out _ b3
      · have HR := Lib.hid (show decV bs = ((((u : Int), l), n + m), 0) by rw [hd, hvl]; simp)
        have wu : IntKind.i64.wrap (u : Int) = (u : Int) := IntWalk.i64_in _ (by omega)
        have wn : IntKind.i64.wrap ((n : Int) + (m : Int)) = (n : Int) + (m : Int) := IntWalk.i64_in _ (by omega)
        rw [hvl] at HM
        clear hu hx hd hvl hi hdl hrr hk hs0 hml hcn hel
        go_enter Try.func36, Try.ntmps36
        go_wp2_with (first
          | (go_at_call 53; (with_reducible refine (HC.out _ h01).mono ?_); rintro e w' ⟨rfl, rfl⟩)
          | (go_at_call 54; (with_reducible refine HI.out.mono ?_); rintro e w2 ⟨A2, c2, rfl, hc2, ho2, hr2, b2⟩; obtain ⟨z0, z1, f0, f1⟩ := FZ.out _ b2)
          | (go_at_call 12; (with_reducible refine (HM.out w2 A2 c2 hr2 hc2).mono ?_); rintro e w3 ⟨rfl, hq3⟩; (have b3 := bstep b2 hq3); clear z0 z1 f0 f1; obtain ⟨z0, z1, f0, f1⟩ := FZ.out _ b3))
        have ho3 := own_below ho2 hq3
        have hs3 : (w.alloc (.cells #[.int .i64 0, .slice none 0 0] 31)).heap.size = w.heap.size + 1 := by simp
        rw [hs3] at ho3
        refine bodyPost_ret (v := .tuple #[vwV (u : Int) A2 l.length c2, .int .i64 ((n : Int) + (m : Int)), .int .i64 0]) (by simp [results, Try.results36, go_sem, vwV, z0, z1]) rfl ⟨A2, c2, ?_, ?_, ?_, ?_⟩
        · rw [HR.out]; rfl
        · rw [HR.out]; exact hc2
        · rw [HR.out]; exact Reads.of_own (base := w.heap.size + 1) (e := 3) (by ((repeat (with_reducible refine own_setV ?_ (by simp) _)); exact ho3))
        · repeat (with_reducible refine below_setV ?_ (by simp) _)
          exact FB.out _ b3
    · have HR := Lib.hid (show decV bs = (((0, []), 0), e2) by unfold decV; rw [hu]; simp only [hx]; simp [hgt, he2])
      have hb : ((e2 : Int) != 0) = true := bneT (by omega)
      clear hu hx hi hdl hrr hk hs0 hml hcn he2
      go_enter Try.func36, Try.ntmps36
      go_wp2_with (first
        | (go_at_call 53; (with_reducible refine (HC.out _ h01).mono ?_); rintro e w' ⟨rfl, rfl⟩)
        | (go_at_call 54; (with_reducible refine HI.out.mono ?_); rintro e w2 ⟨A2, c2, rfl, hc2, ho2, hr2, b2⟩; obtain ⟨z0, z1, f0, f1⟩ := FZ.out _ b2))
      refine bodyPost_ret (v := .tuple #[vwV 0 none 0 0, .int .i64 0, .int .i64 e2]) (by simp [results, Try.results36, go_sem, vwV, z0, z1]) rfl ⟨none, 0, ?_, ?_, ?_, ?_⟩
      · rw [HR.out]; rfl
      · rw [HR.out]; exact Nat.le_refl _
      · rw [HR.out]; exact Reads.none_
      · repeat (with_reducible refine below_setV ?_ (by simp) _)
        exact FB.out _ b2
  · have HR := Lib.hid (show decV bs = (((0, []), 0), e) by unfold decV; rw [hu]; simp [he])
    have hb : ((e : Int) != 0) = true := bneT (by omega)
    clear he hu hk hs0
    go_enter Try.func36, Try.ntmps36
    go_wp2_with (go_at_call 53; (with_reducible refine (HC.out _ h01).mono ?_); rintro e w' ⟨rfl, rfl⟩)
    refine bodyPost_ret (v := .tuple #[vwV 0 none 0 0, .int .i64 0, .int .i64 e]) (by simp [results, Try.results36, go_sem, vwV]) rfl ⟨none, 0, ?_, ?_, ?_, ?_⟩
    · rw [HR.out]; rfl
    · rw [HR.out]; exact Nat.le_refl _
    · rw [HR.out]; exact Reads.none_
    · repeat (first | exact Below.refl _ _ | refine Below.alloc ?_ (by simp) _ | refine Below.setCell ?_ (by simp) _)
end Go.Proofs.Yteiolhbjgfkdeaa.V
