/- The reference of layer 3: Decode; the law's own same and ones. -/
import Derived.Test.YteiolhbjgfkdeaaVRef5
namespace Go.Proofs.Yteiolhbjgfkdeaa.V
set_option linter.unusedVariables false
open Go.RowKit
open Go.Proofs.Yteiolhbjgfkdeaa.W
open Go.Lib (byteCells byteCells_length byteCells_append byteCells_snoc)

theorem blk2f {W : World} {g : Nat} {t : TypeId} {a b : Value} (h : Blk W g t #[a, b]) : W.cell? ⟨g, 0, none⟩ = some a ∧ W.cell? ⟨g, 1, none⟩ = some b ∧ W.frozen? ⟨g, 0, none⟩ = false ∧ W.frozen? ⟨g, 1, none⟩ = false := ⟨h.cell 0, h.cell 1, h.frozen 0, h.frozen 1⟩
/-- A decoded list, written out, with its row. -/
def RowO (w : World) (l : List Int) (k n err : Nat) (en : Ending) (w' : World) : Prop :=
  ∃ A c, en = .returned (.tuple #[.slice A k c, .int .i64 n, .int .i64 err]) ∧ k ≤ c ∧ w'.ownsRow w.heap.size 3 1 (.slice A k c) k (l.map intV) ∧ Reads w' w'.heap.size 1 A k (l.map intV) ∧ Below w.heap.size w w'
theorem rowO_of {w : World} {l : List Int} {n err : Nat} {en : Ending} {w' : World} (h : ListPost w 3 (l.map intV) n err en w') : RowO w l l.length n err en w' := by
  obtain ⟨v, he, ho, hb⟩ := h
  obtain ⟨L, d, rfl, hd, hL⟩ := SliceOf.of_own ho
  rw [List.length_map] at hd hL he ho
  exact ⟨L, d, he, hd, ho, hL, hb⟩
def DecPost (w : World) (r : ((Int × List Int) × Nat) × Nat) (e : Ending) (w' : World) : Prop :=
  ∃ A c, e = .returned (.tuple #[vwV r.1.1.1 A r.1.1.2.length c, .int .i64 r.1.2, .int .i64 r.2]) ∧ r.1.1.2.length ≤ c ∧ Reads w' w'.heap.size 1 A r.1.1.2.length (r.1.1.2.map intV) ∧ Below w.heap.size w w'
set_option maxRecDepth 100000 in
set_option maxHeartbeats 2000000 in
theorem refDecode_any (A : Option Addr) (c B : Nat) (bs : List UInt8) (w : World) (hr : Reads w B 1 A bs.length (byteCells bs)) (hB : B ≤ w.heap.size) (hcap : bs.length ≤ c) (hn : bs.length ≤ 1099511627776) :
    Calls Try.prog 37 #[.slice A bs.length c] w (DecPost w (decV bs)) := by
  have h01 := (Below.refl w.heap.size w).alloc (Nat.le_refl _) (.cells #[.int .i64 0, .slice none 0 0] 31)
  have hk := Blk.new w 31 #[.int .i64 0, .slice none 0 0]
  have hs0 : (w.alloc (.cells #[.int .i64 0, .slice none 0 0] 31)).heap.size = w.heap.size + 1 := by simp
  have FB := Lib.hid (fun W (hW : Below (w.alloc (.cells #[.int .i64 0, .slice none 0 0] 31)).heap.size (w.alloc (.cells #[.int .i64 0, .slice none 0 0] 31)) W) => h01.trans (hW.mono (by rw [hs0]; omega)))
  have FZ := Lib.hid (fun W (hW : Below (w.alloc (.cells #[.int .i64 0, .slice none 0 0] 31)).heap.size (w.alloc (.cells #[.int .i64 0, .slice none 0 0] 31)) W) => blk2f (hk.below hW hk.lt))
  have hc := fun W (hW : Below w.heap.size w W) => refReadUint_any A c w.heap.size bs W ((hr.more hB).below hW) hn
  obtain ⟨⟨u, n, e⟩, hu⟩ : ∃ r, rdU bs = r := ⟨_, rfl⟩
  rw [hu] at hc
  have HC := Lib.hid hc
  clear hc
  by_cases he : e = 0
  · subst he
    obtain ⟨hv, hn1, hn2, hnl⟩ := rdU_used hu
    by_cases hgt : 1099511627776 < u
    · have HR := Lib.hid (show decV bs = (((0, []), 0), 3) by unfold decV; rw [hu]; simp [hgt])
      have fg : (1099511627776 : Int) < (u : Int) := by omega
      clear hu hk hs0
      go_enter Try.func37, Try.ntmps37
      go_wp2_with (go_at_call 55; (with_reducible refine (HC.out _ h01).mono ?_); rintro e w' ⟨rfl, rfl⟩)
      refine bodyPost_ret (v := .tuple #[vwV 0 none 0 0, .int .i64 0, .int .i64 3]) (by simp [results, Try.results37, go_sem, vwV]) rfl ⟨none, 0, ?_, ?_, ?_, ?_⟩
      · rw [HR.out]; rfl
      · rw [HR.out]; exact Nat.le_refl _
      · rw [HR.out]; exact Reads.none_
      · repeat (first | exact Below.refl _ _ | refine Below.alloc ?_ (by simp) _ | refine Below.setCell ?_ (by simp) _)
    have fg : ¬ (1099511627776 : Int) < (u : Int) := by omega
    obtain ⟨A', hs', hrr⟩ := slice_from (k := n) (ki := (n : Int)) (hr.more hB) hcap hnl rfl
    have hdl : (bs.drop n).length = bs.length - n := List.length_drop
    obtain ⟨⟨l, m, e2⟩, hx⟩ : ∃ r, rdIs (bs.drop n) 16 = r := ⟨_, rfl⟩
    have hi := refReadIntList_any A' (c - n) (bs.drop n) 16 (w.alloc (.cells #[.int .i64 0, .slice none 0 0] 31)) (by rw [hdl]; exact (hrr.below h01).more h01.size) (by omega) (by omega) ⟨by omega, by omega⟩
    rw [hdl, hx] at hi
    have HI := Lib.hid (hi.mono fun _ _ h => rowO_of h)
    have hml : e2 = 0 → m ≤ bs.length - n := fun h0 => by subst h0; rw [← hdl]; exact rdIs_used hx
    have hcn : e2 = 0 → l.length ≤ 16 ∧ ∀ x ∈ l, In64 x := fun h0 => by subst h0; have := rdIs_canon hx; exact ⟨by have := this.1; omega, this.2.1⟩
    by_cases he2 : e2 = 0
    · subst he2
      obtain ⟨hl16, hel⟩ := hcn rfl
      have hm := hml rfl
      have HM := Lib.hid (fun W A2 c2 (h : Reads W W.heap.size 1 A2 l.length (l.map intV)) => (refValidM_any A2 c2 W.heap.size l W h (by omega) hel).mono fun _ _ h => h.pb)
      have hd : decV bs = if validM l = false then (((0, []), 0), 3) else ((((u : Int), l), n + m), 0) := by
        unfold decV
        rw [hu]
        simp only [hx]
        simp [hgt]
      cases hvl : validM l
      · have HR := Lib.hid (show decV bs = (((0, []), 0), 3) by rw [hd, hvl]; simp)
        rw [hvl] at HM
        clear hu hx hd hvl hi hdl hrr hk hs0 hml hcn hel
        go_enter Try.func37, Try.ntmps37
        go_wp2_with (first
          | (go_at_call 55; (with_reducible refine (HC.out _ h01).mono ?_); rintro e w' ⟨rfl, rfl⟩)
          | (go_at_call 56; (with_reducible refine HI.out.mono ?_); rintro e w2 ⟨A2, c2, rfl, hc2, ho2, hr2, b2⟩; obtain ⟨z0, z1, f0, f1⟩ := FZ.out _ b2)
          | (go_at_call 13; (with_reducible refine (HM.out w2 A2 c2 hr2).mono ?_); rintro e w3 ⟨rfl, hq3⟩; (have b3 := bstep b2 hq3); clear z0 z1 f0 f1; obtain ⟨z0, z1, f0, f1⟩ := FZ.out _ b3))
        refine bodyPost_ret (v := .tuple #[vwV 0 none 0 0, .int .i64 0, .int .i64 3]) (by simp [results, Try.results37, go_sem, vwV, z0, z1]) rfl ⟨none, 0, ?_, ?_, ?_, ?_⟩
        · rw [HR.out]; rfl
        · rw [HR.out]; exact Nat.le_refl _
        · rw [HR.out]; exact Reads.none_
        · repeat (with_reducible refine below_setV ?_ (by simp) _)
          exact FB.out _ b3
      · have HR := Lib.hid (show decV bs = ((((u : Int), l), n + m), 0) by rw [hd, hvl]; simp)
        have wu : IntKind.i64.wrap (u : Int) = (u : Int) := IntWalk.i64_in _ (by omega)
        have wn : IntKind.i64.wrap ((n : Int) + (m : Int)) = (n : Int) + (m : Int) := IntWalk.i64_in _ (by omega)
        rw [hvl] at HM
        clear hu hx hd hvl hi hdl hrr hk hs0 hml hcn hel
        go_enter Try.func37, Try.ntmps37
        go_wp2_with (first
          | (go_at_call 55; (with_reducible refine (HC.out _ h01).mono ?_); rintro e w' ⟨rfl, rfl⟩)
          | (go_at_call 56; (with_reducible refine HI.out.mono ?_); rintro e w2 ⟨A2, c2, rfl, hc2, ho2, hr2, b2⟩; obtain ⟨z0, z1, f0, f1⟩ := FZ.out _ b2)
          | (go_at_call 13; (with_reducible refine (HM.out w2 A2 c2 hr2).mono ?_); rintro e w3 ⟨rfl, hq3⟩; (have b3 := bstep b2 hq3); clear z0 z1 f0 f1; obtain ⟨z0, z1, f0, f1⟩ := FZ.out _ b3))
        have ho3 := own_below ho2 hq3
        have hs3 : (w.alloc (.cells #[.int .i64 0, .slice none 0 0] 31)).heap.size = w.heap.size + 1 := by simp
        rw [hs3] at ho3
        refine bodyPost_ret (v := .tuple #[vwV (u : Int) A2 l.length c2, .int .i64 ((n : Int) + (m : Int)), .int .i64 0]) (by simp [results, Try.results37, go_sem, vwV, z0, z1]) rfl ⟨A2, c2, ?_, ?_, ?_, ?_⟩
        · rw [HR.out]; rfl
        · rw [HR.out]; exact hc2
        · rw [HR.out]; exact Reads.of_own (base := w.heap.size + 1) (e := 3) (by ((repeat (with_reducible refine own_setV ?_ (by simp) _)); exact ho3))
        · repeat (with_reducible refine below_setV ?_ (by simp) _)
          exact FB.out _ b3
    · have HR := Lib.hid (show decV bs = (((0, []), 0), e2) by unfold decV; rw [hu]; simp only [hx]; simp [hgt, he2])
      have hb : ((e2 : Int) != 0) = true := bneT (by omega)
      clear hu hx hi hdl hrr hk hs0 hml hcn he2
      go_enter Try.func37, Try.ntmps37
      go_wp2_with (first
        | (go_at_call 55; (with_reducible refine (HC.out _ h01).mono ?_); rintro e w' ⟨rfl, rfl⟩)
        | (go_at_call 56; (with_reducible refine HI.out.mono ?_); rintro e w2 ⟨A2, c2, rfl, hc2, ho2, hr2, b2⟩; obtain ⟨z0, z1, f0, f1⟩ := FZ.out _ b2))
      refine bodyPost_ret (v := .tuple #[vwV 0 none 0 0, .int .i64 0, .int .i64 e2]) (by simp [results, Try.results37, go_sem, vwV, z0, z1]) rfl ⟨none, 0, ?_, ?_, ?_, ?_⟩
      · rw [HR.out]; rfl
      · rw [HR.out]; exact Nat.le_refl _
      · rw [HR.out]; exact Reads.none_
      · repeat (with_reducible refine below_setV ?_ (by simp) _)
        exact FB.out _ b2
  · have HR := Lib.hid (show decV bs = (((0, []), 0), e) by unfold decV; rw [hu]; simp [he])
    have hb : ((e : Int) != 0) = true := bneT (by omega)
    clear he hu hk hs0
    go_enter Try.func37, Try.ntmps37
    go_wp2_with (go_at_call 55; (with_reducible refine (HC.out _ h01).mono ?_); rintro e w' ⟨rfl, rfl⟩)
    refine bodyPost_ret (v := .tuple #[vwV 0 none 0 0, .int .i64 0, .int .i64 e]) (by simp [results, Try.results37, go_sem, vwV]) rfl ⟨none, 0, ?_, ?_, ?_, ?_⟩
    · rw [HR.out]; rfl
    · rw [HR.out]; exact Nat.le_refl _
    · rw [HR.out]; exact Reads.none_
    · repeat (first | exact Below.refl _ _ | refine Below.alloc ?_ (by simp) _ | refine Below.setCell ?_ (by simp) _)
set_option maxRecDepth 100000 in
set_option maxHeartbeats 1000000 in
theorem law3same_any (A A' : Option Addr) (c c' B B' : Nat) (xs ys : List Int) (w : World) (ha : Reads w B 1 A xs.length (xs.map intV)) (hb : Reads w B' 1 A' ys.length (ys.map intV)) (hl : xs.length ≤ 1099511627776) (hl' : ys.length ≤ 1099511627776) :
    Calls Try.prog 29 #[.slice A xs.length c, .slice A' ys.length c'] w fun e w' => e = .returned (.bool (decide (xs = ys))) ∧ ∃ k, w' = w.drewN k := by
  by_cases hlen : xs.length = ys.length
  · have hz : ((xs.length : Int) != (ys.length : Int)) = false := bneF (by omega)
    have HL := Lib.hid hlen
    obtain ⟨n, hn⟩ : ∃ n, n = ys.length := ⟨_, rfl⟩
    rw [hlen] at ha hl hz ⊢
    rw [← hn] at ha hb hl hl' hz ⊢
    have HN := Lib.hid hn
    clear hlen hn
    go_enter Try.func29, Try.ntmps29
    go_wp2
    go_loopw [5] (fun i wr => ∃ k m : Nat, k ≤ n ∧ i = .int .i64 k ∧ wr = w.drewN m ∧ xs.take k = ys.take k) (fun i _ => n - (intOf i).toNat)
    case atStart => exact ⟨0, 0, Nat.zero_le _, rfl, rfl, by simp⟩
    case round =>
      obtain ⟨k, m, hk, rfl, rfl, htk⟩ := hrel
      by_cases hlt : k < n
      · obtain ⟨ad, u, rfl, _, hx, hc⟩ := ha.at_ hlt
        obtain ⟨bd, u', rfl, _, hx', hc'⟩ := hb.at_ hlt
        obtain ⟨x, hxk⟩ : ∃ x, xs[k]? = some x := ⟨_, List.getElem?_eq_getElem (by have := HL.out; have := HN.out; omega)⟩
        obtain ⟨y, hyk⟩ : ∃ y, ys[k]? = some y := ⟨_, List.getElem?_eq_getElem (by have := HN.out; omega)⟩
        have e1 : u = intV x := by simp [hxk] at hx; exact hx.symm
        have e2 : u' = intV y := by simp [hyk] at hx'; exact hx'.symm
        rw [e1] at hc
        rw [e2] at hc'
        have HXK := Lib.hid hxk
        have HYK := Lib.hid hyk
        have HTK := Lib.hid htk
        have hlt2 : (k : Int) < (n : Int) := by omega
        clear e1 e2 hx hx' hxk hyk htk
        dsimp only [intV] at hc hc'
        by_cases hxy : x = y
        · subst hxy
          have HT2 := Lib.hid (take_eq_of HTK.out HXK.out HYK.out rfl)
          go_wp2_with fail
          go_quiet (fail)
          go_wp2_with fail
          go_roundw
          case rel => exact ⟨k + 1, _, by omega, by go_num, rfl, HT2.out⟩
          case measure => simp [intOf]; omega
        · have hz2 : (x != y) = true := bneT hxy
          have HNE := Lib.hid (ne_of_get HXK.out HYK.out hxy)
          have hd := Lib.hid (show decide (xs = ys) = false by simpa using HNE.out)
          clear hxy
          go_wp2_with fail
          go_quiet (fail)
          go_wp2_with fail
          go_ret
          rw [hd.out]
          exact ⟨rfl, _, World.drewN_drewN _ _ _⟩
      · have hd := Lib.hid (show decide (xs = ys) = true by
          have h1 := HL.out
          have h2 := HN.out
          rw [List.take_of_length_le (by omega), List.take_of_length_le (by omega)] at htk
          simpa using htk)
        clear htk
        go_wp2
        go_ret
        rw [hd.out]
        exact ⟨rfl, _, rfl⟩
  · have hz : ((xs.length : Int) != (ys.length : Int)) = true := bneT (by omega)
    have hd := Lib.hid (show decide (xs = ys) = false by
      rw [decide_eq_false_iff_not]; intro h; exact hlen (by rw [h]))
    clear hlen
    go_enter Try.func29, Try.ntmps29
    go_wp2
    go_ret
    rw [hd.out]
    exact ⟨rfl, 0, rfl⟩
theorem pop_step {k x : Nat} (h : x < 2 ^ (k + 1)) : pop (k + 1) x = x % 2 + pop k (x / 2) := rfl
theorem and_one32 {x : Nat} (hx : x < 4294967296) : bits .and .u32 (x : Int) 1 = ((x % 2 : Nat) : Int) := by
  have h := u32_and_nat x 1 hx (by decide)
  rw [Nat.and_one_is_mod] at h
  exact h
set_option maxRecDepth 100000 in
set_option maxHeartbeats 400000 in
theorem ones_any (x : Nat) (w : World) (hx : x < 2 ^ 32) :
    Calls Try.prog 42 #[.int .u32 (x : Int)] w fun e w' => e = .returned (.int .i64 (pop 32 x : Nat)) ∧ w = w' := by
  go_enter Try.func42, Try.ntmps42
  go_wp2
  go_loop [0, 3] (fun y n => ∃ (k z a : Nat), k ≤ 32 ∧ z < 2 ^ k ∧ y = .int .u32 (z : Int) ∧ n = .int .i64 (a : Int) ∧ a ≤ 32 - k ∧ a + pop k z = pop 32 x) (fun y _ => (intOf y).toNat)
  case atStart => exact ⟨32, x, 0, Nat.le_refl _, hx, rfl, rfl, by omega, by simp⟩
  case round =>
    obtain ⟨k, z, a, hk, hz, rfl, rfl, ha, hp⟩ := hrel
    have hz32 : z < 4294967296 := Nat.lt_of_lt_of_le hz (Nat.pow_le_pow_right (by decide) hk)
    by_cases h0 : z = 0
    · have ht := Lib.hid (show a = pop 32 x by rw [← hp, h0, pop_zero]; rfl)
      have hneg : ¬ (0 : Int) < (z : Int) := by omega
      clear hp hz h0
      go_wp2
      go_ret
      exact ⟨by rw [ht.out]; rfl, rfl⟩
    · obtain ⟨k', rfl⟩ : ∃ k', k = k' + 1 := ⟨k - 1, by
        rcases Nat.eq_zero_or_pos k with h | h
        · subst h; simp at hz; omega
        · omega⟩
      have hp2 := Lib.hid (show a + z % 2 + pop k' (z / 2) = pop 32 x by rw [← hp]; show _ = a + (z % 2 + pop k' (z / 2)); omega)
      have hz2 := Lib.hid (show z / 2 < 2 ^ k' by rw [Nat.pow_succ] at hz; omega)
      have h1 := and_one32 hz32
      have hpos : (0 : Int) < (z : Int) := by omega
      have hm : z % 2 < 2 := Nat.mod_lt _ (by decide)
      clear hp hz
      generalize hq : z % 2 = q at *
      have HQ := Lib.hid hq
      clear hq
      go_wp2
      go_round
      case rel => exact ⟨k', z / 2, a + q, by omega, hz2.out, by go_num, by go_num, by omega, by rw [← hp2.out]⟩
      case measure => simp [intOf]; omega
end Go.Proofs.Yteiolhbjgfkdeaa.V
