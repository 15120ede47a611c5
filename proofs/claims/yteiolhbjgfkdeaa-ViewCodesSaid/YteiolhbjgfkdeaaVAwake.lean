/- Layer 3: awake. -/
import Derived.Test.YteiolhbjgfkdeaaVAwake0
import Derived.Test.YteiolhbjgfkdeaaVView
namespace Go.Proofs.Yteiolhbjgfkdeaa.V
set_option linter.unusedVariables false
open Go.RowKit
open Go.Proofs.Yteiolhbjgfkdeaa.W
open Go.Lib (byteCells byteCells_length byteCells_append byteCells_snoc)

theorem LS.vw {w : World} {B : Nat} {l : List Int} {A : Option Addr} {c : Nat} (h : LS w B l A c) (num : Int) (hn : In64 num) : VW w B num l A c := ⟨hn, h.rd, h.l40, h.el, h.cap⟩
theorem LS.of {w : World} {B : Nat} {l : List Int} {A : Option Addr} {c n : Nat} (hr : Reads w B 1 A n (l.map intV)) (hn : l.length = n) (hc : n ≤ c) (hl : n ≤ 1000) (hel : ∀ x ∈ l, In64 x) : LS w B l A c := by
  subst hn
  exact ⟨hr, by omega, hel, hc⟩
theorem LS.up {w W : World} {l : List Int} {A : Option Addr} {c : Nat} (h : LS w w.heap.size l A c) (hq : Below w.heap.size w W) : LS W W.heap.size l A c := (h.below hq).more hq.size
theorem LS.new {w : World} {l : List Int} {A : Option Addr} {c : Nat} (h : LS w w.heap.size l A c) (o : Obj) : LS (w.alloc o) (w.alloc o).heap.size l A c := h.up ((Below.refl _ _).alloc (Nat.le_refl _) o)
theorem blk_up {w W : World} {g : Nat} {t : TypeId} {cs : Array Value} (h : Blk w g t cs) (hq : Below w.heap.size w W) : Blk W g t cs := h.below hq h.lt
theorem below_new {B : Nat} {w W : World} (h : Below B w W) (hB : B ≤ W.heap.size) (o : Obj) : Below B w (W.alloc o) := h.alloc hB o
theorem LS.cell {w : World} {B : Nat} {l : List Int} {A : Option Addr} {c : Nat} (h : LS w B l A c) (k : Nat) (x : Int) (hk : l[k]? = some x) : ∃ ad, A = some ad ∧ w.cell? (ad.add k) = some (.int .i64 x) := by
  have hlt : k < l.length := by
    rcases Nat.lt_or_ge k l.length with h | h
    · exact h
    · rw [List.getElem?_eq_none h] at hk; cases hk
  obtain ⟨ad, hA, had, hcl⟩ := h.rd.2 (by omega)
  refine ⟨ad, hA, hcl k _ ?_⟩
  rw [List.getElem?_map, hk]; rfl
theorem cell_at {w : World} {ad : Addr} {x : Int} (h : ∃ a, some ad = some a ∧ w.cell? (a.add 2) = some (.int .i64 x)) : w.cell? ⟨ad.block, ad.off + 2, none⟩ = some (.int .i64 x) := by
  obtain ⟨a, ha, hc⟩ := h
  cases ha
  simpa [Addr.add] using hc
theorem chain2 {w a b c : World} (h : Below w.heap.size w a) (h1 : Below a.heap.size a b) (h2 : Below b.heap.size b c) : Below w.heap.size w c :=
  (h.trans (h1.mono h.size)).trans (h2.mono (Nat.le_trans h.size h1.size))
theorem chain4 {w a b c d : World} (h : Below w.heap.size w a) (h1 : Below a.heap.size a b) (h2 : Below b.heap.size b c) (h3 : Below c.heap.size c d) : Below w.heap.size w d :=
  chain2 (h.trans (h1.mono h.size)) h2 h3
set_option maxRecDepth 100000 in
set_option maxHeartbeats 2000000 in
theorem awake_any (w : World) : Calls Try.prog 10 #[] w (PB w true) := by
  have b1 := (Below.refl w.heap.size w).alloc (Nat.le_refl _) (.cells #[.int .i64 1, .int .i64 2, .int .i64 3] 3)
  have b1 := b1.alloc (by simp) (.cells #[.int .i64 0, .slice (some ⟨w.heap.size, 0, none⟩) 3 3] 31)
  have L1 : LS (w.alloc (.cells #[.int .i64 1, .int .i64 2, .int .i64 3] 3)) _ [1, 2, 3] (some ⟨w.heap.size, 0, none⟩) 3 := ls_lit w w.heap.size rfl _ _ [1, 2, 3] 3 rfl rfl (by decide) (in_lit (by decide))
  have L1 := L1.new (.cells #[.int .i64 0, .slice (some ⟨w.heap.size, 0, none⟩) 3 3] 31)
  have T1 := Blk.new (w.alloc (.cells #[.int .i64 1, .int .i64 2, .int .i64 3] 3)) 31 #[.int .i64 0, .slice (some ⟨w.heap.size, 0, none⟩) 3 3]
  rw [World.size_alloc] at T1
  go_enter Try.func10, Try.ntmps10
  go_upto_region 2 with fail
  generalize ((w.alloc (.cells #[.int .i64 1, .int .i64 2, .int .i64 3] 3)).alloc (.cells #[.int .i64 0, .slice (some ⟨w.heap.size, 0, none⟩) 3 3] 31)) = w1 at *
  generalize w.heap.size + 1 = g1 at *
  have s1 : w.heap.size ≤ w1.heap.size := b1.size
  generalize hG : w.heap.size = G at b1 L1 T1 s1 ⊢
  have HG := Lib.hid hG
  clear hG
  have B1 := Lib.hid b1
  have K1 := blk2 T1
  have LL1 := Lib.hid L1
  have TT1 := Lib.hid T1
  have M2 : LS (w1.alloc (.cells #[.int .i64 3, .int .i64 4] 3)) _ [3, 4] (some ⟨w1.heap.size, 0, none⟩) 2 := ls_lit w1 w1.heap.size rfl _ _ [3, 4] 2 rfl rfl (by decide) (in_lit (by decide))
  have N2 : Calls Try.prog 24 #[.agg #[.int .i64 0, .slice (some ⟨G, 0, none⟩) 3 3], .slice (some ⟨w1.heap.size, 0, none⟩) 2 2] (w1.alloc (.cells #[.int .i64 3, .int .i64 4] 3)) (NextS (w1.alloc (.cells #[.int .i64 3, .int .i64 4] 3)) 1 3 [1, 2, 4] 0) :=
    (viewNext_any 0 [1, 2, 3] [3, 4] (some ⟨G, 0, none⟩) (some ⟨w1.heap.size, 0, none⟩) 3 2 _ _ ((L1.new _).vw 0 ⟨by decide, by decide⟩) M2 (Nat.le_refl _)).mono fun _ _ h => h.to 1 [1, 2, 4] 3 0 evN rfl
  have N2 := Lib.hid N2
  clear b1 L1 T1 M2
  go_upto_region 3 with (go_at_call 24; refine N2.out.mono ?_; rintro e w2 ⟨A2, c2, rfl, hc2, hr2, hq2⟩)
  obtain ⟨ad, hA2, hx2⟩ := (LS.of hr2 rfl hc2 (by decide) (in_lit (by decide))).cell 2 4 rfl
  subst hA2
  clear hx2
  have q2 : Below w1.heap.size w1 w2 := (below_new (Below.refl _ _) (Nat.le_refl _) _).trans (hq2.mono (by simp))
  have b3 := (B1.out.trans (q2.mono s1)).alloc (Nat.le_trans s1 q2.size) (.cells #[.int .i64 1, .slice (some ad) 3 c2] 31)
  have s3 : G ≤ (w2.alloc (.cells #[.int .i64 1, .slice (some ad) 3 c2] 31)).heap.size := by have := q2.size; simp; omega
  have T1 := (blk_up TT1.out q2).alloc (.cells #[.int .i64 1, .slice (some ad) 3 c2] 31)
  have L1 := (LL1.out.up q2).new (.cells #[.int .i64 1, .slice (some ad) 3 c2] 31)
  have T2 := Blk.new w2 31 #[.int .i64 1, .slice (some ad) 3 c2]
  have L2 : LS (w2.alloc (.cells #[.int .i64 1, .slice (some ad) 3 c2] 31)) _ [1, 2, 4] (some ad) c2 := (LS.of hr2 rfl hc2 (by decide) (in_lit (by decide))).new _
  clear N2 B1 K1 LL1 TT1 hr2 hq2 q2 s1
  generalize (w2.alloc (.cells #[.int .i64 1, .slice (some ad) 3 c2] 31)) = w3 at b3 s3 T1 L1 T2 L2 ⊢
  generalize w2.heap.size = g2 at T2 ⊢
  clear hc2
  have B3 := Lib.hid b3
  have K1 := blk2 T1
  have LL1 := Lib.hid L1
  have TT1 := Lib.hid T1
  have LL2 := Lib.hid L2
  have TT2 := Lib.hid T2
  have M4 : LS (w3.alloc (.cells #[.int .i64 1, .int .i64 2] 3)) _ [1, 2] (some ⟨w3.heap.size, 0, none⟩) 2 := ls_lit w3 w3.heap.size rfl _ _ [1, 2] 2 rfl rfl (by decide) (in_lit (by decide))
  have n4 : Calls Try.prog 24 #[.agg #[.int .i64 0, .slice (some ⟨G, 0, none⟩) 3 3], .slice (some ⟨w3.heap.size, 0, none⟩) 2 2] (w3.alloc (.cells #[.int .i64 1, .int .i64 2] 3)) (NextS (w3.alloc (.cells #[.int .i64 1, .int .i64 2] 3)) 0 0 [] 9) :=
    (viewNext_any 0 [1, 2, 3] [1, 2] (some ⟨G, 0, none⟩) (some ⟨w3.heap.size, 0, none⟩) 3 2 _ _ ((L1.new _).vw 0 ⟨by decide, by decide⟩) M4 (Nat.le_refl _)).mono fun _ _ h => h.to 0 [] 0 9 evM rfl
  have N4 := Lib.hid n4
  clear b3 L1 T1 M4 n4 L2 T2
  go_upto_region 4 with (go_at_call 24; refine N4.out.mono ?_; rintro e w4 ⟨A4, c4, rfl, hc4, hr4, hq4⟩)
  have q4 : Below w3.heap.size w3 w4 := (below_new (Below.refl _ _) (Nat.le_refl _) _).trans (hq4.mono (by simp))
  have b5 := (B3.out.trans (q4.mono s3)).alloc (Nat.le_trans s3 q4.size) (.cells #[.int .i64 0, .slice A4 0 c4] 31)
  have s5 : G ≤ (w4.alloc (.cells #[.int .i64 0, .slice A4 0 c4] 31)).heap.size := by have := q4.size; simp; omega
  have T1 := (blk_up TT1.out q4).alloc (.cells #[.int .i64 0, .slice A4 0 c4] 31)
  have L1 := (LL1.out.up q4).new (.cells #[.int .i64 0, .slice A4 0 c4] 31)
  have T2 := (blk_up TT2.out q4).alloc (.cells #[.int .i64 0, .slice A4 0 c4] 31)
  have L2 := (LL2.out.up q4).new (.cells #[.int .i64 0, .slice A4 0 c4] 31)
  clear N4 B3 K1 LL1 TT1 LL2 TT2 hr4 hq4 q4 s3
  generalize (w4.alloc (.cells #[.int .i64 0, .slice A4 0 c4] 31)) = w5 at b5 s5 T1 L1 T2 L2 ⊢
  generalize w4.heap.size = g4 at *
  clear hc4
  have B5 := Lib.hid b5
  have K2 := blk2 T2
  have LL1 := Lib.hid L1
  have TT1 := Lib.hid T1
  have LL2 := Lib.hid L2
  have TT2 := Lib.hid T2
  have e5 : Calls Try.prog 38 #[.agg #[.int .i64 1, .slice (some ad) 3 c2]] w5 (OwnS w5.heap.size w5 [1, 3, 2, 4, 8] 5) :=
    (viewEncode_any 1 [1, 2, 4] (some ad) c2 _ _ (L2.vw 1 ⟨by decide, by decide⟩) (Nat.le_refl _)).mono fun _ _ h => h.to [1, 3, 2, 4, 8] 5 evE rfl
  have E5 := Lib.hid e5
  have D6 := Lib.hid (fun (W : World) (A : Option Addr) (c : Nat) (hr : Reads W W.heap.size 1 A 5 (byteCells [1, 3, 2, 4, 8])) (hc : 5 ≤ c) => show Calls Try.prog 36 #[.slice A 5 c] W (DecS W 1 3 [1, 2, 4] 5 0) from
    (viewDecode_any A c _ [1, 3, 2, 4, 8] W hr (Nat.le_refl _) hc (by decide)).mono fun _ _ h => h.to 1 [1, 2, 4] 3 5 0 evD rfl)
  have S8 := Lib.hid (fun (W : World) (A A' : Option Addr) (c c' : Nat) (h : LS W W.heap.size [1, 2, 4] A c) (h' : LS W W.heap.size [1, 2, 4] A' c') => show Calls Try.prog 26 #[.agg #[.int .i64 1, .slice A 3 c], .agg #[.int .i64 1, .slice A' 3 c']] W (PB W true) from
    (refSame_any 1 1 [1, 2, 4] [1, 2, 4] A A' c c' _ W (h.vw 1 ⟨by decide, by decide⟩) (h'.vw 1 ⟨by decide, by decide⟩) (Nat.le_refl _)))
  have V12 := Lib.hid (fun (W : World) (A : Option Addr) (c : Nat) (h : LS W W.heap.size [1, 2, 3] A c) => show Calls Try.prog 27 #[.agg #[.int .i64 0, .slice A 3 c]] W (PB W true) from
    viewValid_any 0 [1, 2, 3] A c _ W (h.vw 0 ⟨by decide, by decide⟩) (Nat.le_refl _))
  have V13 := Lib.hid (fun (W : World) => show Calls Try.prog 27 #[.agg #[.int .i64 0, .slice none 0 0]] W (PB W false) from
    viewValid_any 0 [] none 0 _ W ⟨⟨by decide, by decide⟩, Reads.none_, by decide, in_lit (by decide), by decide⟩ (Nat.le_refl _))
  have P14 := Lib.hid (fun (W : World) (A : Option Addr) (c : Nat) (h : LS W W.heap.size [1, 2, 3] A c) => show Calls Try.prog 18 #[.slice A 3 c, .int .i64 3] W (PI W 2) from
    viewPlace_any A c _ [1, 2, 3] 3 W h (Nat.le_refl _))
  have J9 := Lib.hid (fun (W : World) => show Calls Try.prog 20 #[.int .i64 4] W (PI W 3) from viewMaj_any 4 W ⟨by decide, by decide⟩)
  have F10 := Lib.hid (fun (W : World) => show Calls Try.prog 22 #[.int .i64 5] W (PI W 4) from viewFast_any 5 W ⟨by decide, by decide⟩)
  have F11 := Lib.hid (fun (W : World) => show Calls Try.prog 22 #[.int .i64 16] W (PI W 13) from viewFast_any 16 W ⟨by decide, by decide⟩)
  clear b5 L1 T1 e5 L2 T2
  go_wp2_with (first
    | (go_at_call 38; (with_reducible refine E5.out.mono ?_); rintro e w6 ⟨A6, c6, rfl, hc6, ho6, hr6, hq6⟩)
    | (go_at_call 36; (with_reducible refine (D6.out w6 A6 c6 hr6 hc6).mono ?_); rintro e w7 ⟨A7, c7, rfl, hc7, hr7, hq7⟩; have q7 := hq6.trans (hq7.mono hq6.size); have b8 := Lib.hid ((B5.out.trans (q7.mono s5)).alloc (Nat.le_trans s5 q7.size) (.cells #[.int .i64 1, .slice A7 3 c7] 31)); have t2 := Lib.hid ((blk_up TT2.out q7).alloc (.cells #[.int .i64 1, .slice A7 3 c7] 31)); have t1 := Lib.hid ((blk_up TT1.out q7).alloc (.cells #[.int .i64 1, .slice A7 3 c7] 31)); have l1 := Lib.hid ((LL1.out.up q7).new (.cells #[.int .i64 1, .slice A7 3 c7] 31)); have l2 := Lib.hid ((LL2.out.up q7).new (.cells #[.int .i64 1, .slice A7 3 c7] 31)); have l7 := Lib.hid (show LS (w7.alloc (.cells #[.int .i64 1, .slice A7 3 c7] 31)) _ [1, 2, 4] A7 c7 from (LS.of hr7 rfl hc7 (by decide) (in_lit (by decide))).new _); have s8 : G ≤ (w7.alloc (.cells #[.int .i64 1, .slice A7 3 c7] 31)).heap.size := by { have := q7.size; simp; omega }; have k2 := blk2 t2.out; have k7 := blk2 (Blk.new w7 31 #[.int .i64 1, .slice A7 3 c7]); have hcell := cell_at (l2.out.cell 2 4 rfl))
    | (go_at_call 26; (with_reducible refine (S8.out _ A7 (some ad) c7 c2 l7.out l2.out).mono ?_); rintro e w9 ⟨rfl, hq9⟩)
    | (go_at_call 20; (with_reducible refine (J9.out _).mono ?_); rintro e w10 ⟨rfl, hq10⟩)
    | (go_at_call 22; (with_reducible refine (F10.out _).mono ?_); rintro e w11 ⟨rfl, hq11⟩)
    | (go_at_call 22; (with_reducible refine (F11.out _).mono ?_); rintro e w12 ⟨rfl, hq12⟩; have q12 := chain4 hq9 hq10 hq11 hq12; have k12 := blk2 (blk_up t1.out q12))
    | (go_at_call 27; (with_reducible refine (V12.out _ (some ⟨G, 0, none⟩) 3 (l1.out.up q12)).mono ?_); rintro e w13 ⟨rfl, hq13⟩)
    | (go_at_call 27; (with_reducible refine (V13.out _).mono ?_); rintro e w14 ⟨rfl, hq14⟩; have q14 := chain2 q12 hq13 hq14; have k14 := blk2 (blk_up t1.out q14))
    | (go_at_call 18; (with_reducible refine (P14.out _ (some ⟨G, 0, none⟩) 3 (l1.out.up q14)).mono ?_); rintro e w15 ⟨rfl, hq15⟩; have q15 := q14.trans (hq15.mono q14.size))
    | fail)
  go_ret
  exact ⟨rfl, by rw [HG.out]; exact b8.out.trans (q15.mono s8)⟩
end Go.Proofs.Yteiolhbjgfkdeaa.V
