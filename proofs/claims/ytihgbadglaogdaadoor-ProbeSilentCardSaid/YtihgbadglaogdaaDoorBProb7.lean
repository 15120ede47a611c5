/- Package probe: Tick. -/
import Derived.Test.YtihgbadglaogdaaDoorBProb6
import Derived.Deep.RegionLaw
namespace Go.Proofs.YtihgbadglaogdaaDoor.Pb
set_option linter.unusedVariables false
open Go.RowKit Go.Sort Go.Lib
open Go.Proofs.YtihgbadglaogdaaDoor.W
open Go.Proofs.YtihgbadglaogdaaDoor.V
open Go.Proofs.YtihgbadglaogdaaDoor.O

theorem set_get {P : List Edge} {k : Nat} {x y : Edge} (h : P[k]? = some x) : (P.set k y)[k]? = some y := by
  have := (List.getElem?_eq_some_iff.1 h).1
  simp [this]
theorem OwnA.store {W : World} {B j : Nat} {AL : Value} {R : List Alr} {a : Addr} (h : OwnA W B AL R) (hb : a.block < B) (u : Value) : OwnA (W.setCell ⟨a.block, j, none⟩ u) B AL R := by
  unfold OwnA at h ⊢
  exact own_setV (p := ⟨a.block, j, none⟩) h hb u
theorem OwnA.on {W W' : World} {B : Nat} {AL : Value} {R : List Alr} (h : OwnA W B AL R) (q : Below W.heap.size W W') : OwnA W' B AL R := by
  unfold OwnA at h ⊢
  exact own_below h q
theorem size_store {W : World} {n : Nat} (h : n ≤ W.heap.size) (p : Addr) (u : Value) : n ≤ (W.setCell p u).heap.size := by simpa [World.setCell] using h
theorem alertsOf_len {num me : Int} {es : List Edge} : (alertsOf num me es).length ≤ es.length := by
  unfold alertsOf
  rw [List.length_map]
  exact List.length_filter_le _ _

set_option maxRecDepth 1000000 in
set_option maxHeartbeats 8000000 in
theorem probeTick_any (me num : Int) (A E : Option Addr) (c cE B : Nat) (l : List Int) (es : List Edge) (w : World) (h : DW w B me num l A c es E cE) (hB : B ≤ w.heap.size) (hT : H.Tab w) :
    Calls Tryd.prog 19 #[detV me num A l.length c (.slice E es.length cE)] w (TickPF w (okD K num l me es) me num l (tick es) (alertsOf num me es)) := by
  obtain ⟨ne, hne⟩ : ∃ n, n = es.length := ⟨_, rfl⟩
  have HNE := Lib.hid hne
  have hd0 := h.more hB
  have h01 : Below w.heap.size w ((w.alloc (.cells #[.int .i64 me, .int .i64 num, .slice A l.length c, .slice E ne cE] 34)).alloc (.cells #[.int .i64 0, .int .i64 0, .slice none 0 0, .slice none 0 0] 34)) := ((Below.refl w.heap.size w).alloc (Nat.le_refl _) _).alloc (by simp) _
  have hz := two_blk w 34 34 #[.int .i64 me, .int .i64 num, .slice A l.length c, .slice E ne cE] #[.int .i64 0, .int .i64 0, .slice none 0 0, .slice none 0 0]
  have FB := Lib.hid (fun W (hW : Below ((w.alloc (.cells #[.int .i64 me, .int .i64 num, .slice A l.length c, .slice E ne cE] 34)).alloc (.cells #[.int .i64 0, .int .i64 0, .slice none 0 0, .slice none 0 0] 34)).heap.size ((w.alloc (.cells #[.int .i64 me, .int .i64 num, .slice A l.length c, .slice E ne cE] 34)).alloc (.cells #[.int .i64 0, .int .i64 0, .slice none 0 0, .slice none 0 0] 34)) W) => h01.trans (hW.mono (by simp; omega)))
  have FV := Lib.hid (fun W (hW : Below ((w.alloc (.cells #[.int .i64 me, .int .i64 num, .slice A l.length c, .slice E ne cE] 34)).alloc (.cells #[.int .i64 0, .int .i64 0, .slice none 0 0, .slice none 0 0] 34)).heap.size ((w.alloc (.cells #[.int .i64 me, .int .i64 num, .slice A l.length c, .slice E ne cE] 34)).alloc (.cells #[.int .i64 0, .int .i64 0, .slice none 0 0, .slice none 0 0] 34)) W) => And.intro (hz.1.below hW hz.1.lt) (hz.2.below hW hz.2.lt))
  have r0 := Below.refl ((w.alloc (.cells #[.int .i64 me, .int .i64 num, .slice A l.length c, .slice E ne cE] 34)).alloc (.cells #[.int .i64 0, .int .i64 0, .slice none 0 0, .slice none 0 0] 34)).heap.size ((w.alloc (.cells #[.int .i64 me, .int .i64 num, .slice A l.length c, .slice E ne cE] 34)).alloc (.cells #[.int .i64 0, .int .i64 0, .slice none 0 0, .slice none 0 0] 34))
  have KV := Lib.hid (fun W (hW : Below ((w.alloc (.cells #[.int .i64 me, .int .i64 num, .slice A l.length c, .slice E ne cE] 34)).alloc (.cells #[.int .i64 0, .int .i64 0, .slice none 0 0, .slice none 0 0] 34)).heap.size ((w.alloc (.cells #[.int .i64 me, .int .i64 num, .slice A l.length c, .slice E ne cE] 34)).alloc (.cells #[.int .i64 0, .int .i64 0, .slice none 0 0, .slice none 0 0] 34)) W) => probeOkD_any me num A E c cE w.heap.size l es W (hd0.below (FB.out W hW)) (FB.out W hW).size (hT.on (FB.out W hW)))
  rw [← hne] at KV ⊢
  dsimp only [detV] at *
  cases hv : okD K num l me es
  · rw [hv] at KV
    clear hv h hd0 h01 hz hne
    go_enter Tryd.func19, Tryd.ntmps19
    go_wp2_with (go_at_call 22; (with_reducible refine (KV.out _ r0).mono ?_); rintro e w1 ⟨rfl, hq1⟩; obtain ⟨z0, z1, z2, z3, f0, f1, f2, f3⟩ := blk4f (FV.out _ hq1).2; obtain ⟨q0, q1, q2, q3, -⟩ := blk4f (FV.out _ hq1).1)
    refine bodyPost_ret (v := .tuple #[zeroD, .slice none 0 0]) (by simp [results, Tryd.results19, go_sem, zeroD, z0, z1, z2, z3]) rfl ⟨?_, (fun h => by cases h), fun _ => rfl⟩
    repeat (with_reducible refine below_setV ?_ (by simp) _)
    exact FB.out _ hq1
  rw [hv] at KV
  obtain ⟨hl1, h05⟩ := len_fit hv
  have KC := Lib.hid (fun W (hW : Below ((w.alloc (.cells #[.int .i64 me, .int .i64 num, .slice A l.length c, .slice E ne cE] 34)).alloc (.cells #[.int .i64 0, .int .i64 0, .slice none 0 0, .slice none 0 0] 34)).heap.size ((w.alloc (.cells #[.int .i64 me, .int .i64 num, .slice A l.length c, .slice E ne cE] 34)).alloc (.cells #[.int .i64 0, .int .i64 0, .slice none 0 0, .slice none 0 0] 34)) W) => copied_any me num A E c cE w.heap.size l es W (hd0.below (FB.out W hW)) (FB.out W hW).size hl1 h05)
  rw [← hne] at KC h05
  dsimp only [detV] at KC
  have hn5 : ne ≤ 5 := by omega
  have HEL := Lib.hid h.el
  clear h hd0 h01 hz hv hne h05 hl1 hT
  go_enter Tryd.func19, Tryd.ntmps19
  go_upto_region 3 with (go_at_call 22; (with_reducible refine (KV.out _ r0).mono ?_); rintro e w1 ⟨rfl, hq1⟩; obtain ⟨q0, q1, q2, q3, -⟩ := blk4f (FV.out _ hq1).1)
  go_upto_region 4 with (first
    | (go_at_call 36; (with_reducible refine (KC.out _ hq1).mono ?_); rintro e w2 ⟨g, c', ad, rfl, hg2, hL, hE, b2⟩)
    | fail)
  have hs1 : w.heap.size + 2 ≤ w1.heap.size := by have := hq1.size; simp at this; omega
  have T3 := Lib.hid (show TS w (w2.alloc (.cells #[.int .i64 me, .int .i64 num, .slice (some ⟨g, 0, none⟩) l.length c', .slice (some ad) ne ne] 34)) w2.heap.size me num l g c' ad ne es from
    { bel := ((FB.out _ hq1).trans (b2.mono (by omega))).alloc (by have := b2.size; omega) _
      res := ((FV.out _ hq1).2.below b2 (by omega)).alloc _
      box := Blk.new _ _ _
      row := ⟨hE.1, hE.2.alloc _⟩
      own := World.ownsRow.alloc hL _
      o1 := by omega
      o2 := hE.2.lt
      o3 := own_in hL })
  have hel := HEL.out
  clear hq1 hL hE b2 hg2 hs1 q0 q1 q2 q3 KV KC FB FV r0 hel
  have h5 : (w2.alloc (.cells #[.int .i64 me, .int .i64 num, .slice (some ⟨g, 0, none⟩) l.length c', .slice (some ad) ne ne] 34)).heap.size = w2.heap.size + 1 := by simp
  generalize w2.alloc (.cells #[.int .i64 me, .int .i64 num, .slice (some ⟨g, 0, none⟩) l.length c', .slice (some ad) ne ne] 34) = w3 at *
  generalize w2.heap.size = g5 at *
  have H5 := Lib.hid (show g5 < w3.heap.size by omega)
  clear h5
  have qb := (blk4f T3.out.box).2.2.2.1
  go_wp2_with fail
  clear qb
  go_loopg [5, 6, 7, 17] ne (fun gk s5 _ _ s17 wr => ∃ (k : Nat), k + gk = ne ∧ s17 = .int .i64 k ∧ Hid (TS w wr g5 me num l g c' ad ne ((es.take k).map tickE ++ es.drop k)) ∧ Hid (OwnA wr w3.heap.size s5 (alertsOf num me (es.take k))) ∧ Hid (w3.heap.size ≤ wr.heap.size))
  case atStart => exact ⟨0, by omega, rfl, by simpa using T3, World.ownsRow_nil _ _ _ _, Nat.le_refl _⟩
  case round =>
    obtain ⟨k, hkg, rfl, T, HA, HS⟩ := hrel
    obtain ⟨q0, q1, q2, q3, -⟩ := blk4f T.out.box
    cases gk with
    | zero =>
      have hkz : ¬ ((k : Int) < (ne : Int)) := by omega
      obtain ⟨z0, z1, z2, z3, f0, f1, f2, f3⟩ := blk4f T.out.res
      have TF := Lib.hid (show TS w wr g5 me num l g c' ad ne (tick es) from by have := T.out; rw [parts_all (by have := HNE.out; omega)] at this; exact this)
      have HF := Lib.hid (show OwnA wr w3.heap.size u5 (alertsOf num me es) from by have := HA.out; rw [List.take_of_length_le (by have := HNE.out; omega)] at this; exact this)
      clear T HA
      go_wp2_with fail
      refine bodyPost_ret (v := .tuple #[detV me num (some ⟨g, 0, none⟩) l.length c' (.slice (some ad) ne ne), u5]) (by simp [results, Tryd.results19, go_sem, detV, z0, z1, z2, z3]) rfl ⟨?_, (fun _ => ⟨_, _, _, _, rfl, ?_, ?_, ?_, ?_⟩), (fun h => by cases h)⟩
      · repeat (with_reducible refine below_setV ?_ (by show w.heap.size ≤ w.heap.size + 1; omega) _)
        exact TF.out.bel
      · have := own_ge TF.out.own; have := TF.out.o1; omega
      · unfold OwnL
        refine own_base (base' := ad.block + 1) ?_ (by have := TF.out.o1; omega)
        repeat (with_reducible refine own_setV ?_ (by show w.heap.size + 1 < ad.block + 1; have := TF.out.o1; omega) _)
        exact TF.out.own
      · unfold OwnE
        refine own_base (base' := ad.block) ?_ (by have := TF.out.o1; omega)
        repeat (with_reducible refine own_setV ?_ (by show w.heap.size + 1 < ad.block; have := TF.out.o1; omega) _)
        exact TF.out.row.own (by rw [HNE.out]; simp [tick]) (Nat.le_refl _) hn5
      · unfold OwnA
        refine own_base (base' := w3.heap.size) ?_ (by have := TF.out.o1; have := TF.out.o2; have := H5.out; omega)
        repeat (with_reducible refine own_setV ?_ (by show w.heap.size + 1 < w3.heap.size; have := TF.out.o1; have := TF.out.o2; have := H5.out; omega) _)
        exact HF.out
    | succ gk =>
      have hkz : (k : Int) < (ne : Int) := by omega
      obtain ⟨x, hx⟩ : ∃ x, es[k]? = some x := ⟨_, List.getElem?_eq_getElem (by have := HNE.out; omega)⟩
      have hxm := HEL.out x (List.mem_of_getElem? hx)
      have HX := Lib.hid hx
      have HP := Lib.hid (parts_at (f := tickE) hx)
      have HSN := Lib.hid (alertsOf_snoc (num := num) (me := me) hx)
      obtain ⟨x0, x1, x2, x3, x4, x5, fx⟩ := T.out.row.at_ HP.out
      obtain ⟨rg, sb, hd, rp, bt, ct⟩ := x
      obtain ⟨b2, c2, hbc⟩ : ∃ b2 c2, recW bt ct hd = (b2, c2) := ⟨_, _, rfl⟩
      have KR := Lib.hid (fun W => (probeRecord_any bt ct hd W hxm.2.2.2 hxm.2.2.1).mono fun _ _ h => h.to b2 c2 hbc)
      have hk2 := recW_ok bt ct hd
      rw [hbc] at hk2
      have hb2 : b2 < 4294967296 := by have := okWin_lt hk2; omega
      have hc2 : In64 c2 := by obtain ⟨g0, g1, _⟩ := okWin_iff.1 hk2; exact ⟨by omega, by omega⟩
      have KF := Lib.hid (fun W => probeFailing_any b2 c2 W hb2 hc2)
      have HFI := Lib.hid (show firesE ⟨rg, sb, hd, rp, bt, ct⟩ = (failW b2 c2 && !rp) from by unfold firesE; rw [hbc])
      have HTI := Lib.hid (show tickE ⟨rg, sb, hd, rp, bt, ct⟩ = ⟨rg, sb, false, rp || (failW b2 c2 && !rp), b2, c2⟩ from by unfold tickE; rw [HFI.out, hbc])
      have HADB := Lib.hid (fun j => show (ad.add j).block < w3.heap.size from by rw [block_of_add]; have := T.out.o2; have := H5.out; omega)
      have HPS := Lib.hid (parts_set (f := tickE) hx)
      have LR := Lib.hid (show (alertsOf num me (es.take k)).length ≤ 1000 from Nat.le_trans alertsOf_len (by rw [List.length_take]; have := HNE.out; omega))
      generalize alertsOf num me (es.take k) = R at *
      generalize (es.take k).map tickE ++ es.drop k = P at *
      generalize failW b2 c2 = fl at *
      dsimp only [winV] at *
      clear hx hxm hbc hk2 hb2 hc2
      go_upto_region 9 with fail
      go_region_law (go_simp; go_at_call 12; (with_reducible refine (KR.out _).mono ?_); rintro e w7 ⟨rfl, q7⟩; (have T7 := (T.out.on (Below.refl _ _).drew).on q7); (have y4 := (T7.row.at_ HP.out).2.2.2.2.1); (have y5 := (T7.row.at_ HP.out).2.2.2.2.2.1); (have fy := (T7.row.at_ HP.out).2.2.2.2.2.2); (have fy4 := fy ((ad.add (k * 6)).off + 4)); (have fy5 := fy ((ad.add (k * 6)).off + 5)))
      all_goals
        have T8 := Lib.hid (show TS w ((w7.setCell ⟨(ad.add (k * 6)).block, (ad.add (k * 6)).off + 4, none⟩ (.int .u32 (b2 : Int))).setCell ⟨(ad.add (k * 6)).block, (ad.add (k * 6)).off + 4 + 1, none⟩ (.int .i64 c2)) g5 me num l g c' ad ne (P.set k ⟨rg, sb, hd, rp, b2, c2⟩) from by
          have := (T7.set (j := 4) (x' := ⟨rg, sb, hd, rp, b2, ct⟩) (v := .int .u32 (b2 : Int)) HP.out (by omega) rfl).set (j := 5) (x' := ⟨rg, sb, hd, rp, b2, c2⟩) (v := .int .i64 c2) (set_get HP.out) (by omega) rfl
          rw [List.set_set] at this
          exact this)
        have A8 := Lib.hid (show OwnA ((w7.setCell ⟨(ad.add (k * 6)).block, (ad.add (k * 6)).off + 4, none⟩ (.int .u32 (b2 : Int))).setCell ⟨(ad.add (k * 6)).block, (ad.add (k * 6)).off + 4 + 1, none⟩ (.int .i64 c2)) w3.heap.size u5 R from
          ((HA.out.on ((Below.refl _ _).drew.trans q7)).store (HADB.out (k * 6)) _).store (HADB.out (k * 6)) _)
        have S8 := Lib.hid (show w3.heap.size ≤ ((w7.setCell ⟨(ad.add (k * 6)).block, (ad.add (k * 6)).off + 4, none⟩ (.int .u32 (b2 : Int))).setCell ⟨(ad.add (k * 6)).block, (ad.add (k * 6)).off + 4 + 1, none⟩ (.int .i64 c2)).heap.size from
          size_store (size_store (Nat.le_trans HS.out (show wr.heap.size ≤ w7.heap.size from q7.size)) _ _) _ _)
        clear q7 T7 y4 y5 fy fy4 fy5 x0 x1 x2 x3 x4 x5 fx q0 q1 q2 q3
        generalize (w7.setCell ⟨(ad.add (k * 6)).block, (ad.add (k * 6)).off + 4, none⟩ (.int .u32 (b2 : Int))).setCell ⟨(ad.add (k * 6)).block, (ad.add (k * 6)).off + 4 + 1, none⟩ (.int .i64 c2) = w8 at *
        have G8 := Lib.hid (set_get (y := (⟨rg, sb, hd, rp, b2, c2⟩ : Edge)) HP.out)
        obtain ⟨-, -, y2, -, -, -, fy⟩ := T8.out.row.at_ G8.out
        have fy2 := fy ((ad.add (k * 6)).off + 2)
        clear fy
        go_upto_region 11 with fail
        have T9 := Lib.hid (show TS w (w8.setCell ⟨(ad.add (k * 6)).block, (ad.add (k * 6)).off + 2, none⟩ (.bool false)) g5 me num l g c' ad ne (P.set k ⟨rg, sb, false, rp, b2, c2⟩) from by
          have := T8.out.set (j := 2) (x' := ⟨rg, sb, false, rp, b2, c2⟩) (v := .bool false) G8.out (by omega) rfl
          rw [List.set_set] at this
          exact this)
        have A9 := Lib.hid (show OwnA (w8.setCell ⟨(ad.add (k * 6)).block, (ad.add (k * 6)).off + 2, none⟩ (.bool false)) w3.heap.size u5 R from A8.out.store (HADB.out (k * 6)) _)
        have S9 := Lib.hid (show w3.heap.size ≤ (w8.setCell ⟨(ad.add (k * 6)).block, (ad.add (k * 6)).off + 2, none⟩ (.bool false)).heap.size from size_store S8.out _ _)
        have G9 := Lib.hid (set_get (y := (⟨rg, sb, false, rp, b2, c2⟩ : Edge)) HP.out)
        clear T8 A8 S8 G8 y2 fy2
        generalize w8.setCell ⟨(ad.add (k * 6)).block, (ad.add (k * 6)).off + 2, none⟩ (.bool false) = w9 at *
        obtain ⟨-, -, -, y3, y4, y5, -⟩ := T9.out.row.at_ G9.out
        cases rp
        case true =>
          have HPN := Lib.hid (show P.set k ⟨rg, sb, false, true, b2, c2⟩ = (es.take (k + 1)).map tickE ++ es.drop (k + 1) from by rw [← HPS.out, HTI.out]; simp)
          have HRN := Lib.hid (show alertsOf num me (es.take (k + 1)) = R from by rw [HSN.out, HFI.out]; simp)
          go_wp2_with fail
          go_roundg gk
          case measure => omega
          case rel => exact ⟨k + 1, by omega, by go_num, by rw [← HPN.out]; exact T9.out, by rw [HRN.out]; exact A9.out, S9.out⟩
        case false =>
          cases fl
          · have HPN := Lib.hid (show P.set k ⟨rg, sb, false, false, b2, c2⟩ = (es.take (k + 1)).map tickE ++ es.drop (k + 1) from by rw [← HPS.out, HTI.out]; simp)
            have HRN := Lib.hid (show alertsOf num me (es.take (k + 1)) = R from by rw [HSN.out, HFI.out]; simp)
            go_wp2_with (go_at_call 14; (with_reducible refine (KF.out _).mono ?_); rintro e wa ⟨rfl, qa⟩)
            go_roundg gk
            case measure => omega
            case rel => exact ⟨k + 1, by omega, by go_num, by rw [← HPN.out]; exact T9.out.on qa, by rw [HRN.out]; exact A9.out.on qa, Nat.le_trans S9.out qa.size⟩
          · have HPN := Lib.hid (show P.set k ⟨rg, sb, false, true, b2, c2⟩ = (es.take (k + 1)).map tickE ++ es.drop (k + 1) from by rw [← HPS.out, HTI.out]; simp)
            have HRN := Lib.hid (show alertsOf num me (es.take (k + 1)) = R ++ [⟨num, rg, me, sb⟩] from by rw [HSN.out, HFI.out]; simp)
            go_upto_region 12 with (go_at_call 14; (with_reducible refine (KF.out _).mono ?_); rintro e wa ⟨rfl, qa⟩)
            have TA := Lib.hid (T9.out.on qa)
            have AA := Lib.hid (A9.out.on qa)
            have SA := Lib.hid (Nat.le_trans S9.out qa.size)
            clear T9 A9 S9 y3 y4 y5 qa
            obtain ⟨-, -, -, y3, -, -, fy⟩ := TA.out.row.at_ G9.out
            have fy3 := fy ((ad.add (k * 6)).off + 3)
            clear fy
            go_upto_region 13 with fail
            have TB := Lib.hid (show TS w (wa.setCell ⟨(ad.add (k * 6)).block, (ad.add (k * 6)).off + 3, none⟩ (.bool true)) g5 me num l g c' ad ne (P.set k ⟨rg, sb, false, true, b2, c2⟩) from by
              have := TA.out.set (j := 3) (x' := ⟨rg, sb, false, true, b2, c2⟩) (v := .bool true) G9.out (by omega) rfl
              rw [List.set_set] at this
              exact this)
            have AB := Lib.hid (show (wa.setCell ⟨(ad.add (k * 6)).block, (ad.add (k * 6)).off + 3, none⟩ (.bool true)).ownsRow w3.heap.size 52 4 u5 R.length (alrsC R) from AA.out.store (HADB.out (k * 6)) _)
            have SB := Lib.hid (show w3.heap.size ≤ (wa.setCell ⟨(ad.add (k * 6)).block, (ad.add (k * 6)).off + 3, none⟩ (.bool true)).heap.size from size_store SA.out _ _)
            clear TA AA SA y3 fy3
            generalize wa.setCell ⟨(ad.add (k * 6)).block, (ad.add (k * 6)).off + 3, none⟩ (.bool true) = wb at *
            obtain ⟨y0, y1, -⟩ := TB.out.row.at_ (set_get (y := (⟨rg, sb, false, true, b2, c2⟩ : Edge)) HP.out)
            obtain ⟨q0, q1, q2, q3, -⟩ := blk4f TB.out.box
            go_region_law ((refine step_append_alr _ rfl (.tmp 54) (.tmp 69) rfl w3.heap.size _ R ⟨num, rg, me, sb⟩ _ _ _ rfl (World.ownsRow.alloc AB.out _) rfl (reads_blk _ _ _) (by have := LR.out; omega) (by have := SB.out; simp; omega) ?_; intro v4 w4 ho4 hb4; have hb5 : Below w3.heap.size wb w4 := Below.trans (by first | exact ((Below.refl _ _).alloc SB.out _).drew | exact (Below.refl _ _).drew.alloc SB.out _ | exact (Below.refl _ _).alloc SB.out _) hb4))
            all_goals
              have hb6 : Below w3.heap.size wb w4 := by assumption
              have ho6 : w4.ownsRow w3.heap.size 52 4 v4 (R ++ [(⟨num, rg, me, sb⟩ : Alr)]).length (alrsC (R ++ [(⟨num, rg, me, sb⟩ : Alr)])) := by assumption
              have TC := Lib.hid (TB.out.lower hb6 H5.out)
              have AC := Lib.hid (show OwnA w4 w3.heap.size v4 (R ++ [⟨num, rg, me, sb⟩]) from ho6)
              have SC := Lib.hid (Nat.le_trans SB.out hb6.size)
              clear hb6 ho6
              go_wp2_with fail
              go_roundg gk
              case measure => omega
              case rel => exact ⟨k + 1, by omega, by go_num, by rw [← HPN.out]; exact TC.out, by rw [HRN.out]; exact AC.out, SC.out⟩
end Go.Proofs.YtihgbadglaogdaaDoor.Pb
