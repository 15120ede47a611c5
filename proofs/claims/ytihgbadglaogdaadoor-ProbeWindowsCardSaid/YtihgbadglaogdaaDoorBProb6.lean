/- Package probe: a detector of the call's own, whose edges are stored into; Heard. -/
import Derived.Test.YtihgbadglaogdaaDoorBProb5
namespace Go.Proofs.YtihgbadglaogdaaDoor.Pb
set_option linter.unusedVariables false
open Go.RowKit Go.Sort Go.Lib
open Go.Proofs.YtihgbadglaogdaaDoor.W
open Go.Proofs.YtihgbadglaogdaaDoor.V
open Go.Proofs.YtihgbadglaogdaaDoor.O

theorem edgesC_set {v : Value} {x x' : Edge} {j : Nat} (hj : j < 6) (he : (edgeC x).set j v = edgeC x') : ∀ {es : List Edge} {k : Nat}, es[k]? = some x → (edgesC es).set (k * 6 + j) v = edgesC (es.set k x')
  | [], k, h => by cases h
  | y :: t, 0, h => by
    simp at h
    subst h
    show (edgeC y ++ edgesC t).set (0 * 6 + j) v = edgeC x' ++ edgesC t
    rw [List.set_append_left _ _ (by simp [edgeC]; omega), ← he]
    simp
  | y :: t, k + 1, h => by
    show (edgeC y ++ edgesC t).set ((k + 1) * 6 + j) v = edgeC y ++ edgesC (t.set k x')
    rw [List.set_append_right _ _ (by simp [edgeC]; omega), show (k + 1) * 6 + j - (edgeC y).length = k * 6 + j by simp [edgeC]; omega, edgesC_set hj he (by simpa using h)]
theorem add0 (b j : Nat) : (⟨b, 0, none⟩ : Addr).add j = ⟨b, j, none⟩ := by unfold Addr.add; split <;> simp_all
section
variable {W W' : World} {ad : Addr} {es : List Edge}
theorem RowE.reads (h : RowE W ad es) : Reads W W.heap.size 6 (some ad) es.length (edgesC es) :=
  ⟨len_edgesC es, fun _ => ⟨ad, rfl, h.2.lt, fun j v hv => by
    have e : ad.add j = ⟨ad.block, j, none⟩ := by rw [h.1]; exact add0 _ _
    rw [e]
    exact (h.2.cell j).trans (by simpa using hv)⟩⟩
theorem RowE.on (h : RowE W ad es) (q : Below W.heap.size W W') : RowE W' ad es := ⟨h.1, h.2.below q h.2.lt⟩
/-- The cells of an element, which can be stored into. -/
theorem RowE.at_ (h : RowE W ad es) {k : Nat} {x : Edge} (hx : es[k]? = some x) :
    W.cell? (ad.add (k * 6)) = some (.int .i64 x.ring) ∧ W.cell? ⟨(ad.add (k * 6)).block, (ad.add (k * 6)).off + 1, none⟩ = some (.int .i64 x.subj) ∧
      W.cell? ⟨(ad.add (k * 6)).block, (ad.add (k * 6)).off + 2, none⟩ = some (.bool x.heard) ∧ W.cell? ⟨(ad.add (k * 6)).block, (ad.add (k * 6)).off + 3, none⟩ = some (.bool x.rep) ∧
      W.cell? ⟨(ad.add (k * 6)).block, (ad.add (k * 6)).off + 4, none⟩ = some (.int .u32 (x.bits : Int)) ∧ W.cell? ⟨(ad.add (k * 6)).block, (ad.add (k * 6)).off + 5, none⟩ = some (.int .i64 x.cnt) ∧
      (∀ j, W.frozen? ⟨(ad.add (k * 6)).block, j, none⟩ = false) := by
  obtain ⟨ad', e, _, _, h0, h1, h2, h3, h4, h5⟩ := edge_at h.reads hx
  cases e
  exact ⟨h0, h1, h2, h3, h4, h5, fun j => by rw [block_of_add]; exact h.2.frozen j⟩
theorem RowE.set (h : RowE W ad es) {k j : Nat} {x x' : Edge} {v : Value} (hx : es[k]? = some x) (hj : j < 6) (he : (edgeC x).set j v = edgeC x') : RowE (W.setCell ⟨(ad.add (k * 6)).block, (ad.add (k * 6)).off + j, none⟩ v) ad (es.set k x') := by
  refine ⟨h.1, ?_⟩
  have e : ad.add (k * 6) = ⟨ad.block, k * 6, none⟩ := by rw [h.1]; exact add0 _ _
  rw [e, ← edgesC_set hj he hx]
  have := h.2.set_ (k * 6 + j) v
  simpa using this
theorem RowE.own (h : RowE W ad es) {n base : Nat} (hn : n = es.length) (hb : base ≤ ad.block) (hm : n ≤ 5) : OwnE W base (.slice (some ad) n n) es := by
  unfold OwnE
  refine ⟨len_edgesC es, .inr ⟨ad.block, n, (edgesC es).toArray, ?_, hb, h.2, ?_, ?_, ?_, ?_⟩⟩
  · rw [← hn]; exact congrArg (fun a => Value.slice (some a) n n) h.1
  · omega
  · unfold maxLen; omega
  · simp [len_edgesC]; omega
  · have := len_edgesC es
    rw [List.take_of_length_le (by simp; omega)]
end
theorem own_raise {w : World} {B B' g c : Nat} {l : List Int} (h : OwnL w B g c l) (hb : B' ≤ g) : OwnL w B' g c l := by
  refine ⟨h.1, ?_⟩
  rcases h.2 with ⟨e, _⟩ | ⟨g', cap, cur, e, _, h2⟩
  · cases e
  · cases e
    exact .inr ⟨g, c, cur, rfl, hb, h2⟩
theorem own_in {w : World} {B g c : Nat} {l : List Int} (h : OwnL w B g c l) : g < w.heap.size := by
  rcases h.2 with ⟨e, _⟩ | ⟨g', cap, cur, e, _, h2, _⟩
  · cases e
  · cases e
    exact (Array.getElem?_eq_some_iff.1 h2).1
theorem own_ge {w : World} {B g c : Nat} {l : List Int} (h : OwnL w B g c l) : B ≤ g := by
  rcases h.2 with ⟨e, _⟩ | ⟨g', cap, cur, e, h1, _⟩
  · cases e
  · cases e
    exact h1
/-- A detector of the call's own, in its box, and the box of the result. -/
structure TS (w W : World) (g5 : Nat) (me num : Int) (l : List Int) (g c' : Nat) (ad : Addr) (ne : Nat) (P : List Edge) : Prop where
  bel : Below w.heap.size w W
  res : Blk W (w.heap.size + 1) 34 #[.int .i64 0, .int .i64 0, .slice none 0 0, .slice none 0 0]
  box : Blk W g5 34 #[.int .i64 me, .int .i64 num, .slice (some ⟨g, 0, none⟩) l.length c', .slice (some ad) ne ne]
  row : RowE W ad P
  own : OwnL W (ad.block + 1) g c' l
  o1 : w.heap.size + 2 ≤ ad.block
  o2 : ad.block < g5
  o3 : g < g5
section
variable {w W W' : World} {g5 : Nat} {me num : Int} {l : List Int} {g c' : Nat} {ad : Addr} {ne : Nat} {P : List Edge}
theorem TS.on (h : TS w W g5 me num l g c' ad ne P) (q : Below W.heap.size W W') : TS w W' g5 me num l g c' ad ne P :=
  ⟨h.bel.trans (q.mono h.bel.size), h.res.below q h.res.lt, h.box.below q h.box.lt, h.row.on q, own_below h.own q, h.o1, h.o2, h.o3⟩
theorem TS.lower (h : TS w W g5 me num l g c' ad ne P) {b : Nat} (q : Below b W W') (hb : g5 < b) : TS w W' g5 me num l g c' ad ne P := by
  have h1 := h.o1
  have h2 := h.o2
  have h3 := h.o3
  refine ⟨h.bel.trans (q.mono (by omega)), h.res.below q (by omega), h.box.below q hb, ⟨h.row.1, h.row.2.below q (by omega)⟩, ?_, h.o1, h.o2, h.o3⟩
  refine ⟨h.own.1, ?_⟩
  rcases h.own.2 with ⟨e, _⟩ | ⟨g', cap, cur, e, r1, r2, r3⟩
  · cases e
  · cases e
    exact .inr ⟨g, c', cur, rfl, r1, (q.block g (by omega)).trans r2, r3⟩
theorem TS.set (h : TS w W g5 me num l g c' ad ne P) {k j : Nat} {x x' : Edge} {v : Value} (hx : P[k]? = some x) (hj : j < 6) (he : (edgeC x).set j v = edgeC x') : TS w (W.setCell ⟨(ad.add (k * 6)).block, (ad.add (k * 6)).off + j, none⟩ v) g5 me num l g c' ad ne (P.set k x') := by
  have hb : (ad.add (k * 6)).block = ad.block := block_of_add _ _
  have h1 := h.o1
  have h2 := h.o2
  refine ⟨h.bel.setCell (by show w.heap.size ≤ (ad.add (k * 6)).block; omega) _, h.res.far (by show w.heap.size + 1 ≠ (ad.add (k * 6)).block; omega) _, h.box.far (by show g5 ≠ (ad.add (k * 6)).block; omega) _, h.row.set hx hj he, own_setV h.own (by show (ad.add (k * 6)).block < _; omega) _, h.o1, h.o2, h.o3⟩
end
theorem parts_at {es : List Edge} {f : Edge → Edge} {k : Nat} {x : Edge} (hx : es[k]? = some x) : ((es.take k).map f ++ es.drop k)[k]? = some x := by
  have hk := (List.getElem?_eq_some_iff.1 hx).1
  rw [List.getElem?_append_right (by simp; omega)]
  simp [Nat.min_eq_left (Nat.le_of_lt hk), hx]
theorem parts_set {es : List Edge} {f : Edge → Edge} {k : Nat} {x : Edge} (hx : es[k]? = some x) : ((es.take k).map f ++ es.drop k).set k (f x) = (es.take (k + 1)).map f ++ es.drop (k + 1) := by
  have hk := (List.getElem?_eq_some_iff.1 hx).1
  rw [List.set_append_right _ _ (by simp; omega), List.take_add_one, hx]
  have e : es.drop k = x :: es.drop (k + 1) := by
    rw [List.drop_eq_getElem_cons hk]
    rw [List.getElem?_eq_getElem hk] at hx
    rw [Option.some.inj hx]
  rw [e]
  simp [Nat.min_eq_left (Nat.le_of_lt hk)]
theorem parts_all {es : List Edge} {f : Edge → Edge} {k : Nat} (hk : es.length ≤ k) : (es.take k).map f ++ es.drop k = es.map f := by
  rw [List.take_of_length_le hk, List.drop_eq_nil_of_le hk, List.append_nil]

set_option maxRecDepth 1000000 in
set_option maxHeartbeats 4000000 in
theorem probeHeard_any (me num frm : Int) (A E : Option Addr) (c cE B : Nat) (l : List Int) (es : List Edge) (w : World) (h : DW w B me num l A c es E cE) (hB : B ≤ w.heap.size) (hf : In64 frm) (hT : H.Tab w) :
    Calls Tryd.prog 24 #[detV me num A l.length c (.slice E es.length cE), .int .i64 frm] w (DetPF w (okD K num l me es) me num l (hear frm es)) := by
  obtain ⟨ne, hne⟩ : ∃ n, n = es.length := ⟨_, rfl⟩
  have HNE := Lib.hid hne
  have hd0 := h.more hB
  have h01 : Below w.heap.size w ((w.alloc (.cells #[.int .i64 me, .int .i64 num, .slice A l.length c, .slice E ne cE] 34)).alloc (.cells #[.int .i64 0, .int .i64 0, .slice none 0 0, .slice none 0 0] 34)) := ((Below.refl w.heap.size w).alloc (Nat.le_refl _) _).alloc (by simp) _
  have hz := two_blk w 34 34 #[.int .i64 me, .int .i64 num, .slice A l.length c, .slice E ne cE] #[.int .i64 0, .int .i64 0, .slice none 0 0, .slice none 0 0]
  have FB := Lib.hid (fun W (hW : Below ((w.alloc (.cells #[.int .i64 me, .int .i64 num, .slice A l.length c, .slice E ne cE] 34)).alloc (.cells #[.int .i64 0, .int .i64 0, .slice none 0 0, .slice none 0 0] 34)).heap.size ((w.alloc (.cells #[.int .i64 me, .int .i64 num, .slice A l.length c, .slice E ne cE] 34)).alloc (.cells #[.int .i64 0, .int .i64 0, .slice none 0 0, .slice none 0 0] 34)) W) => h01.trans (hW.mono (by simp; omega)))
  have FV := Lib.hid (fun W (hW : Below ((w.alloc (.cells #[.int .i64 me, .int .i64 num, .slice A l.length c, .slice E ne cE] 34)).alloc (.cells #[.int .i64 0, .int .i64 0, .slice none 0 0, .slice none 0 0] 34)).heap.size ((w.alloc (.cells #[.int .i64 me, .int .i64 num, .slice A l.length c, .slice E ne cE] 34)).alloc (.cells #[.int .i64 0, .int .i64 0, .slice none 0 0, .slice none 0 0] 34)) W) => And.intro (hz.1.below hW hz.1.lt) (hz.2.below hW hz.2.lt))
  have r0 := Below.refl ((w.alloc (.cells #[.int .i64 me, .int .i64 num, .slice A l.length c, .slice E ne cE] 34)).alloc (.cells #[.int .i64 0, .int .i64 0, .slice none 0 0, .slice none 0 0] 34)).heap.size ((w.alloc (.cells #[.int .i64 me, .int .i64 num, .slice A l.length c, .slice E ne cE] 34)).alloc (.cells #[.int .i64 0, .int .i64 0, .slice none 0 0, .slice none 0 0] 34))
  have KV := Lib.hid (fun W (hW : Below ((w.alloc (.cells #[.int .i64 me, .int .i64 num, .slice A l.length c, .slice E ne cE] 34)).alloc (.cells #[.int .i64 0, .int .i64 0, .slice none 0 0, .slice none 0 0] 34)).heap.size ((w.alloc (.cells #[.int .i64 me, .int .i64 num, .slice A l.length c, .slice E ne cE] 34)).alloc (.cells #[.int .i64 0, .int .i64 0, .slice none 0 0, .slice none 0 0] 34)) W) => probeOkD_any me num A E c cE w.heap.size l es W (hd0.below (FB.out W hW)) (FB.out W hW).size (hT.on (FB.out W hW)))
  rw [← hne] at KV ⊢
  dsimp only [detV] at *
  cases hv : okD K num l me es
  · rw [hv] at KV
    clear hv h hd0 h01 hz hne
    go_enter Tryd.func24, Tryd.ntmps24
    go_wp2_with (go_at_call 22; (with_reducible refine (KV.out _ r0).mono ?_); rintro e w1 ⟨rfl, hq1⟩; obtain ⟨z0, z1, z2, z3, f0, f1, f2, f3⟩ := blk4f (FV.out _ hq1).2; obtain ⟨q0, q1, q2, q3, -⟩ := blk4f (FV.out _ hq1).1)
    refine bodyPost_ret (v := zeroD) (by simp [results, Tryd.results24, go_sem, zeroD, z0, z1, z2, z3]) rfl ⟨?_, (fun h => by cases h), fun _ => rfl⟩
    repeat (with_reducible refine below_setV ?_ (by simp) _)
    exact FB.out _ hq1
  rw [hv] at KV
  obtain ⟨hl1, h05⟩ := len_fit hv
  have KC := Lib.hid (fun W (hW : Below ((w.alloc (.cells #[.int .i64 me, .int .i64 num, .slice A l.length c, .slice E ne cE] 34)).alloc (.cells #[.int .i64 0, .int .i64 0, .slice none 0 0, .slice none 0 0] 34)).heap.size ((w.alloc (.cells #[.int .i64 me, .int .i64 num, .slice A l.length c, .slice E ne cE] 34)).alloc (.cells #[.int .i64 0, .int .i64 0, .slice none 0 0, .slice none 0 0] 34)) W) => copied_any me num A E c cE w.heap.size l es W (hd0.below (FB.out W hW)) (FB.out W hW).size hl1 h05)
  rw [← hne] at KC h05
  dsimp only [detV] at KC
  have hn5 : ne ≤ 5 := by omega
  clear h hd0 h01 hz hv hne h05 hl1 hT
  go_enter Tryd.func24, Tryd.ntmps24
  go_upto_region 3 with (go_at_call 22; (with_reducible refine (KV.out _ r0).mono ?_); rintro e w1 ⟨rfl, hq1⟩; obtain ⟨q0, q1, q2, q3, -⟩ := blk4f (FV.out _ hq1).1)
  go_upto_region 4 with (first
    | (go_at_call 36; (with_reducible refine (KC.out _ hq1).mono ?_); rintro e w2 ⟨g, c', ad, rfl, hg2, hL, hE, b2⟩)
    | fail)
  have hs1 : w.heap.size + 2 ≤ w1.heap.size := by have := hq1.size; simp at this; omega
  have T3 := Lib.hid (show TS w (w2.alloc (.cells #[.int .i64 me, .int .i64 num, .slice (some ⟨g, 0, none⟩) l.length c', .slice (some ad) ne ne] 34)) w2.heap.size me num l g c' ad ne es from
    { bel := ((FB.out _ hq1).trans (b2.mono (by omega))).alloc (by have := b2.size; omega) _
      res := ((FV.out _ hq1).2.below b2 (by omega)).alloc _
      box := Blk.new _ _ _
      row := ⟨hE.1, hE.2.alloc _⟩
      own := World.ownsRow.alloc hL _
      o1 := by omega
      o2 := hE.2.lt
      o3 := own_in hL })
  clear hq1 hL hE b2 hg2 hs1 q0 q1 q2 q3 KV KC FB FV r0
  generalize w2.alloc (.cells #[.int .i64 me, .int .i64 num, .slice (some ⟨g, 0, none⟩) l.length c', .slice (some ad) ne ne] 34) = w3 at *
  generalize w2.heap.size = g5 at *
  have qb := (blk4f T3.out.box).2.2.2.1
  go_wp2_with fail
  clear qb
  go_loopg [6, 7, 17] ne (fun gk _ _ s17 wr => ∃ (k : Nat), k + gk = ne ∧ s17 = .int .i64 k ∧ Hid (TS w wr g5 me num l g c' ad ne ((es.take k).map (hearE frm) ++ es.drop k)))
  case atStart => exact ⟨0, by omega, rfl, by simpa using T3⟩
  case round =>
    obtain ⟨k, hkg, rfl, T⟩ := hrel
    obtain ⟨q0, q1, q2, q3, -⟩ := blk4f T.out.box
    cases gk with
    | zero =>
      have hkz : ¬ ((k : Int) < (ne : Int)) := by omega
      obtain ⟨z0, z1, z2, z3, f0, f1, f2, f3⟩ := blk4f T.out.res
      have TF := Lib.hid (show TS w wr g5 me num l g c' ad ne (hear frm es) from by have := T.out; rw [parts_all (by have := HNE.out; omega)] at this; exact this)
      clear T
      go_wp2_with fail
      refine bodyPost_ret (v := detV me num (some ⟨g, 0, none⟩) l.length c' (.slice (some ad) ne ne)) (by simp [results, Tryd.results24, go_sem, detV, z0, z1, z2, z3]) rfl ⟨?_, (fun _ => ⟨_, _, _, rfl, ?_, ?_, ?_⟩), (fun h => by cases h)⟩
      · repeat (with_reducible refine below_setV ?_ (by show w.heap.size ≤ w.heap.size + 1; omega) _)
        exact TF.out.bel
      · have := own_ge TF.out.own; have := TF.out.o1; omega
      · unfold OwnL
        refine own_base (base' := ad.block + 1) ?_ (by have := TF.out.o1; omega)
        repeat (with_reducible refine own_setV ?_ (by show w.heap.size + 1 < ad.block + 1; have := TF.out.o1; omega) _)
        exact TF.out.own
      · unfold OwnE
        refine own_base (base' := ad.block) ?_ (by have := TF.out.o1; omega)
        repeat (with_reducible refine own_setV ?_ (by show w.heap.size + 1 < ad.block; have := TF.out.o1; omega) _)
        exact TF.out.row.own (by rw [HNE.out]; simp [hear]) (Nat.le_refl _) hn5
    | succ gk =>
      have hkz : (k : Int) < (ne : Int) := by omega
      obtain ⟨x, hx⟩ : ∃ x, es[k]? = some x := ⟨_, List.getElem?_eq_getElem (by have := HNE.out; omega)⟩
      have HX := Lib.hid hx
      have HP := Lib.hid (parts_at (f := hearE frm) hx)
      obtain ⟨x0, x1, x2, x3, x4, x5, fx⟩ := T.out.row.at_ HP.out
      have fx2 := fx ((ad.add (k * 6)).off + 2)
      obtain ⟨rg, sb, hd, rp, bt, ct⟩ := x
      obtain ⟨v, hv⟩ : ∃ v, v = (hd || decide (sb = frm)) := ⟨_, rfl⟩
      have HV := Lib.hid (show hearE frm ⟨rg, sb, hd, rp, bt, ct⟩ = ⟨rg, sb, v, rp, bt, ct⟩ from by rw [hv]; rfl)
      clear hx fx
      cases hd
      · have e1 : (sb == frm) = v := by rw [hv]; simp [BEq.beq]
        clear hv
        go_wp2_with fail
        go_roundg gk
        case measure => omega
        case rel =>
          refine ⟨k + 1, by omega, by go_num, ?_⟩
          have := T.out.set (j := 2) (x' := ⟨rg, sb, v, rp, bt, ct⟩) (v := .bool v) HP.out (by omega) rfl
          rw [← HV.out, parts_set HX.out] at this
          exact this
      · have e1 : v = true := by rw [hv]; rfl
        subst e1
        clear hv
        go_wp2_with fail
        go_roundg gk
        case measure => omega
        case rel =>
          refine ⟨k + 1, by omega, by go_num, ?_⟩
          have := T.out.set (j := 2) (x' := ⟨rg, sb, true, rp, bt, ct⟩) (v := .bool true) HP.out (by omega) rfl
          rw [← HV.out, parts_set HX.out] at this
          exact this
end Go.Proofs.YtihgbadglaogdaaDoor.Pb
