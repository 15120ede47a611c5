/- Package probe: copied. -/
import Derived.Test.YtihgbadglaogdaaDoorBProb3
import Derived.Laws.CopyOwn
namespace Go.Proofs.YtihgbadglaogdaaDoor.Pb
set_option linter.unusedVariables false
open Go.RowKit Go.Sort Go.Lib
open Go.Proofs.YtihgbadglaogdaaDoor.W
open Go.Proofs.YtihgbadglaogdaaDoor.V
open Go.Proofs.YtihgbadglaogdaaDoor.O

/-- copy of a whole row, of elements of k cells. -/
theorem run_copy_all {P : Program} (w : World) (dT sT ty elem : TypeId) (g n k dCap : Nat) (a : Addr) (sCap : Nat) (cur : Array Value) (t : TypeId) (cs : List Value)
    (hu : P.underlying dT = some (.slice elem)) (hs : (P.info? elem).map (·.size) = some k)
    (hg : w.heap[g]? = some (.cells cur t (0, 0))) (hn : cs.length = n * k)
    (hsrc : ∀ j v, cs[j]? = some v → w.cell? (a.add j) = some v) (hfit : cs.length = cur.size) (h1 : ∀ v ∈ cs, v.oneCell' = true) :
    (Builtin.copy_ #[dT, sT] ty #[.slice (some ⟨g, 0, none⟩) n dCap, .slice (some a) n sCap]).run P w = .ok (goInt n) (w.setRow g cs.toArray) := by
  have hl := run_loadCells_list (P := P) w a cs hsrc
  have hst := run_storeCells_at P g 0 t cs 0 cur w hg (by omega) h1
  rw [show cur.toList.take (0 + 0) ++ cs ++ cur.toList.drop (0 + 0 + cs.length) = cs by simp [hfit]] at hst
  rw [hn] at hl
  cases hq : P.info? elem with
  | none => simp [hq] at hs
  | some i =>
    have hi : i.size = k := by simpa [hq] using hs
    simp [Builtin.copy_, run_underlying hu, Builtin.lenOf, Builtin.firstCells, sizeOf, typeInfo, hq, hi, hl, hst]
theorem run_copy_zero {P : Program} (w : World) (dT sT ty elem : TypeId) (g k dCap : Nat) (a : Option Addr) (sCap : Nat)
    (hu : P.underlying dT = some (.slice elem)) (hs : (P.info? elem).map (·.size) = some k) :
    (Builtin.copy_ #[dT, sT] ty #[.slice (some ⟨g, 0, none⟩) 0 dCap, .slice a 0 sCap]).run P w = .ok (goInt 0) w := by
  cases hq : P.info? elem with
  | none => simp [hq] at hs
  | some i =>
    cases a with
    | none => simp [Builtin.copy_, run_underlying hu, Builtin.lenOf, Builtin.firstCells, sizeOf, typeInfo, hq, storeCells]
    | some a =>
      have hl := run_loadCells_list (P := P) w a [] (fun j v h => by cases h)
      simp at hl
      simp [Builtin.copy_, run_underlying hu, Builtin.lenOf, Builtin.firstCells, sizeOf, typeInfo, hq, hl, storeCells]
/-- copy of all edges into a row just made. -/
theorem wp_copy_edges {ops : Array Oper} {rest : List Oper} {o : Oper} {a : Act} {Q : Exit → Act → World → Prop} (W : World) (hgd : o.guard = none) (d s : Operand)
    (ho : o.op = .call { callee := .builtin .copy, args := #[d, s], argTypes := #[32, 32] }) (g n cap cE B : Nat) (E : Option Addr) (es : List Edge) (cur : Array Value) (hd : a.eval d = .slice (some ⟨g, 0, none⟩) n cap) (hs : a.eval s = .slice E n cE)
    (hg : Blk W g 58 cur) (hcur : cur.size = n * 6) (hn : n = es.length) (hr : Reads W B 6 E n (edgesC es))
    (h : ∀ w', Blk w' g 58 (edgesC es).toArray → Below g W w' → wpList Tryd.prog ops Q rest (a.put o.dst (goInt n)) w') : wpList Tryd.prog ops Q (o :: rest) a W := by
  refine wpList_plain hgd fun K hK => ?_
  obtain ⟨i0, hi, hz0, hz1, hz2⟩ := info_parts edgeInfo
  have hlen := len_edgesC es
  by_cases h0 : n = 0
  · subst h0
    have hrun := run_copy_zero (P := Tryd.prog) W 32 32 o.type 58 g 6 cap E cE Tryd.underlying32 (by rw [hi]; simp [hz1])
    have he : es = [] := List.eq_nil_of_length_eq_zero hn.symm
    subst he
    have hc : cur = #[] := Array.eq_empty_of_size_eq_zero (by simpa using hcur)
    unfold Oper.wp
    simp [execOp, ho, resolve, invoke, builtin, hd, hs, hrun, Result.andThen]
    exact hK _ _ (h W (by rw [hc] at hg; exact hg) (Below.refl _ _))
  · obtain ⟨ad, rfl, hb, hc⟩ := hr.2 (by omega)
    have hrun := run_copy_all (P := Tryd.prog) W 32 32 o.type 58 g n 6 cap ad cE cur 58 (edgesC es) Tryd.underlying32 (by rw [hi]; simp [hz1]) hg (by rw [hlen, hn]) hc (by rw [hlen, hcur, hn]) (edgesC_cell es)
    unfold Oper.wp
    simp [execOp, ho, resolve, invoke, builtin, hd, hs, hrun, Result.andThen]
    refine hK _ _ (h _ ?_ (below_setRow (Below.refl _ _) (Nat.le_refl _) _))
    exact setRow_heap W g cur _ 58 _ hg
/-- Two blocks of four cells. -/
theorem blk4f {W : World} {g : Nat} {t : TypeId} {a b c d : Value} (h : Blk W g t #[a, b, c, d]) : W.cell? ⟨g, 0, none⟩ = some a ∧ W.cell? ⟨g, 1, none⟩ = some b ∧ W.cell? ⟨g, 2, none⟩ = some c ∧ W.cell? ⟨g, 3, none⟩ = some d ∧ W.frozen? ⟨g, 0, none⟩ = false ∧ W.frozen? ⟨g, 1, none⟩ = false ∧ W.frozen? ⟨g, 2, none⟩ = false ∧ W.frozen? ⟨g, 3, none⟩ = false :=
  ⟨h.cell 0, h.cell 1, h.cell 2, h.cell 3, h.frozen 0, h.frozen 1, h.frozen 2, h.frozen 3⟩
theorem make_edges {n : Nat} (h : n = 0 ∨ n = 5) : ∃ Z : Array Value, Z.size = n * 6 ∧ ∀ w, (Instr.makeSlice 32 (.int .i64 (n : Int)) (.int .i64 (n : Int))).run Tryd.prog w = .ok (.slice (some ⟨w.heap.size, 0, none⟩) n n) (w.alloc (.cells Z 58)) := by
  rcases h with rfl | rfl
  · exact ⟨#[], rfl, fun _ => by kernel_rfl⟩
  · exact ⟨#[.int .i64 0, .int .i64 0, .bool false, .bool false, .int .u32 0, .int .i64 0, .int .i64 0, .int .i64 0, .bool false, .bool false, .int .u32 0, .int .i64 0, .int .i64 0, .int .i64 0, .bool false, .bool false, .int .u32 0, .int .i64 0, .int .i64 0, .int .i64 0, .bool false, .bool false, .int .u32 0, .int .i64 0, .int .i64 0, .int .i64 0, .bool false, .bool false, .int .u32 0, .int .i64 0], rfl, fun _ => by kernel_rfl⟩
/-- A row of edges in a block of its own. -/
def RowE (W : World) (ad : Addr) (es : List Edge) : Prop := ad = ⟨ad.block, 0, none⟩ ∧ Blk W ad.block 58 (edgesC es).toArray
/-- What copied leaves. -/
def CopyP (w : World) (me num : Int) (l : List Int) (es : List Edge) (n : Nat) (e : Ending) (w' : World) : Prop :=
  ∃ g c' ad, e = .returned (.agg #[.int .i64 me, .int .i64 num, .slice (some ⟨g, 0, none⟩) l.length c', .slice (some ad) n n]) ∧ w.heap.size ≤ ad.block ∧ OwnL w' (ad.block + 1) g c' l ∧ RowE w' ad es ∧ Below w.heap.size w w'

set_option maxRecDepth 1000000 in
set_option maxHeartbeats 4000000 in
theorem copied_any (me num : Int) (A E : Option Addr) (c cE B : Nat) (l : List Int) (es : List Edge) (w : World) (h : DW w B me num l A c es E cE) (hB : B ≤ w.heap.size) (h1 : 1 ≤ l.length) (h5 : es.length = 0 ∨ es.length = 5) :
    Calls Tryd.prog 36 #[detV me num A l.length c (.slice E es.length cE)] w (CopyP w me num l es es.length) := by
  obtain ⟨ne, hne⟩ : ∃ n, n = es.length := ⟨_, rfl⟩
  have HNE := Lib.hid hne
  have hrd := (h.more hB).rd
  have hls := (h.more hB).vw.ls
  rw [← hne] at hrd h5 ⊢
  have hb0 : Below w.heap.size w ((w.alloc (.cells #[.int .i64 me, .int .i64 num, .slice A l.length c, .slice E ne cE] 34)).alloc (.cells #[.int .i64 0, .int .i64 0, .slice none 0 0, .slice none 0 0] 34)) := ((Below.refl w.heap.size w).alloc (Nat.le_refl _) _).alloc (by simp) _
  have hz := two_blk w 34 34 #[.int .i64 me, .int .i64 num, .slice A l.length c, .slice E ne cE] #[.int .i64 0, .int .i64 0, .slice none 0 0, .slice none 0 0]
  have RE := Lib.hid (fun W (hW : Below w.heap.size w W) => hrd.below hW)
  have KL := Lib.hid (fun W (hW : Below w.heap.size w W) => clone_at A c w.heap.size l W (hls.below hW) hW.size h1)
  obtain ⟨Z, hZ, hmk⟩ := make_edges h5
  have HZ := Lib.hid hZ
  have HB0 := Lib.hid hb0
  have HZ1 := Lib.hid hz.1
  have HZ2 := Lib.hid hz.2
  dsimp only [detV] at *
  clear h hne hrd hls hz hb0 hZ h1
  go_enter Tryd.func36, Tryd.ntmps36
  go_upto_region 1 with fail
  have hs0 : ((w.alloc (.cells #[.int .i64 me, .int .i64 num, .slice A l.length c, .slice E ne cE] 34)).alloc (.cells #[.int .i64 0, .int .i64 0, .slice none 0 0, .slice none 0 0] 34)).heap.size = w.heap.size + 2 := by simp
  generalize ((w.alloc (.cells #[.int .i64 me, .int .i64 num, .slice A l.length c, .slice E ne cE] 34)).alloc (.cells #[.int .i64 0, .int .i64 0, .slice none 0 0, .slice none 0 0] 34)) = W2 at *
  have q3 := (blk4f HZ1.out).2.2.2.1
  go_upto_region 2 with fail
  have hbz : Blk (W2.alloc (.cells Z 58)) (w.heap.size + 2) 58 Z := by rw [← hs0]; exact Blk.new _ _ _
  have hz1 := HZ1.out.alloc (.cells Z 58)
  have hz2 := HZ2.out.alloc (.cells Z 58)
  have hb3 : Below w.heap.size w (W2.alloc (.cells Z 58)) := HB0.out.alloc (by omega) _
  have hs3 : (W2.alloc (.cells Z 58)).heap.size = w.heap.size + 3 := by simp; omega
  generalize W2.alloc (.cells Z 58) = W3 at *
  clear q3 hmk
  have q3 := (blk4f hz1).2.2.2.1
  have HBZ := Lib.hid hbz
  have HC1 := Lib.hid hz1
  have HC2 := Lib.hid hz2
  have HB3 := Lib.hid hb3
  clear hbz hz1 hz2 hb3 HZ1 HZ2 HB0 hs0
  go_upto_region 3 with (first
    | (refine wp_copy_edges _ rfl (.tmp 8) (.tmp 10) rfl (w.heap.size + 2) ne _ cE w.heap.size E es Z rfl rfl HBZ.out HZ.out HNE.out (RE.out _ HB3.out) ?_; intro w4 hbz4 hb4)
    | fail)
  have hl4 := hb4.size
  have hz4 := HC1.out.below hb4 (by omega)
  have hy4 := HC2.out.below hb4 (by omega)
  have hw4 : Below w.heap.size w w4 := HB3.out.trans (hb4.mono (by omega))
  have HBE := Lib.hid hbz4
  have HY4 := Lib.hid hy4
  have HZ4 := Lib.hid hz4
  have HW4 := Lib.hid hw4
  obtain ⟨-, -, -, -, -, -, -, fz3⟩ := blk4f hz4
  have qz3 := (blk4f hz4).2.2.2.1
  clear hbz4 hb4 hz4 hy4 hw4 q3 HC1 HC2 HB3 HBZ
  go_upto_region 4 with fail
  have hz5 : Blk (w4.setCell ⟨w.heap.size, 3, none⟩ (.slice (some ⟨w.heap.size + 2, 0, none⟩) ne ne)) w.heap.size 34 #[.int .i64 me, .int .i64 num, .slice A l.length c, .slice (some ⟨w.heap.size + 2, 0, none⟩) ne ne] := HZ4.out.set_ 3 _
  have hy5 : Blk (w4.setCell ⟨w.heap.size, 3, none⟩ (.slice (some ⟨w.heap.size + 2, 0, none⟩) ne ne)) (w.heap.size + 1) 34 #[.int .i64 0, .int .i64 0, .slice none 0 0, .slice none 0 0] := HY4.out.far (by simp) _
  have he5 : Blk (w4.setCell ⟨w.heap.size, 3, none⟩ (.slice (some ⟨w.heap.size + 2, 0, none⟩) ne ne)) (w.heap.size + 2) 58 (edgesC es).toArray := HBE.out.far (by simp) _
  have hw5 : Below w.heap.size w (w4.setCell ⟨w.heap.size, 3, none⟩ (.slice (some ⟨w.heap.size + 2, 0, none⟩) ne ne)) := HW4.out.setCell (Nat.le_refl _) _
  have hs5 : w.heap.size + 3 ≤ (w4.setCell ⟨w.heap.size, 3, none⟩ (.slice (some ⟨w.heap.size + 2, 0, none⟩) ne ne)).heap.size := by simp [World.setCell]; omega
  clear HZ4 HY4 HBE HW4 fz3 qz3
  generalize w4.setCell ⟨w.heap.size, 3, none⟩ (.slice (some ⟨w.heap.size + 2, 0, none⟩) ne ne) = w5 at *
  have HZ5 := Lib.hid hz5
  have HY5 := Lib.hid hy5
  have HE5 := Lib.hid he5
  have HW5 := Lib.hid hw5
  have qz2 := (blk4f hz5).2.2.1
  clear hz5 hy5 he5 hl4
  go_upto_region 5 with (first
    | (go_at_call 33; (with_reducible refine (KL.out _ hw5).mono ?_); rintro e w6 ⟨g, cap, rfl, hg, hL, b6⟩; obtain ⟨-, -, p2, -, -, -, f2, -⟩ := blk4f (HZ5.out.below b6 HZ5.out.lt))
    | fail)
  have HZ7 := Lib.hid (show Blk (w6.setCell ⟨w.heap.size, 2, none⟩ (.slice (some ⟨g, 0, none⟩) l.length cap)) w.heap.size 34 #[.int .i64 me, .int .i64 num, .slice (some ⟨g, 0, none⟩) l.length cap, .slice (some ⟨w.heap.size + 2, 0, none⟩) ne ne] from (HZ5.out.below b6 HZ5.out.lt).set_ 2 _)
  have HY7 := Lib.hid (show Blk (w6.setCell ⟨w.heap.size, 2, none⟩ (.slice (some ⟨g, 0, none⟩) l.length cap)) (w.heap.size + 1) 34 #[.int .i64 0, .int .i64 0, .slice none 0 0, .slice none 0 0] from (HY5.out.below b6 HY5.out.lt).far (by simp) _)
  have HE7 := Lib.hid (show Blk (w6.setCell ⟨w.heap.size, 2, none⟩ (.slice (some ⟨g, 0, none⟩) l.length cap)) (w.heap.size + 2) 58 (edgesC es).toArray from (HE5.out.below b6 HE5.out.lt).far (by simp) _)
  have HW7 := Lib.hid (show Below w.heap.size w (w6.setCell ⟨w.heap.size, 2, none⟩ (.slice (some ⟨g, 0, none⟩) l.length cap)) from (HW5.out.trans (b6.mono HW5.out.size)).setCell (Nat.le_refl _) _)
  have HL7 := Lib.hid (show OwnL (w6.setCell ⟨w.heap.size, 2, none⟩ (.slice (some ⟨g, 0, none⟩) l.length cap)) (w.heap.size + 3) g cap l from own_setV (own_base hL (by omega)) (by show w.heap.size < _; omega) _)
  have HG := Lib.hid (show w.heap.size + 3 ≤ g by omega)
  clear qz2 hw5 hs5 p2 f2 hL b6 hg HZ5 HY5 HE5 HW5 KL RE
  generalize w6.setCell ⟨w.heap.size, 2, none⟩ (.slice (some ⟨g, 0, none⟩) l.length cap) = w7 at *
  obtain ⟨q0, q1, q2, q3, -⟩ := blk4f HZ7.out
  obtain ⟨z0, z1, z2, z3, f0, f1, f2, f3⟩ := blk4f HY7.out
  go_wp2_with fail
  refine bodyPost_ret (v := detV me num (some ⟨g, 0, none⟩) l.length cap (.slice (some ⟨w.heap.size + 2, 0, none⟩) ne ne)) (by simp [results, Tryd.results36, go_sem, detV, z0, z1, z2, z3]) rfl ⟨_, _, _, rfl, by show w.heap.size ≤ w.heap.size + 2; omega, ?_, ⟨rfl, ?_⟩, ?_⟩
  · show OwnL _ (w.heap.size + 3) _ _ _
    unfold OwnL
    repeat (with_reducible refine own_setV ?_ (by show w.heap.size + 1 < w.heap.size + 3; omega) _)
    exact HL7.out
  · repeat (with_reducible refine Blk.far ?_ (by show w.heap.size + 2 ≠ w.heap.size + 1; omega) _)
    exact HE7.out
  · repeat (with_reducible refine below_setV ?_ (by simp) _)
    exact HW7.out
end Go.Proofs.YtihgbadglaogdaaDoor.Pb
