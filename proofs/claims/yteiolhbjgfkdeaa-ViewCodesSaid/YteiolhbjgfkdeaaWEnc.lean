/- The encoders: grown, putUint, putInt, putString, AppendUint, AppendInt, AppendString, AppendInts, AppendStrings. -/
import Derived.Test.YteiolhbjgfkdeaaWVal
import Derived.Lib.VarintMem
import Derived.Laws.CopyOwn
namespace Go.Proofs.Yteiolhbjgfkdeaa.W
set_option linter.unusedVariables false
open Go.RowKit
open Go.Lib (byteCells byteCells_length byteCells_append byteCells_snoc unzigzag zigzag uvarint_small uvarint_big)

/-- What an encoder leaves: a slice of bytes that the call owns from block 'base' on. -/
def OwnPost (base : Nat) (w : World) (l : List UInt8) (en : Ending) (w' : World) : Prop :=
  ∃ v, en = .returned v ∧ w'.ownsRow base 5 1 v l.length (byteCells l) ∧ Below base w w'
theorem byteCells_one' (l : List UInt8) : ∀ u ∈ byteCells l, u.oneCell' = true := by
  intro u hu
  simp only [byteCells, List.mem_map] at hu
  obtain ⟨b, _, rfl⟩ := hu
  rfl
theorem cell_new1 (W : World) (t : TypeId) (u : Value) : (W.alloc (.cells #[u] t)).cell? ⟨W.heap.size, 0, none⟩ = some u := by
  rw [World.cell?_alloc_new W #[u] t 0]; rfl
/-- One byte appended to a row of the call's own. -/
theorem wp_append_byte {ops : Array Oper} {rest : List Oper} {o : Oper} {a : Act} {Q : Exit → Act → World → Prop} (W : World) (hgd : o.guard = none) (s x : Operand)
    (ho : o.op = .call { callee := .builtin .append, args := #[s, x], argTypes := #[40, 40] }) (base : Nat) (v : Value) (l : List UInt8) (z g : Nat) (zi : Int) (hs : a.eval s = v)
    (hown : W.ownsRow base 5 1 v l.length (byteCells l)) (hx : a.eval x = .slice (some ⟨g, 0, none⟩) 1 1) (hcell : W.cell? ⟨g, 0, none⟩ = some (.int .u8 zi)) (hzi : zi = (z : Int)) (hz : z < 256)
    (hl : l.length ≤ 4398046521104) (hbase : base ≤ W.heap.size)
    (h : ∀ v' w', w'.ownsRow base 5 1 v' (l ++ [z.toUInt8]).length (byteCells (l ++ [z.toUInt8])) → Below base W w' → wpList Try.prog ops Q rest (a.put o.dst v') w') : wpList Try.prog ops Q (o :: rest) a W := by
  obtain ⟨i0, hi, hz0, hz1, hz2⟩ := info_parts u8Info
  subst hzi
  refine wpList_append_own W hgd s x 40 ho base 5 i0 _ 1 1 Try.underlying40 hi hz0 hz1 hz2 rfl (by decide) v _ _ hs hown ⟨g, 0, none⟩ 1 1 [.int .u8 (z : Int)] hx rfl ?_ ?_ ?_ ?_ hbase ?_
  · intro q u hq
    match q, hq with
    | 0, hq => simp at hq; subst hq; simpa [Addr.add] using hcell
  · intro u hu; simp at hu; subst hu; rfl
  · unfold maxLen; omega
  · omega
  · intro v' w' h1 h2 _
    refine h v' w' ?_ ((Below.refl _ _).grown h2 hbase fun q hq => (hown.lt q hq).1)
    rw [byteCells_snoc _ hz]
    simpa using h1
set_option maxRecDepth 100000 in
set_option maxHeartbeats 400000 in
theorem putUint_any (v : Value) (l : List UInt8) (x base : Nat) (w : World) (hown : w.ownsRow base 5 1 v l.length (byteCells l)) (hbase : base ≤ w.heap.size) (hl : l.length ≤ 4398046511104) (hx : x < 18446744073709551616) :
    Calls Try.prog 65 #[v, .int .u64 x] w (OwnPost base w (l ++ enU x)) := by
  have hlen := Go.Lib.uvarint_length64 hx
  go_enter Try.func65, Try.ntmps65
  go_wp2
  go_loopw [0, 1] (fun out y wr => ∃ (m : Nat) (d : List UInt8), m ≤ x ∧ d.length + (enU m).length ≤ 10 ∧ y = .int .u64 m ∧ wr.ownsRow base 5 1 out (l ++ d).length (byteCells (l ++ d)) ∧ Below base w wr ∧ d ++ enU m = enU x) (fun _ y _ => (intOf y).toNat)
  case atStart => exact ⟨x, [], Nat.le_refl _, by simpa [enU] using hlen, rfl, by simpa using hown, Below.refl _ _, rfl⟩
  case round =>
    obtain ⟨m, d, hm, hd, rfl, hown', hbel, henc⟩ := hrel
    have hbs := hbel.size
    have hll : (l ++ d).length ≤ 4398046511204 := by simp; omega
    generalize hL : l ++ d = L at *
    have HL := Lib.hid hL
    have HE := Lib.hid henc
    clear henc hown hL
    by_cases hbig : m < 128
    · have hb : ¬ (128 : Int) ≤ (m : Int) := by omega
      go_wp2_with (at_builtin; refine wp_append_byte _ rfl (.tmp 16) (.tmp 19) rfl base _ L m _ _ rfl (hown'.alloc _) rfl (cell_new1 _ _ _) rfl (by omega) (by omega) (by simp; omega) ?_; intro v' w1 hown2 hgrow)
      have hbel' : Below base w w1 := (hbel.alloc (by omega) _).trans hgrow
      have he : l ++ enU x = L ++ [m.toUInt8] := by rw [← HL.out, ← HE.out, enU, uvarint_small hbig, List.append_assoc]
      go_ret
      exact ⟨v', rfl, by rw [he]; exact hown2, hbel'⟩
    · have hb : (128 : Int) ≤ (m : Int) := by omega
      have hu : enU m = (m % 128 + 128).toUInt8 :: enU (m / 128) := by unfold enU; exact uvarint_big (by omega)
      have hd2 : (d ++ [(m % 128 + 128).toUInt8]).length + (enU (m / 128)).length ≤ 10 := by rw [hu] at hd; simp at hd ⊢; omega
      have HU := Lib.hid hu
      have HD2 := Lib.hid hd2
      clear hu hd2
      go_wp2_with (at_builtin; refine wp_append_byte _ rfl (.tmp 7) (.tmp 12) rfl base _ L (m % 128 + 128) _ _ rfl (hown'.alloc _) rfl (cell_new1 _ _ _) (by omega) (by omega) (by omega) (by simp; omega) ?_; intro v' w1 hown2 hgrow)
      have hbel' : Below base w w1 := (hbel.alloc (by omega) _).trans hgrow
      rw [← HL.out, List.append_assoc] at hown2
      have henc := Lib.hid (show (d ++ [(m % 128 + 128).toUInt8]) ++ enU (m / 128) = enU x by rw [← HE.out, HU.out]; simp)
      go_roundw
      case rel => exact ⟨m / 128, d ++ [(m % 128 + 128).toUInt8], by omega, HD2.out, by go_num, hown2, hbel', henc.out⟩
      case measure => simp [intOf]; omega
theorem OwnPost.trans {base : Nat} {w w1 : World} {l : List UInt8} {en : Ending} {w' : World} (hb : Below base w w1) (h : OwnPost base w1 l en w') : OwnPost base w l en w' := by
  obtain ⟨v, he, ho, hb'⟩ := h
  exact ⟨v, he, ho, hb.trans hb'⟩
theorem putUint_at (v : Value) (l : List UInt8) (x base : Nat) (xi : Int) (w : World) (hown : w.ownsRow base 5 1 v l.length (byteCells l)) (hbase : base ≤ w.heap.size) (hl : l.length ≤ 4398046511104) (hx : x < 18446744073709551616) (hxi : xi = (x : Int)) :
    Calls Try.prog 65 #[v, .int .u64 xi] w (OwnPost base w (l ++ enU x)) := hxi ▸ putUint_any v l x base w hown hbase hl hx
set_option maxRecDepth 100000 in
set_option maxHeartbeats 400000 in
theorem putInt_any (v : Value) (l : List UInt8) (x : Int) (base : Nat) (w : World) (hown : w.ownsRow base 5 1 v l.length (byteCells l)) (hbase : base ≤ w.heap.size) (hl : l.length ≤ 4398046511104) (hx : In64 x) :
    Calls Try.prog 67 #[v, .int .i64 x] w (OwnPost base w (l ++ enI x)) := by
  have hzl := zig_lt hx
  obtain ⟨h1, h2⟩ := hx
  have HC := Lib.hid (fun xi (h : xi = ((zigzag x : Nat) : Int)) => putUint_at v l (zigzag x) base xi w hown hbase hl hzl h)
  by_cases hneg : x < 0
  · have hz : ((zigzag x : Nat) : Int) = 2 * (-(x + 1)) + 1 := by unfold zigzag; rw [if_neg (by omega)]; omega
    have HZ := Lib.hid hz
    clear hz hown
    go_enter Try.func67, Try.ntmps67
    go_wp2_with (go_at_call 65; refine (HC.out _ ?hx).mono ?_; rotate_right; rintro e w1 ⟨v', rfl, ho, hb⟩)
    case hx => rw [HZ.out]
    go_ret
    exact ⟨v', rfl, ho, hb⟩
  · have hz : ((zigzag x : Nat) : Int) = 2 * x := by unfold zigzag; rw [if_pos (by omega)]; omega
    have HZ := Lib.hid hz
    clear hz hown
    go_enter Try.func67, Try.ntmps67
    go_wp2_with (go_at_call 65; refine (HC.out _ ?hy).mono ?_; rotate_right; rintro e w1 ⟨v', rfl, ho, hb⟩)
    case hy => rw [HZ.out]
    go_ret
    exact ⟨v', rfl, ho, hb⟩
theorem u8Size : (Try.prog.info? 5).map (·.size) = some 1 := by kernel_rfl
set_option maxRecDepth 100000 in
set_option maxHeartbeats 400000 in
theorem grown_any (A : Option Addr) (c k : Nat) (bs : List UInt8) (w : World) (hr : Reads w w.heap.size 1 A bs.length (byteCells bs)) (hl : bs.length ≤ 4398046511104) (hk : k ≤ 35184372088832) :
    Calls Try.prog 66 #[.slice A bs.length c, .int .i64 k] w (OwnPost w.heap.size w bs) := by
  obtain ⟨i0, hi, hz0, hz1, hz2⟩ := info_parts u8Info
  obtain ⟨M, hM, hmk⟩ : ∃ M : Array Value, M.size = bs.length + k ∧ ∀ W : World, (Instr.makeSlice 40 (.int .i64 bs.length) (.int .i64 ((bs.length : Int) + (k : Int)))).run Try.prog W = .ok (.slice (some ⟨W.heap.size, 0, none⟩) bs.length (bs.length + k)) (W.alloc (.cells M 5)) := by
    refine ⟨madeCells (Value.cells (.int .u8 0)) ((bs.length + k) * 1), by rw [size_madeCells]; omega, fun W => ?_⟩
    have h := run_make (P := Try.prog) W 40 5 i0 _ Try.underlying40 hi hz0 .i64 .i64 bs.length ((bs.length : Int) + (k : Int)) (by omega) (by omega) (by rw [hz2]; omega) (by omega)
    rw [h, hz1, show ((bs.length : Int) + (k : Int)).toNat = bs.length + k by omega]
    rfl
  have HM := Lib.hid hM
  clear hM
  generalize hn : bs.length = n at *
  obtain ⟨cs, hcs⟩ : ∃ cs, cs = byteCells bs := ⟨_, rfl⟩
  have HCS := Lib.hid hcs
  have HN := Lib.hid hn
  have hcl : cs.length = n := by rw [hcs, byteCells_length, hn]
  have HCL := Lib.hid hcl
  clear hcl
  rw [← hcs] at hr
  clear hcs hn
  go_enter Try.func66, Try.ntmps66
  have hone : ∀ v ∈ cs, v.oneCell' = true := by rw [HCS.out]; exact byteCells_one' bs
  have HONE := Lib.hid hone
  clear hone
  go_wp2_with (refine wpList_copy_splice (o := ⟨some 15, _, _, _, _, _⟩) rfl (.tmp 13) (.tmp 14) 40 40 rfl 5 Try.underlying40 u8Size _ _ _ _ _ _ rfl rfl w.heap.size 0 M.toList 5 ?ch cs ?cn ?cp ?cf HONE.out w.heap.size w ?cb (Nat.le_refl _) ?_; rotate_right; intro w2 HG hb2)
  case ch => rw [Array.toArray_toList]; exact heap_alloc_new w _
  case cp =>
    intro hpos
    obtain ⟨ad, hA, had, hcell⟩ := hr.2 (by rw [HCL.out] at hpos; exact hpos)
    exact ⟨ad, hA, fun j v hv => (World.cell?_alloc_lt _ _ _ (by rw [block_of_add]; exact had)).trans (hcell j v hv)⟩
  case cn => rw [HCL.out]; simp
  case cf => rw [HCL.out]; simp [HM.out]
  case cb => exact (Below.refl _ _).alloc (Nat.le_refl _) _
  have hfin : w2.ownsRow w.heap.size 5 1 (.slice (some ⟨w.heap.size, 0, none⟩) n (n + k)) bs.length (byteCells bs) := by
    rw [HN.out]
    refine ⟨by rw [byteCells_length, Nat.mul_one, HN.out], .inr ⟨w.heap.size, n + k, (splice M.toList 0 cs).toArray, rfl, Nat.le_refl _, HG.out, by omega, by unfold maxLen; omega, ?_, ?_⟩⟩
    · rw [List.size_toArray, length_splice _ _ _ (by rw [HCL.out]; simp [HM.out]), Array.length_toList, HM.out]; omega
    · rw [← HCS.out]
      simp [splice, ← HCL.out]
  go_ret
  exact ⟨_, rfl, hfin, hb2⟩
end Go.Proofs.Yteiolhbjgfkdeaa.W
