/- wire.Checksum; putSum, readSum. -/
import Derived.Test.YteiolhbjgfkdeaaWAppV
import Derived.Deep.QuietTactic
import Derived.BigQuiet
namespace Go.Proofs.Yteiolhbjgfkdeaa.W
set_option linter.unusedVariables false
open Go.RowKit
open Go.Lib (byteCells byteCells_length byteCells_append byteCells_snoc)

def tblN : List Nat := [0, 498536548, 997073096, 651767980, 1994146192, 1802195444, 1303535960, 1342533948, 3988292384, 4027552580, 3604390888, 3412177804, 2607071920, 2262029012, 2685067896, 3183342108]
/-- The package's table lies in block 0. -/
def Tab (w : World) : Prop := 0 < w.heap.size ∧ ∀ j, j < 16 → w.cell? ⟨0, j, none⟩ = some (.int .u32 ((tblN.getD j 0 : Nat) : Int))
theorem Tab.below {w w' : World} {B : Nat} (h : Tab w) (hb : Below B w w') (hB : 0 < B) : Tab w' :=
  ⟨Nat.lt_of_lt_of_le h.1 hb.size, fun j hj => (hb.cell (p := ⟨0, j, none⟩) hB).trans (h.2 j hj)⟩
theorem Tab.on {w w' : World} (h : Tab w) (hb : Below w.heap.size w w') : Tab w' := h.below hb h.1
theorem xor_cancel (x p : BitVec 32) : p ^^^ (x ^^^ p) = x := by
  rw [BitVec.xor_comm x p, ← BitVec.xor_assoc, BitVec.xor_self, BitVec.zero_xor]
theorem bit1_xor (a b : BitVec 32) : bit1 (a ^^^ b) = bit1 a ^^^ bit1 b := by
  unfold bit1
  rw [BitVec.getLsbD_xor, BitVec.ushiftRight_xor_distrib]
  cases ha : a.getLsbD 0 <;> cases hb : b.getLsbD 0 <;> simp [BitVec.xor_assoc]
  · rw [BitVec.xor_comm (b >>> 1) P32]
  · rw [xor_cancel]
theorem bit1_shl (x : BitVec 32) (hx : x.getLsbD 31 = false) : bit1 (x <<< 1) = x := by
  unfold bit1
  rw [if_neg (by simp)]
  apply BitVec.eq_of_getLsbD_eq
  intro i hi
  simp only [BitVec.getLsbD_ushiftRight, BitVec.getLsbD_shiftLeft]
  by_cases h : i = 31
  · subst h; rw [hx]; decide
  · have h2 : 1 + i < 32 := by omega
    simp [h2]
def bit4 (s : BitVec 32) : BitVec 32 := bit1 (bit1 (bit1 (bit1 s)))
theorem bit4_xor (a b : BitVec 32) : bit4 (a ^^^ b) = bit4 a ^^^ bit4 b := by simp only [bit4, bit1_xor]
theorem shl_shl (x : BitVec 32) (k : Nat) : x <<< (k + 1) = (x <<< k) <<< 1 := by
  rw [BitVec.shiftLeft_add]
theorem top_shl (x : BitVec 32) (k : Nat) (_hk : k ≤ 31) (hx : x.getLsbD (31 - k) = false) : (x <<< k).getLsbD 31 = false := by
  rw [BitVec.getLsbD_shiftLeft, hx, Bool.and_false]
theorem bit4_shl (x : BitVec 32) (hx : ∀ i, 28 ≤ i → x.getLsbD i = false) : bit4 (x <<< 4) = x := by
  unfold bit4
  rw [shl_shl x 3, bit1_shl _ (top_shl x 3 (by omega) (hx 28 (by omega))), shl_shl x 2, bit1_shl _ (top_shl x 2 (by omega) (hx 29 (by omega))), shl_shl x 1, bit1_shl _ (top_shl x 1 (by omega) (hx 30 (by omega))), bit1_shl _ (hx 31 (by omega))]
theorem bit4_low : ∀ n : Fin 16, bit4 (BitVec.ofNat 32 n.val) = BitVec.ofNat 32 (tblN.getD n.val 0) := by decide +kernel
theorem split4 (s : BitVec 32) : s = ((s >>> 4) <<< 4) ^^^ BitVec.ofNat 32 (s.toNat % 16) := by
  apply BitVec.eq_of_getLsbD_eq
  intro i hi
  rw [BitVec.getLsbD_xor, BitVec.getLsbD_shiftLeft, BitVec.getLsbD_ushiftRight, BitVec.getLsbD_ofNat, show (16 : Nat) = 2 ^ 4 by decide, Nat.testBit_mod_two_pow]
  by_cases h : i < 4
  · simp [h, hi, BitVec.getLsbD]
  · simp [h, hi, show 4 + (i - 4) = i by omega]
theorem nibble (s : BitVec 32) : bit4 s = (s >>> 4) ^^^ BitVec.ofNat 32 (tblN.getD (s.toNat % 16) 0) := by
  conv => lhs; rw [split4 s]
  rw [bit4_xor, bit4_shl _ (fun i hi => by rw [BitVec.getLsbD_ushiftRight]; exact BitVec.getLsbD_of_ge _ _ (by omega)), bit4_low ⟨s.toNat % 16, by omega⟩]
theorem xor_walk (a b : BitVec 32) : bits .xor .u32 (a.toNat : Int) (b.toNat : Int) = (((a ^^^ b).toNat : Nat) : Int) := by
  rw [u32_xor_nat _ _ a.isLt b.isLt, BitVec.toNat_xor]
theorem not_walk (s : BitVec 32) : bits .xor .u32 IntKind.u32.max (s.toNat : Int) = (((~~~ s).toNat : Nat) : Int) := by
  have h := xor_walk (BitVec.allOnes 32) s
  rw [← BitVec.not_def] at h
  exact h
theorem byte1_eq (s : BitVec 32) (z : UInt8) : byte1 s z = bit4 (bit4 (s ^^^ BitVec.ofNat 32 z.toNat)) := rfl
theorem tbl_lt : ∀ n : Fin 16, tblN.getD n.val 0 < 4294967296 := by decide
theorem step_walk (y : BitVec 32) : bits .xor .u32 ((y.toNat : Int) / 16) ((tblN.getD (y.toNat % 16) 0 : Nat) : Int) = (((bit4 y).toNat : Nat) : Int) := by
  have hy := y.isLt
  have ht : tblN.getD (y.toNat % 16) 0 < 4294967296 := tbl_lt ⟨y.toNat % 16, by omega⟩
  have e : ((y.toNat : Int) / 16) = ((y.toNat / 16 : Nat) : Int) := by omega
  rw [e, u32_xor_nat _ _ (by omega) ht, nibble y, BitVec.toNat_xor, BitVec.toNat_ushiftRight, BitVec.toNat_ofNat, Nat.mod_eq_of_lt (show tblN.getD (y.toNat % 16) 0 < 2 ^ 32 from ht), Nat.shiftRight_eq_div_pow]
/-- Bytes appended to a row of the call's own, wherever they lie. -/
theorem wp_append_bytes {ops : Array Oper} {rest : List Oper} {o : Oper} {a : Act} {Q : Exit → Act → World → Prop} (W : World) (hgd : o.guard = none) (s x : Operand)
    (ho : o.op = .call { callee := .builtin .append, args := #[s, x], argTypes := #[40, 40] }) (base : Nat) (v : Value) (l news : List UInt8) (B m c : Nat) (A : Option Addr) (hs : a.eval s = v)
    (hown : W.ownsRow base 5 1 v l.length (byteCells l)) (hx : a.eval x = .slice A m c) (hr : Reads W B 1 A m (byteCells news))
    (hl : l.length + news.length ≤ 8796093022208) (hbase : base ≤ W.heap.size)
    (h : ∀ v' w', w'.ownsRow base 5 1 v' (l ++ news).length (byteCells (l ++ news)) → Below base W w' → wpList Try.prog ops Q rest (a.put o.dst v') w') : wpList Try.prog ops Q (o :: rest) a W := by
  obtain ⟨i0, hi, hz0, hz1, hz2⟩ := info_parts u8Info
  have hm := hr.len
  refine wpList_append_any W hgd s x 40 ho base 5 i0 _ 1 1 Try.underlying40 hi hz0 hz1 hz2 rfl (by decide) v _ _ hs hown B A m c _ hx hr (byteCells_one' _) ?_ ?_ hbase ?_
  · unfold maxLen; omega
  · omega
  · intro v' w' h1 h2 _
    refine h v' w' ?_ ((Below.refl _ _).grown h2 hbase fun q hq => (hown.lt q hq).1)
    rw [byteCells_append, List.length_append, ← hm]
    exact h1
theorem reads_new (W : World) (cs : Array Value) (bs : List UInt8) (h : cs.toList = byteCells bs) : Reads (W.alloc (.cells cs 5)) (W.heap.size + 1) 1 (some ⟨W.heap.size, 0, none⟩) bs.length (byteCells bs) := by
  refine ⟨by rw [byteCells_length, Nat.mul_one], fun _ => ⟨_, rfl, Nat.lt_succ_self _, fun j u hu => ?_⟩⟩
  have e : (⟨W.heap.size, 0, none⟩ : Addr).add j = ⟨W.heap.size, j, none⟩ := by unfold Addr.add; split <;> simp_all
  rw [e, World.cell?_alloc_new W cs 5 j, ← hu, ← h]
  simp
theorem or32 {a x k : Nat} (ha : a < 2 ^ k) (hs : a + x * 2 ^ k < 4294967296) : bits .or .u32 (a : Int) ((x * 2 ^ k : Nat) : Int) = ((a + x * 2 ^ k : Nat) : Int) := by
  rw [u32_or_nat _ _ (by omega) (by omega)]
  congr 1
  rw [Nat.or_comm, Nat.mul_comm, ← Nat.two_pow_add_eq_or_of_lt ha, Nat.add_comm]
theorem or4 {a b c d : Nat} (ha : a < 256) (hb : b < 256) (hc : c < 256) (hd : d < 256) :
    bits .or .u32 (bits .or .u32 (bits .or .u32 (a : Int) ((b : Int) * 256)) ((c : Int) * 65536)) ((d : Int) * 16777216) = ((a + 256 * b + 65536 * c + 16777216 * d : Nat) : Int) := by
  have e1 : ((b : Int) * 256) = ((b * 2 ^ 8 : Nat) : Int) := by omega
  have e2 : ((c : Int) * 65536) = ((c * 2 ^ 16 : Nat) : Int) := by omega
  have e3 : ((d : Int) * 16777216) = ((d * 2 ^ 24 : Nat) : Int) := by omega
  rw [e1, or32 (k := 8) (by omega) (by omega), e2, or32 (k := 16) (by omega) (by omega), e3, or32 (k := 24) (by omega) (by omega)]
  omega
/-- Four bytes as a number, the least significant first. -/
def rd4 (b : List UInt8) : Nat := (b.getD 0 0).toNat + 256 * (b.getD 1 0).toNat + 65536 * (b.getD 2 0).toNat + 16777216 * (b.getD 3 0).toNat
end Go.Proofs.Yteiolhbjgfkdeaa.W
