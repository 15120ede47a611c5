/- wire.Checksum; putSum, readSum. -/
import Derived.Test.YtklihjgmmliejaaDoorWAppV
import Derived.Deep.QuietTactic
import Derived.BigQuiet
namespace Go.Proofs.YtklihjgmmliejaaDoor.W
set_option linter.unusedVariables false
open Go.RowKit
open Go.Lib (byteCells byteCells_length byteCells_append byteCells_snoc)

def tblN : List Nat := [0, 498536548, 997073096, 651767980, 1994146192, 1802195444, 1303535960, 1342533948, 3988292384, 4027552580, 3604390888, 3412177804, 2607071920, 2262029012, 2685067896, 3183342108]
/-- The package's table lies in block 0. -/
def Tab (w : World) : Prop := 0 < w.heap.size ∧ ∀ j, j < 16 → w.cell? ⟨0, j, none⟩ = some (.int .u32 ((tblN.getD j 0 : Nat) : Int))
theorem Tab.below {w w' : World} {B : Nat} (h : Tab w) (hb : Below B w w') (hB : 0 < B) : Tab w' :=
  ⟨Nat.lt_of_lt_of_le h.1 hb.size, fun j hj => (hb.cell (p := ⟨0, j, none⟩) hB).trans (h.2 j hj)⟩
theorem Tab.on {w w' : World} (h : Tab w) (hb : Below w.heap.size w w') : Tab w' := h.below hb h.1

theorem xor_cancel (x p : BitVec 32) : p ^^^ (x ^^^ p) = x := by
  rw [BitVec.xor_comm x p, ← BitVec.xor_assoc, BitVec.xor_self, BitVec.zero_xor]
theorem bit1_xor (a b : BitVec 32) : bit1 (a ^^^ b) = bit1 a ^^^ bit1 b := by
  unfold bit1
  rw [BitVec.getLsbD_xor, BitVec.ushiftRight_xor_distrib]
  cases ha : a.getLsbD 0 <;> cases hb : b.getLsbD 0 <;> simp [BitVec.xor_assoc]
  · rw [BitVec.xor_comm (b >>> 1) P32]
  · rw [xor_cancel]
theorem bit1_shl (x : BitVec 32) (hx : x.getLsbD 31 = false) : bit1 (x <<< 1) = x := by
  unfold bit1
  rw [if_neg (by simp)]
  apply BitVec.eq_of_getLsbD_eq
  intro i hi
  simp only [BitVec.getLsbD_ushiftRight, BitVec.getLsbD_shiftLeft]
  by_cases h : i = 31
  · subst h; rw [hx]; decide
  · have h2 : 1 + i < 32 := by omega
    simp [h2]
def bit4 (s : BitVec 32) : BitVec 32 := bit1 (bit1 (bit1 (bit1 s)))
theorem bit4_xor (a b : BitVec 32) : bit4 (a ^^^ b) = bit4 a ^^^ bit4 b := by simp only [bit4, bit1_xor]
theorem shl_shl (x : BitVec 32) (k : Nat) : x <<< (k + 1) = (x <<< k) <<< 1 := by
  rw [BitVec.shiftLeft_add]
theorem top_shl (x : BitVec 32) (k : Nat) (_hk : k ≤ 31) (hx : x.getLsbD (31 - k) = false) : (x <<< k).getLsbD 31 = false := by
  rw [BitVec.getLsbD_shiftLeft, hx, Bool.and_false]
theorem bit4_shl (x : BitVec 32) (hx : ∀ i, 28 ≤ i → x.getLsbD i = false) : bit4 (x <<< 4) = x := by
  unfold bit4
  rw [shl_shl x 3, bit1_shl _ (top_shl x 3 (by omega) (hx 28 (by omega))), shl_shl x 2, bit1_shl _ (top_shl x 2 (by omega) (hx 29 (by omega))), shl_shl x 1, bit1_shl _ (top_shl x 1 (by omega) (hx 30 (by omega))), bit1_shl _ (hx 31 (by omega))]
theorem bit4_low : ∀ n : Fin 16, bit4 (BitVec.ofNat 32 n.val) = BitVec.ofNat 32 (tblN.getD n.val 0) := by decide +kernel
theorem split4 (s : BitVec 32) : s = ((s >>> 4) <<< 4) ^^^ BitVec.ofNat 32 (s.toNat % 16) := by
  apply BitVec.eq_of_getLsbD_eq
  intro i hi
  rw [BitVec.getLsbD_xor, BitVec.getLsbD_shiftLeft, BitVec.getLsbD_ushiftRight, BitVec.getLsbD_ofNat, show (16 : Nat) = 2 ^ 4 by decide, Nat.testBit_mod_two_pow]
  by_cases h : i < 4
  · simp [h, hi, BitVec.getLsbD]
  · simp [h, hi, show 4 + (i - 4) = i by omega]
theorem nibble (s : BitVec 32) : bit4 s = (s >>> 4) ^^^ BitVec.ofNat 32 (tblN.getD (s.toNat % 16) 0) := by
  conv => lhs; rw [split4 s]
  rw [bit4_xor, bit4_shl _ (fun i hi => by rw [BitVec.getLsbD_ushiftRight]; exact BitVec.getLsbD_of_ge _ _ (by omega)), bit4_low ⟨s.toNat % 16, by omega⟩]

theorem xor_walk (a b : BitVec 32) : bits .xor .u32 (a.toNat : Int) (b.toNat : Int) = (((a ^^^ b).toNat : Nat) : Int) := by
  rw [u32_xor_nat _ _ a.isLt b.isLt, BitVec.toNat_xor]
theorem not_walk (s : BitVec 32) : bits .xor .u32 IntKind.u32.max (s.toNat : Int) = (((~~~ s).toNat : Nat) : Int) := by
  have h := xor_walk (BitVec.allOnes 32) s
  rw [← BitVec.not_def] at h
  exact h
theorem byte1_eq (s : BitVec 32) (z : UInt8) : byte1 s z = bit4 (bit4 (s ^^^ BitVec.ofNat 32 z.toNat)) := rfl
theorem tbl_lt : ∀ n : Fin 16, tblN.getD n.val 0 < 4294967296 := by decide
theorem step_walk (y : BitVec 32) : bits .xor .u32 ((y.toNat : Int) / 16) ((tblN.getD (y.toNat % 16) 0 : Nat) : Int) = (((bit4 y).toNat : Nat) : Int) := by
  have hy := y.isLt
  have ht : tblN.getD (y.toNat % 16) 0 < 4294967296 := tbl_lt ⟨y.toNat % 16, by omega⟩
  have e : ((y.toNat : Int) / 16) = ((y.toNat / 16 : Nat) : Int) := by omega
  rw [e, u32_xor_nat _ _ (by omega) ht, nibble y, BitVec.toNat_xor, BitVec.toNat_ushiftRight, BitVec.toNat_ofNat, Nat.mod_eq_of_lt (show tblN.getD (y.toNat % 16) 0 < 2 ^ 32 from ht), Nat.shiftRight_eq_div_pow]

set_option maxRecDepth 100000 in
set_option maxHeartbeats 400000 in
theorem checksum_any (A : Option Addr) (c B : Nat) (bs : List UInt8) (w : World) (hr : Reads w B 1 A bs.length (byteCells bs)) (hn : bs.length ≤ 4398046521104) (ht : Tab w) :
    Calls Tryd.prog 51 #[.slice A bs.length c] w fun e w' => e = .returned (.int .u32 ((crc bs).toNat : Int)) ∧ w = w' := by
  have HT := Lib.hid ht.2
  clear ht
  go_enter Tryd.func51, Tryd.ntmps51
  go_wp2
  go_loop [3, 8] (fun v i => ∃ (k : Nat) (s : BitVec 32), k ≤ bs.length ∧ i = .int .i64 k ∧ v = .int .u32 (s.toNat : Int) ∧ crcFrom s (bs.drop k) = crcFrom (BitVec.allOnes 32) bs) (fun _ i => bs.length - (intOf i).toNat)
  case atStart => exact ⟨0, BitVec.allOnes 32, Nat.zero_le _, rfl, by simp, rfl⟩
  case round =>
    obtain ⟨k, s, hk, rfl, rfl, hres⟩ := hrel
    by_cases hlt : k < bs.length
    · obtain ⟨ad, z, rfl, _, hc, hd, _, hz⟩ := hr.byte hlt
      obtain ⟨y, hy⟩ : ∃ y, y = s ^^^ BitVec.ofNat 32 z.toNat := ⟨_, rfl⟩
      have hx1 : bits .xor .u32 (s.toNat : Int) (z.toNat : Int) = (y.toNat : Int) := by
        have := xor_walk s (BitVec.ofNat 32 z.toNat)
        rw [BitVec.toNat_ofNat, Nat.mod_eq_of_lt (by omega)] at this
        rw [this, hy]
      have hs2 := step_walk y
      have hs3 := step_walk (bit4 y)
      have hc1 := HT.out (y.toNat % 16) (by omega)
      have hc2 := HT.out ((bit4 y).toNat % 16) (by omega)
      have hstep : crcFrom (bit4 (bit4 y)) (bs.drop (k + 1)) = crcFrom (BitVec.allOnes 32) bs := by
        rw [← hres, hd, hy]; rfl
      have HS := Lib.hid hstep
      generalize tblN.getD (y.toNat % 16) 0 = t1 at *
      generalize tblN.getD ((bit4 y).toNat % 16) 0 = t2 at *
      generalize bit4 (bit4 y) = y3 at *
      generalize bit4 y = y2 at *
      have b1 := y.isLt
      have b2 := y2.isLt
      have b3 := y3.isLt
      have b0 := s.isLt
      clear hstep hres hd hy
      go_wp2
      go_round
      case rel => exact ⟨k + 1, y3, by omega, by go_num, rfl, HS.out⟩
      case measure => simp [intOf]; omega
    · have b0 := s.isLt
      have HR := Lib.hid (show crc bs = ~~~ s by rw [crc, ← hres, List.drop_eq_nil_of_le (by omega)]; rfl)
      clear hres
      go_wp2
      go_ret
      rw [HR.out]
      exact ⟨congrArg (fun n => Ending.returned (.int .u32 n)) (not_walk s), rfl⟩
/-- Bytes appended to a row of the call's own, wherever they lie. -/
theorem wp_append_bytes {ops : Array Oper} {rest : List Oper} {o : Oper} {a : Act} {Q : Exit → Act → World → Prop} (W : World) (hgd : o.guard = none) (s x : Operand)
    (ho : o.op = .call { callee := .builtin .append, args := #[s, x], argTypes := #[22, 22] }) (base : Nat) (v : Value) (l news : List UInt8) (B m c : Nat) (A : Option Addr) (hs : a.eval s = v)
    (hown : W.ownsRow base 5 1 v l.length (byteCells l)) (hx : a.eval x = .slice A m c) (hr : Reads W B 1 A m (byteCells news))
    (hl : l.length + news.length ≤ 8796093022208) (hbase : base ≤ W.heap.size)
    (h : ∀ v' w', w'.ownsRow base 5 1 v' (l ++ news).length (byteCells (l ++ news)) → Below base W w' → wpList Tryd.prog ops Q rest (a.put o.dst v') w') : wpList Tryd.prog ops Q (o :: rest) a W := by
  obtain ⟨i0, hi, hz0, hz1, hz2⟩ := info_parts u8Info
  have hm := hr.len
  refine wpList_append_any W hgd s x 22 ho base 5 i0 _ 1 1 Tryd.underlying22 hi hz0 hz1 hz2 rfl (by decide) v _ _ hs hown B A m c _ hx hr (byteCells_one' _) ?_ ?_ hbase ?_
  · unfold maxLen; omega
  · omega
  · intro v' w' h1 h2 _
    refine h v' w' ?_ ((Below.refl _ _).grown h2 hbase fun q hq => (hown.lt q hq).1)
    rw [byteCells_append, List.length_append, ← hm]
    exact h1
theorem reads_new (W : World) (cs : Array Value) (bs : List UInt8) (h : cs.toList = byteCells bs) : Reads (W.alloc (.cells cs 5)) (W.heap.size + 1) 1 (some ⟨W.heap.size, 0, none⟩) bs.length (byteCells bs) := by
  refine ⟨by rw [byteCells_length, Nat.mul_one], fun _ => ⟨_, rfl, Nat.lt_succ_self _, fun j u hu => ?_⟩⟩
  have e : (⟨W.heap.size, 0, none⟩ : Addr).add j = ⟨W.heap.size, j, none⟩ := by unfold Addr.add; split <;> simp_all
  rw [e, World.cell?_alloc_new W cs 5 j, ← hu, ← h]
  simp

set_option maxRecDepth 100000 in
set_option maxHeartbeats 400000 in
theorem putSum_any (v : Value) (l : List UInt8) (s : BitVec 32) (base : Nat) (w : World) (hown : w.ownsRow base 5 1 v l.length (byteCells l)) (hbase : base ≤ w.heap.size) (hl : l.length ≤ 4398046531104) :
    Calls Tryd.prog 68 #[v, .int .u32 (s.toNat : Int)] w (OwnPost base w (l ++ low4 s)) := by
  have hs := s.isLt
  have HB := Lib.hid (show #[Value.int .u8 ((s.toNat : Int) % 256), .int .u8 ((s.toNat : Int) / 256 % 256), .int .u8 ((s.toNat : Int) / 65536 % 256), .int .u8 ((s.toNat : Int) / 16777216)].toList = byteCells (low4 s) by
    unfold low4 byteCells
    simp only [List.map_cons, List.map_nil]
    rw [u8n (a := s.toNat % 256) (by omega), u8n (a := s.toNat / 256 % 256) (by omega), u8n (a := s.toNat / 65536 % 256) (by omega), u8n (a := s.toNat / 16777216 % 256) (by omega), Nat.mod_eq_of_lt (a := s.toNat / 16777216) (by omega)]
    simp)
  have hl4 : l.length + (low4 s).length ≤ 8796093022208 := by show l.length + 4 ≤ _; omega
  go_enter Tryd.func68, Tryd.ntmps68
  go_wp2_with (at_builtin; refine wp_append_bytes _ rfl (.tmp 5) (.tmp 17) rfl base v l (low4 s) _ _ _ _ rfl (hown.alloc _) rfl (reads_new _ _ (low4 s) HB.out) hl4 (by simp; omega) ?_; intro v2 w2 ho2 hb2)
  go_ret
  exact ⟨_, rfl, ho2, ((Below.refl _ _).alloc hbase _).trans hb2⟩

theorem or32 {a x k : Nat} (ha : a < 2 ^ k) (hs : a + x * 2 ^ k < 4294967296) : bits .or .u32 (a : Int) ((x * 2 ^ k : Nat) : Int) = ((a + x * 2 ^ k : Nat) : Int) := by
  rw [u32_or_nat _ _ (by omega) (by omega)]
  congr 1
  rw [Nat.or_comm, Nat.mul_comm, ← Nat.two_pow_add_eq_or_of_lt ha, Nat.add_comm]
theorem or4 {a b c d : Nat} (ha : a < 256) (hb : b < 256) (hc : c < 256) (hd : d < 256) :
    bits .or .u32 (bits .or .u32 (bits .or .u32 (a : Int) ((b : Int) * 256)) ((c : Int) * 65536)) ((d : Int) * 16777216) = ((a + 256 * b + 65536 * c + 16777216 * d : Nat) : Int) := by
  have e1 : ((b : Int) * 256) = ((b * 2 ^ 8 : Nat) : Int) := by omega
  have e2 : ((c : Int) * 65536) = ((c * 2 ^ 16 : Nat) : Int) := by omega
  have e3 : ((d : Int) * 16777216) = ((d * 2 ^ 24 : Nat) : Int) := by omega
  rw [e1, or32 (k := 8) (by omega) (by omega), e2, or32 (k := 16) (by omega) (by omega), e3, or32 (k := 24) (by omega) (by omega)]
  omega
/-- Four bytes as a number, the least significant first. -/
def rd4 (b : List UInt8) : Nat := (b.getD 0 0).toNat + 256 * (b.getD 1 0).toNat + 65536 * (b.getD 2 0).toNat + 16777216 * (b.getD 3 0).toNat

set_option maxRecDepth 100000 in
set_option maxHeartbeats 400000 in
theorem readSum_any (A : Option Addr) (c n B : Nat) (bs : List UInt8) (w : World) (hr : Reads w B 1 A n (byteCells bs)) (hn : 4 ≤ n) :
    Calls Tryd.prog 70 #[.slice A n c] w fun e w' => e = .returned (.int .u32 ((rd4 bs : Nat) : Int)) ∧ ∃ k, w' = w.drewN k := by
  have hl := hr.len
  obtain ⟨ad, z0, rfl, _, c0, _, e0, b0⟩ := hr.byte (k := 0) (by omega)
  obtain ⟨ad', z1, hA, _, c1, _, e1, b1⟩ := hr.byte (k := 1) (by omega)
  obtain rfl := Option.some.inj hA
  obtain ⟨ad', z2, hA, _, c2, _, e2, b2⟩ := hr.byte (k := 2) (by omega)
  obtain rfl := Option.some.inj hA
  obtain ⟨ad', z3, hA, _, c3, _, e3, b3⟩ := hr.byte (k := 3) (by omega)
  obtain rfl := Option.some.inj hA
  have HR := Lib.hid (show rd4 bs = z0.toNat + 256 * z1.toNat + 65536 * z2.toNat + 16777216 * z3.toNat by simp [rd4, List.getD, e0, e1, e2, e3])
  have c0' : w.cell? ad = some (.int .u8 (z0.toNat : Int)) := by simpa [Addr.add] using c0
  have c1' : w.cell? ⟨ad.block, ad.off + 1, none⟩ = some (.int .u8 (z1.toNat : Int)) := by simpa [Addr.add] using c1
  have c2' : w.cell? ⟨ad.block, ad.off + 2, none⟩ = some (.int .u8 (z2.toNat : Int)) := by simpa [Addr.add] using c2
  have c3' : w.cell? ⟨ad.block, ad.off + 3, none⟩ = some (.int .u8 (z3.toNat : Int)) := by simpa [Addr.add] using c3
  have hn0 : 0 < n := by omega
  have hn1 : (1 : Int) < (n : Int) := by omega
  have hm1 : 1 < n := by omega
  have hm2 : 2 < n := by omega
  have hm3 : 3 < n := by omega
  have hn2 : (2 : Int) < (n : Int) := by omega
  have hn3 : (3 : Int) < (n : Int) := by omega
  clear e0 e1 e2 e3 c0 hl
  go_enter Tryd.func70, Tryd.ntmps70
  go_wp2_with fail
  go_quiet (fail)
  go_wp2_with fail
  go_ret
  rw [HR.out]
  exact ⟨congrArg (fun x => Ending.returned (.int .u32 x)) (or4 b0 b1 b2 b3), _, rfl⟩
end Go.Proofs.YtklihjgmmliejaaDoor.W
