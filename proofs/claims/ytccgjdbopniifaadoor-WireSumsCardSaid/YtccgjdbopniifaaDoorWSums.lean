/- The walk of WireSums: it returns true, whatever comes in. -/
import Derived.Test.YtccgjdbopniifaaDoorWRound
import Derived.Test.YtccgjdbopniifaaDoorWMath5
import Derived.Deep.RegionHeld3
import Derived.Deep.OwnRows
namespace Go.Proofs.YtccgjdbopniifaaDoor.W
set_option linter.unusedVariables false
open Go.RowKit
open Go.Lib (byteCells byteCells_length byteCells_append byteCells_snoc)

theorem crcFrom_zip : ∀ (a b : List UInt8) (s t : BitVec 32), a.length = b.length → crcFrom (s ^^^ t) (List.zipWith (· ^^^ ·) a b) = crcFrom s a ^^^ crcFrom t b
  | [], [], s, t, _ => rfl
  | x :: a, y :: b, s, t, h => by
    rw [List.zipWith_cons_cons, crcFrom_cons, crcFrom_cons, crcFrom_cons]
    have e : byte1 (s ^^^ t) (x ^^^ y) = byte1 s x ^^^ byte1 t y := by
      have e1 : BitVec.ofNat 32 (x ^^^ y).toNat = BitVec.ofNat 32 x.toNat ^^^ BitVec.ofNat 32 y.toNat := by
        rw [UInt8.toNat_xor]
        apply BitVec.eq_of_getLsbD_eq
        intro i hi
        simp [hi]
      unfold byte1
      rw [bits8_T, bits8_T, bits8_T, e1, ← T_xor]
      congr 1
      rw [BitVec.xor_assoc, BitVec.xor_assoc]
      congr 1
      rw [← BitVec.xor_assoc, ← BitVec.xor_assoc, BitVec.xor_comm t]
    rw [e]
    exact crcFrom_zip a b _ _ (by simpa using h)
  | [], y :: b, s, t, h => by simp at h
  | x :: a, [], s, t, h => by simp at h
theorem zip_zero (a : List UInt8) : List.zipWith (· ^^^ ·) a (List.replicate a.length 0) = a := by
  induction a with
  | nil => rfl
  | cons x a ih => rw [List.length_cons, List.replicate_succ, List.zipWith_cons_cons, ih]; simp
theorem crc_zip (a b : List UInt8) (h : a.length = b.length) : crc (List.zipWith (· ^^^ ·) a b) = (crc a ^^^ crc b) ^^^ crc (List.replicate a.length 0) := by
  have h1 := crcFrom_zip (List.zipWith (· ^^^ ·) a b) (List.replicate a.length 0) (BitVec.allOnes 32 ^^^ BitVec.allOnes 32) (BitVec.allOnes 32) (by simp; omega)
  have h2 := zip_zero (List.zipWith (· ^^^ ·) a b)
  have h3 : (List.zipWith (· ^^^ ·) a b).length = a.length := by simp; omega
  rw [h3] at h2
  rw [h2, crcFrom_zip a b (BitVec.allOnes 32) (BitVec.allOnes 32) h, BitVec.xor_self, BitVec.zero_xor] at h1
  unfold crc
  rw [h1]
  apply BitVec.eq_of_getLsbD_eq
  intro i hi
  simp [hi]
/-- The first j places of the difference. -/
def xorTo (a b : List UInt8) (j : Nat) : List UInt8 := (List.range a.length).map fun i => if i < j then a.getD i 0 ^^^ b.getD i 0 else 0
theorem xorTo_len (a b : List UInt8) (j : Nat) : (xorTo a b j).length = a.length := by simp [xorTo]
theorem xorTo_zero (a b : List UInt8) : xorTo a b 0 = List.replicate a.length 0 := by
  apply List.ext_getElem (by simp [xorTo_len])
  intro i h1 h2
  simp [xorTo]
theorem xorTo_all (a b : List UInt8) (h : a.length ≤ b.length) : xorTo a b a.length = List.zipWith (· ^^^ ·) a (b.take a.length) := by
  apply List.ext_getElem (by simp [xorTo_len]; omega)
  intro i h1 h2
  rw [xorTo_len] at h1
  have h3 : i < b.length := by omega
  simp [xorTo, h1, h3]
theorem xorTo_set (a b : List UInt8) {j : Nat} (hj : j < a.length) : (byteCells (xorTo a b j)).set j (.int .u8 ((a.getD j 0 ^^^ b.getD j 0).toNat : Int)) = byteCells (xorTo a b (j + 1)) := by
  have e : xorTo a b (j + 1) = (xorTo a b j).set j (a.getD j 0 ^^^ b.getD j 0) := by
    apply List.ext_getElem (by simp [xorTo_len])
    intro i h1 h2
    rw [xorTo_len] at h1
    by_cases h : j = i
    · subst h; simp [xorTo]
    · rw [List.getElem_set_ne h]
      have e : (i < j + 1) = (i < j) := by apply propext; omega
      simp [xorTo, e]
  rw [e]
  simp [byteCells, List.map_set]

set_option maxRecDepth 100000 in
set_option maxHeartbeats 1000000 in
theorem sums_no (n m : Nat) (A B : Option Addr) (c d : Nat) (w : World) (ht : Tab w) (hbad : 500 < n ∨ m < n ∨ 500 < m) (hn : n ≤ 9223372036854775807) (hm : m ≤ 9223372036854775807) :
    Calls Tryd.prog 11 #[.slice A n c, .slice B m d] w fun e w' => e = .returned (.bool true) ∧ Below w.heap.size w w' := by
  have CA := Lib.hid (awake_any _ ht)
  clear ht
  by_cases h1 : 500 < n
  · have f1 : (500 : Int) < (n : Int) := by omega
    clear hbad
    go_enter Tryd.func11, Tryd.ntmps11
    go_wp2_with (go_at_call 13; refine CA.out.mono ?_; rintro e w1 ⟨rfl, hq1⟩)
    go_ret
    exact ⟨rfl, hq1⟩
  have f1 : ¬ (500 : Int) < (n : Int) := by omega
  by_cases h2 : m < n
  · have f2 : (m : Int) < (n : Int) := by omega
    clear hbad h1
    go_enter Tryd.func11, Tryd.ntmps11
    go_wp2_with (go_at_call 13; refine CA.out.mono ?_; rintro e w1 ⟨rfl, hq1⟩)
    go_ret
    exact ⟨rfl, hq1⟩
  have f2 : ¬ (m : Int) < (n : Int) := by omega
  have f3 : (500 : Int) < (m : Int) := by omega
  clear hbad h1 h2
  go_enter Tryd.func11, Tryd.ntmps11
  go_wp2_with (go_at_call 13; refine CA.out.mono ?_; rintro e w1 ⟨rfl, hq1⟩)
  all_goals (go_ret; exact ⟨rfl, hq1⟩)

theorem slice_to0 {w : World} {B n c k : Nat} {A : Option Addr} {bs : List UInt8} (h : Reads w B 1 A n (byteCells bs)) (hn : n ≤ c) (hk : k ≤ n) :
    ∀ (W : World), (Instr.slice 22 (.slice A n c) none (some (.int .i64 (k : Int))) none).run Tryd.prog W = .ok (.slice A k c) W := by
  intro W
  rw [run_slice_h W 22 A n c (by simp [go_sem]) .i64 k (by omega) (by omega)]
  simp [go_sem]
theorem xor8 (a b : UInt8) : bits .xor .u8 (a.toNat : Int) (b.toNat : Int) = ((a ^^^ b).toNat : Int) := by
  rw [u8_xor_nat _ _ a.toNat_lt b.toNat_lt, UInt8.toNat_xor]
set_option maxRecDepth 100000 in
set_option maxHeartbeats 2000000 in
theorem sums_yes (n m : Nat) (A B : Option Addr) (c d : Nat) (a b : List UInt8) (w : World) (ht : Tab w) (ha : Reads w w.heap.size 1 A n (byteCells a)) (hb : Reads w w.heap.size 1 B m (byteCells b)) (hmd : m ≤ d)
    (hn : n ≤ 500) (hnm : n ≤ m) (hm : m ≤ 500) :
    Calls Tryd.prog 11 #[.slice A n c, .slice B m d] w fun e w' => e = .returned (.bool true) ∧ Below w.heap.size w w' := by
  have CA := Lib.hid (awake_any _ ht)
  obtain ⟨i0, hi, hz0, hz1, hz2⟩ := info_parts u8Info
  have hla := ha.len
  have hlb := hb.len
  have hZ : ∀ x : List UInt8, x = List.replicate n 0 → (madeCells #[.int .u8 0] n).toList = byteCells x := by
    intro x hx
    subst hx
    rw [toList_madeCells_one]
    simp [byteCells]
  obtain ⟨M, hM, hMs, hmk⟩ : ∃ M : Array Value, M.toList = byteCells (List.replicate n 0) ∧ M.size = n ∧ ∀ W : World, (Instr.makeSlice 22 (.int .i64 n) (.int .i64 n)).run Tryd.prog W = .ok (.slice (some ⟨W.heap.size, 0, none⟩) n n) (W.alloc (.cells M 5)) := by
    refine ⟨madeCells #[.int .u8 0] n, hZ _ rfl, size_madeCells _ _, fun W => ?_⟩
    exact run_make_row 22 5 i0 _ Tryd.underlying22 hi hz0 hz1 rfl .i64 .i64 n (by rw [hz2]; omega) (by omega) W
  have HA := Lib.hid ha
  have HB := Lib.hid hb
  have HLA := Lib.hid hla
  have HLB := Lib.hid hlb
  have HM := Lib.hid hM
  have HMS := Lib.hid hMs
  have HT := Lib.hid ht
  have OWN := Lib.hid (fun (W : World) (hW : w.heap.size ≤ W.heap.size) => (show (W.alloc (.cells M 5)).ownsRow w.heap.size 5 1 (.slice (some ⟨W.heap.size, 0, none⟩) n n) n (byteCells (List.replicate n 0)) from
    ⟨by rw [byteCells_length, List.length_replicate, Nat.mul_one], .inr ⟨W.heap.size, n, M, rfl, hW, heap_alloc_new W _, Nat.le_refl _, by unfold maxLen; omega, by rw [hMs]; omega, by rw [hM, List.take_of_length_le (by rw [byteCells_length, List.length_replicate]; omega)]⟩⟩))
  have f1 : ¬ (500 : Int) < (n : Int) := by omega
  have f2 : ¬ (m : Int) < (n : Int) := by omega
  have f3 : ¬ (500 : Int) < (m : Int) := by omega
  clear ha hb hla hlb hM hMs ht hZ hi hz0 hz1 hz2
  go_enter Tryd.func11, Tryd.ntmps11
  go_wp2_with (go_at_call 13; refine CA.out.mono ?_; rintro e w1 ⟨rfl, hq1⟩)
  have ho1 := OWN.out w1 hq1.size
  have hb1 := hq1.alloc hq1.size (.cells M 5)
  have hg1 := hq1.size
  generalize w1.heap.size = g at *
  generalize w1.alloc (.cells M 5) = w2 at *
  rw [HLA.out, ← xorTo_zero a b, ← HLA.out] at ho1
  go_loopw [6] (fun i wr => ∃ j : Nat, j ≤ n ∧ i = .int .i64 j ∧ wr.ownsRow w.heap.size 5 1 (.slice (some ⟨g, 0, none⟩) n n) n (byteCells (xorTo a b j)) ∧ Below w.heap.size w wr) (fun i _ => n - (intOf i).toNat)
  case atStart => exact ⟨0, Nat.zero_le _, rfl, ho1, hb1⟩
  case round =>
    obtain ⟨j, hj, rfl, hown, hbel⟩ := hrel
    by_cases hlt : j < n
    · obtain ⟨aa, za, rfl, _, ca, _, ga, _⟩ := (HA.out.below hbel).byte (k := j) (by rw [← HLA.out]; exact hlt)
      obtain ⟨ab, zb, rfl, _, cb, _, gb, _⟩ := (HB.out.below hbel).byte (k := j) (by rw [← HLB.out]; omega)
      have hfr := hown.frozenAt j
      have hlt2 : (j : Int) < (n : Int) := by omega
      obtain ⟨v0, hcg⟩ : ∃ v0, wr.cell? ⟨g, j, none⟩ = some v0 := by
        obtain ⟨ad, u, had, _, _, hu⟩ := (Reads.of_own hown).at_ (k := j) hlt
        obtain rfl := Option.some.inj had
        have e : (⟨g, 0, none⟩ : Addr).add j = ⟨g, j, none⟩ := by
          unfold Addr.add
          by_cases h : j = 0 <;> simp [h]
        exact ⟨u, by rw [← e]; exact hu⟩
      have hlt3 : (j : Int) < (m : Int) := by omega
      have hxz := xor8 za zb
      have ea : za = a.getD j 0 := by simp [List.getD, ga]
      have eb : zb = b.getD j 0 := by simp [List.getD, gb]
      have hst := (hown.stored j (.int .u8 ((za ^^^ zb).toNat : Int))).1
      rw [ea, eb, xorTo_set a b (by rw [← HLA.out]; exact hlt), ← ea, ← eb] at hst
      have hbs := hbel.setCell (p := ⟨g, j, none⟩) hg1 (.int .u8 ((za ^^^ zb).toNat : Int))
      rw [UInt8.toNat_xor] at hst hbs
      have HST := Lib.hid hst
      have HBS := Lib.hid hbs
      clear hst hbs hown ga gb ea eb
      go_wp2
      go_region
      go_wp2
      go_roundw
      case rel => exact ⟨j + 1, by omega, by go_num, HST.out, HBS.out.drew⟩
      case measure => simp [intOf]; omega
    · obtain rfl : j = n := by omega
      have hro := Reads.of_own hown
      have hlx : xorTo a b j = List.zipWith (· ^^^ ·) a (b.take j) := by rw [HLA.out]; exact xorTo_all a b (by rw [← HLA.out, ← HLB.out]; exact hnm)
      have hcz := crc_zip a (b.take j) (by rw [List.length_take, ← HLA.out, ← HLB.out]; omega)
      rw [← hlx, ← HLA.out] at hcz
      have HCZ := Lib.hid hcz
      have hfj : ¬ (j : Int) < (j : Int) := by omega
      clear hcz hlx hown
      go_wp2
      have hbr := HB.out.takeTo (k := j) (by omega)
      have hsl := slice_to0 HB.out hmd (k := j) (by omega)
      have CX := Lib.hid (fun W (hW : Below wr.heap.size wr W) => checksum_at (some ⟨g, 0, none⟩) j _ j _ W (hro.below hW) (by rw [xorTo_len, ← HLA.out]; omega) (HT.out.on (hbel.trans (hW.mono hbel.size))))
      have CY := Lib.hid (fun W (hW : Below wr.heap.size wr W) => checksum_at A c _ j _ W (HA.out.below (hbel.trans (hW.mono hbel.size))) (by rw [← HLA.out]; omega) (HT.out.on (hbel.trans (hW.mono hbel.size))))
      have CZ := Lib.hid (fun W (hW : Below wr.heap.size wr W) => checksum_at B d _ j _ W (hbr.below (hbel.trans (hW.mono hbel.size))) (by rw [List.length_take]; omega) (HT.out.on (hbel.trans (hW.mono hbel.size))))
      have CO := Lib.hid (fun W (hW : Below (wr.heap.size + 1) (wr.alloc (.cells M 5)) W) => checksum_at (some ⟨wr.heap.size, 0, none⟩) j _ j _ W (((Reads.of_own (OWN.out wr hbel.size)).below (by rw [World.size_alloc]; exact hW))) (by simp; omega) (HT.out.on ((hbel.alloc hbel.size _).trans (hW.mono (Nat.le_succ_of_le hbel.size)))))
      have hxor1 := xor_walk (crc a) (crc (b.take j))
      have hxor2 := xor_walk (crc a ^^^ crc (b.take j)) (crc (List.replicate j 0))
      rw [← HCZ.out] at hxor2
      generalize crc (xorTo a b j) = s0 at *
      generalize crc a ^^^ crc (b.take j) = s4 at *
      generalize crc a = s1 at *
      generalize crc (b.take j) = s2 at *
      generalize crc (List.replicate j 0) = s3 at *
      have t0 := s0.isLt
      have t1 := s1.isLt
      have t2 := s2.isLt
      have t3 := s3.isLt
      have t4 := s4.isLt
      clear hbr hro
      go_region_held3 (fun _ => True) (trivial)
        (first
          | (go_at_call 51; with_reducible refine (CX.out _ (by first | exact (Below.refl _ _).drew | exact ((Below.refl _ _).alloc (Nat.le_refl _) _).drew)).mono ?_; rintro e w9 ⟨rfl, rfl⟩)
          | (go_at_call 51; with_reducible refine (CY.out _ (by first | exact (Below.refl _ _).drew | exact ((Below.refl _ _).alloc (Nat.le_refl _) _).drew)).mono ?_; rintro e w9 ⟨rfl, rfl⟩)
          | (go_at_call 51; with_reducible refine (CZ.out _ (by first | exact (Below.refl _ _).drew | exact ((Below.refl _ _).alloc (Nat.le_refl _) _).drew)).mono ?_; rintro e w9 ⟨rfl, rfl⟩)
          | (go_at_call 51; with_reducible refine (CO.out _ (by exact (Below.refl _ _).drew)).mono ?_; rintro e w9 ⟨rfl, rfl⟩))
      all_goals (go_wp2; go_ret; exact ⟨rfl, (hbel.alloc hbel.size _).drew⟩)
end Go.Proofs.YtccgjdbopniifaaDoor.W
