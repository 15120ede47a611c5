/- The reference's ReadValue. -/
import Derived.Test.YtklihjgmmliejaaDoorWRefL
namespace Go.Proofs.YtklihjgmmliejaaDoor.W
set_option linter.unusedVariables false
open Go.RowKit
open Go.Lib (byteCells byteCells_length byteCells_append byteCells_snoc)

theorem zero_blk (w : World) (t : TypeId) (x y : Array Value) : Blk ((w.alloc (.cells x t)).alloc (.cells y t)) w.heap.size t x ∧ Blk ((w.alloc (.cells x t)).alloc (.cells y t)) (w.heap.size + 1) t y := by
  refine ⟨(Blk.new w t x).alloc _, ?_⟩
  have h := Blk.new (w.alloc (.cells x t)) t y
  rwa [show (w.alloc (.cells x t)).heap.size = w.heap.size + 1 by simp] at h
theorem ret_read {v v' : Value} {a b c : Int} (h : v = v') (h2 : a = b) (h3 : c = c) : Ending.returned (.tuple #[v, .int .i64 a, .int .i64 c]) = Ending.returned (.tuple #[v', .int .i64 b, .int .i64 c]) := by rw [h, h2]


set_option maxRecDepth 100000 in
set_option maxHeartbeats 2000000 in
theorem refRead_k0 (ad : Addr) (A' : Option Addr) (c n : Nat) (z : UInt8) (t : List UInt8) (w : World) (hc0 : w.cell? ad = some (.int .u8 (z.toNat : Int)))
    (hsl : ∀ (W : World), (Instr.slice 22 (.slice (some ad) n c) (some (.int .i64 1)) none none).run Tryd.prog W = .ok (.slice A' (n - 1) (c - 1)) W)
    (hrt : Reads w w.heap.size 1 A' (n - 1) (byteCells t)) (hcap : n ≤ c) (h1 : 1 ≤ n) (hn : n ≤ 1099511627776) (had : ad.block < w.heap.size) (hk : z.toNat = 0) :
    Calls Tryd.prog 40 #[.slice (some ad) n c] w (ValPost w (rdV (z :: t)).1 (rdV (z :: t)).2.1 (rdV (z :: t)).2.2) := by
  have hlb : ((n : Int) == 0) = false := beqF (by omega)
  have hl1 : (0 : Int) < (n : Int) := by omega
  have htl : t.length = n - 1 := by have := hrt.len; omega
  have HRV := Lib.hid (show rdV (z :: t) = if (rdVb z.toNat t).2.2 ≠ 0 then (zeroGV 0, 0, (rdVb z.toNat t).2.2) else ((rdVb z.toNat t).1, 1 + (rdVb z.toNat t).2.1, 0) from rfl)
  have HR := Lib.hid (show rdV (z :: t) = (zeroGV 0, 1, 0) by rw [HRV.out, hk]; simp [rdVb])
  go_enter Tryd.func40, Tryd.ntmps40
  go_wp2_with fail
  refine bodyPost_ret (v := .tuple #[valV (zeroGV 0) (.slice none 0 0) (.slice none 0 0), .int .i64 1, .int .i64 0]) (by simp [results, Tryd.results40, go_sem, valV, strV, zeroGV]) rfl ⟨.slice none 0 0, .slice none 0 0, ?_, ?_, ?_, ?_⟩
  · rw [HR.out]; rfl
  · rw [HR.out]; exact SliceOf.nil_ _
  · rw [HR.out]; exact SliceOf.nil_ _
  · repeat (first | exact Below.refl _ _ | refine Below.alloc ?_ (by simp) _ | refine Below.alloc ?_ (by simp; omega) _ | refine Below.setCell ?_ (by simp) _)

set_option maxRecDepth 100000 in
set_option maxHeartbeats 2000000 in
theorem refRead_k6 (ad : Addr) (A' : Option Addr) (c n : Nat) (z : UInt8) (t : List UInt8) (w : World) (hc0 : w.cell? ad = some (.int .u8 (z.toNat : Int)))
    (hsl : ∀ (W : World), (Instr.slice 22 (.slice (some ad) n c) (some (.int .i64 1)) none none).run Tryd.prog W = .ok (.slice A' (n - 1) (c - 1)) W)
    (hrt : Reads w w.heap.size 1 A' (n - 1) (byteCells t)) (hcap : n ≤ c) (h1 : 1 ≤ n) (hn : n ≤ 1099511627776) (had : ad.block < w.heap.size) (hk : 5 < z.toNat) :
    Calls Tryd.prog 40 #[.slice (some ad) n c] w (ValPost w (rdV (z :: t)).1 (rdV (z :: t)).2.1 (rdV (z :: t)).2.2) := by
  have hlb : ((n : Int) == 0) = false := beqF (by omega)
  have hl1 : (0 : Int) < (n : Int) := by omega
  have htl : t.length = n - 1 := by have := hrt.len; omega
  have HRV := Lib.hid (show rdV (z :: t) = if (rdVb z.toNat t).2.2 ≠ 0 then (zeroGV 0, 0, (rdVb z.toNat t).2.2) else ((rdVb z.toNat t).1, 1 + (rdVb z.toNat t).2.1, 0) from rfl)
  have HR := Lib.hid (show rdV (z :: t) = (zeroGV 0, 0, 3) by
    rw [HRV.out]
    have hrb : rdVb z.toNat t = (zeroGV 0, 0, 3) := by
      unfold rdVb
      rw [if_neg (by omega), if_neg (by omega), if_neg (by omega), if_neg (by omega), if_neg (by omega), if_neg (by omega)]
    rw [hrb]; simp)
  have e0 : ((z.toNat : Int) == 0) = false := beqF (by omega)
  have e1 : ((z.toNat : Int) == 1) = false := beqF (by omega)
  have e2 : ((z.toNat : Int) == 2) = false := beqF (by omega)
  have e3 : ((z.toNat : Int) == 3) = false := beqF (by omega)
  have e4 : ((z.toNat : Int) == 4) = false := beqF (by omega)
  have e5 : ((z.toNat : Int) == 5) = false := beqF (by omega)
  have hz := z.toNat_lt
  go_enter Tryd.func40, Tryd.ntmps40
  go_wp2_with fail
  refine bodyPost_ret (v := .tuple #[valV (zeroGV 0) (.slice none 0 0) (.slice none 0 0), .int .i64 0, .int .i64 3]) (by simp [results, Tryd.results40, go_sem, valV, strV, zeroGV]) rfl ⟨.slice none 0 0, .slice none 0 0, ?_, ?_, ?_, ?_⟩
  · rw [HR.out]; rfl
  · rw [HR.out]; exact SliceOf.nil_ _
  · rw [HR.out]; exact SliceOf.nil_ _
  · repeat (first | exact Below.refl _ _ | refine Below.alloc ?_ (by simp) _ | refine Below.alloc ?_ (by simp; omega) _ | refine Below.setCell ?_ (by simp) _)

set_option maxRecDepth 100000 in
set_option maxHeartbeats 2000000 in
theorem refRead_k2 (ad : Addr) (A' : Option Addr) (c n : Nat) (z : UInt8) (t : List UInt8) (w : World) (hc0 : w.cell? ad = some (.int .u8 (z.toNat : Int)))
    (hc1 : ∀ z2 t2, t = z2 :: t2 → w.cell? ⟨ad.block, ad.off + 1, none⟩ = some (.int .u8 (z2.toNat : Int)))
    (hsl : ∀ (W : World), (Instr.slice 22 (.slice (some ad) n c) (some (.int .i64 1)) none none).run Tryd.prog W = .ok (.slice A' (n - 1) (c - 1)) W)
    (hrt : Reads w w.heap.size 1 A' (n - 1) (byteCells t)) (hcap : n ≤ c) (h1 : 1 ≤ n) (hn : n ≤ 1099511627776) (had : ad.block < w.heap.size) (hk : z.toNat = 2) :
    Calls Tryd.prog 40 #[.slice (some ad) n c] w (ValPost w (rdV (z :: t)).1 (rdV (z :: t)).2.1 (rdV (z :: t)).2.2) := by
  have hlb : ((n : Int) == 0) = false := beqF (by omega)
  have hl1 : (0 : Int) < (n : Int) := by omega
  have htl : t.length = n - 1 := by have := hrt.len; omega
  have HRV := Lib.hid (show rdV (z :: t) = if (rdVb z.toNat t).2.2 ≠ 0 then (zeroGV 0, 0, (rdVb z.toNat t).2.2) else ((rdVb z.toNat t).1, 1 + (rdVb z.toNat t).2.1, 0) from rfl)
  match t, htl, hc1 with
  | [], htl, _ =>
    have HR := Lib.hid (show rdV [z] = (zeroGV 0, 0, 2) by rw [HRV.out, hk]; simp [rdVb, rdB])
    have h2 : (n : Int) < 2 := by simp at htl; omega
    clear htl hrt HRV
    go_enter Tryd.func40, Tryd.ntmps40
    go_wp2_with fail
    refine bodyPost_ret (v := .tuple #[valV (zeroGV 0) (.slice none 0 0) (.slice none 0 0), .int .i64 0, .int .i64 2]) (by simp [results, Tryd.results40, go_sem, valV, strV, zeroGV]) rfl ⟨.slice none 0 0, .slice none 0 0, ?_, ?_, ?_, ?_⟩
    · rw [HR.out]; rfl
    · rw [HR.out]; exact SliceOf.nil_ _
    · rw [HR.out]; exact SliceOf.nil_ _
    · repeat (first | exact Below.refl _ _ | refine Below.alloc ?_ (by simp) _ | refine Below.alloc ?_ (by simp; omega) _ | refine Below.setCell ?_ (by simp) _)
  | z2 :: t2, htl, hc1 =>
    have hz1 := hc1 z2 t2 rfl
    have h2 : ¬ (n : Int) < 2 := by simp at htl; omega
    have h3 : (1 : Int) < (n : Int) := by omega
    have h4 : 1 < n := by omega
    have hz := z2.toNat_lt
    clear hc1
    by_cases hb : 1 < z2.toNat
    · have HR := Lib.hid (show rdV (z :: z2 :: t2) = (zeroGV 0, 0, 3) by rw [HRV.out, hk]; simp [rdVb, rdB, hb])
      have hb2 : (1 : Int) < (z2.toNat : Int) := by omega
      clear htl hrt HRV
      go_enter Tryd.func40, Tryd.ntmps40
      go_wp2_with fail
      refine bodyPost_ret (v := .tuple #[valV (zeroGV 0) (.slice none 0 0) (.slice none 0 0), .int .i64 0, .int .i64 3]) (by simp [results, Tryd.results40, go_sem, valV, strV, zeroGV]) rfl ⟨.slice none 0 0, .slice none 0 0, ?_, ?_, ?_, ?_⟩
      · rw [HR.out]; rfl
      · rw [HR.out]; exact SliceOf.nil_ _
      · rw [HR.out]; exact SliceOf.nil_ _
      · repeat (first | exact Below.refl _ _ | refine Below.alloc ?_ (by simp) _ | refine Below.alloc ?_ (by simp; omega) _ | refine Below.setCell ?_ (by simp) _)
    · have HR := Lib.hid (show rdV (z :: z2 :: t2) = ({ zeroGV 2 with n := (z2.toNat : Int) }, 2, 0) by rw [HRV.out, hk]; simp [rdVb, rdB, hb])
      have hb2 : ¬ (1 : Int) < (z2.toNat : Int) := by omega
      clear htl hrt HRV
      go_enter Tryd.func40, Tryd.ntmps40
      go_wp2_with fail
      refine bodyPost_ret (v := .tuple #[valV ({ zeroGV 2 with n := (z2.toNat : Int) }) (.slice none 0 0) (.slice none 0 0), .int .i64 2, .int .i64 0]) (by simp [results, Tryd.results40, go_sem, valV, strV, zeroGV]) rfl ⟨.slice none 0 0, .slice none 0 0, ?_, ?_, ?_, ?_⟩
      · rw [HR.out]; rfl
      · rw [HR.out]; exact SliceOf.nil_ _
      · rw [HR.out]; exact SliceOf.nil_ _
      · repeat (first | exact Below.refl _ _ | refine Below.alloc ?_ (by simp) _ | refine Below.alloc ?_ (by simp; omega) _ | refine Below.setCell ?_ (by simp) _)

set_option maxRecDepth 100000 in
set_option maxHeartbeats 2000000 in
theorem refRead_k1 (ad : Addr) (A' : Option Addr) (c n : Nat) (z : UInt8) (t : List UInt8) (w : World) (hc0 : w.cell? ad = some (.int .u8 (z.toNat : Int)))
    (hsl : ∀ (W : World), (Instr.slice 22 (.slice (some ad) n c) (some (.int .i64 1)) none none).run Tryd.prog W = .ok (.slice A' (n - 1) (c - 1)) W)
    (hrt : Reads w w.heap.size 1 A' (n - 1) (byteCells t)) (hcap : n ≤ c) (h1 : 1 ≤ n) (hn : n ≤ 1099511627776) (had : ad.block < w.heap.size) (hk : z.toNat = 1) :
    Calls Tryd.prog 40 #[.slice (some ad) n c] w (ValPost w (rdV (z :: t)).1 (rdV (z :: t)).2.1 (rdV (z :: t)).2.2) := by
  have hlb : ((n : Int) == 0) = false := beqF (by omega)
  have hl1 : (0 : Int) < (n : Int) := by omega
  have htl : t.length = n - 1 := by have := hrt.len; omega
  have HRV := Lib.hid (show rdV (z :: t) = if (rdVb z.toNat t).2.2 ≠ 0 then (zeroGV 0, 0, (rdVb z.toNat t).2.2) else ((rdVb z.toNat t).1, 1 + (rdVb z.toNat t).2.1, 0) from rfl)
  obtain ⟨⟨x, j, e⟩, hx⟩ : ∃ r, rdI t = r := ⟨_, rfl⟩
  have hcall := fun W (h : Below w.heap.size w W) => refReadInt_any A' (c - 1) w.heap.size t W (htl ▸ hrt.below h) (by omega)
  rw [htl, hx] at hcall
  have HC := Lib.hid hcall
  have hrb : rdVb z.toNat t = ({ zeroGV 1 with n := x }, j, e) := by rw [hk]; simp [rdVb, hx]
  by_cases he : e = 0
  · subst he
    have HR := Lib.hid (show rdV (z :: t) = ({ zeroGV 1 with n := x }, 1 + j, 0) by rw [HRV.out, hrb]; simp)
    have hj : j ≤ t.length := (rdI_used hx).2.2.2
    have hj2 : j ≤ n := by omega
    have HJ := Lib.hid (show ((j : Int) + 1) = ((1 + j : Nat) : Int) by omega)
    clear hcall hrb hx htl hj
    go_enter Tryd.func40, Tryd.ntmps40
    go_wp2_with (go_at_call 17; (with_reducible refine (HC.out _ (by repeat (first | exact Below.refl _ _ | refine Below.alloc ?_ (by simp) _ | refine Below.alloc ?_ (by simp; omega) _ | refine Below.setCell ?_ (by simp) _))).mono ?_); rintro e w' ⟨rfl, rfl⟩)
    refine bodyPost_ret (v := .tuple #[valV ({ zeroGV 1 with n := x }) (.slice none 0 0) (.slice none 0 0), .int .i64 ((j : Int) + 1), .int .i64 0]) (by simp [results, Tryd.results40, go_sem, valV, strV, zeroGV]) rfl ⟨.slice none 0 0, .slice none 0 0, ?_, ?_, ?_, ?_⟩
    · rw [HR.out]; exact ret_read rfl HJ.out rfl
    · rw [HR.out]; exact SliceOf.nil_ _
    · rw [HR.out]; exact SliceOf.nil_ _
    · repeat (first | exact Below.refl _ _ | refine Below.alloc ?_ (by simp) _ | refine Below.alloc ?_ (by simp; omega) _ | refine Below.setCell ?_ (by simp) _)
  · have HR := Lib.hid (show rdV (z :: t) = (zeroGV 0, 0, e) by rw [HRV.out, hrb]; simp [he])
    have hb : ((e : Int) != 0) = true := bneT (by omega)
    clear hcall hrb hx htl he
    go_enter Tryd.func40, Tryd.ntmps40
    go_wp2_with (go_at_call 17; (with_reducible refine (HC.out _ (by repeat (first | exact Below.refl _ _ | refine Below.alloc ?_ (by simp) _ | refine Below.alloc ?_ (by simp; omega) _ | refine Below.setCell ?_ (by simp) _))).mono ?_); rintro e w' ⟨rfl, rfl⟩)
    refine bodyPost_ret (v := .tuple #[valV (zeroGV 0) (.slice none 0 0) (.slice none 0 0), .int .i64 0, .int .i64 e]) (by simp [results, Tryd.results40, go_sem, valV, strV, zeroGV]) rfl ⟨.slice none 0 0, .slice none 0 0, ?_, ?_, ?_, ?_⟩
    · rw [HR.out]; rfl
    · rw [HR.out]; exact SliceOf.nil_ _
    · rw [HR.out]; exact SliceOf.nil_ _
    · repeat (first | exact Below.refl _ _ | refine Below.alloc ?_ (by simp) _ | refine Below.alloc ?_ (by simp; omega) _ | refine Below.setCell ?_ (by simp) _)

set_option maxRecDepth 100000 in
set_option maxHeartbeats 2000000 in
theorem refRead_k3 (ad : Addr) (A' : Option Addr) (c n : Nat) (z : UInt8) (t : List UInt8) (w : World) (hc0 : w.cell? ad = some (.int .u8 (z.toNat : Int)))
    (hsl : ∀ (W : World), (Instr.slice 22 (.slice (some ad) n c) (some (.int .i64 1)) none none).run Tryd.prog W = .ok (.slice A' (n - 1) (c - 1)) W)
    (hrt : Reads w w.heap.size 1 A' (n - 1) (byteCells t)) (hcap : n ≤ c) (h1 : 1 ≤ n) (hn : n ≤ 1099511627776) (had : ad.block < w.heap.size) (hk : z.toNat = 3) :
    Calls Tryd.prog 40 #[.slice (some ad) n c] w (ValPost w (rdV (z :: t)).1 (rdV (z :: t)).2.1 (rdV (z :: t)).2.2) := by
  have hlb : ((n : Int) == 0) = false := beqF (by omega)
  have hl1 : (0 : Int) < (n : Int) := by omega
  have htl : t.length = n - 1 := by have := hrt.len; omega
  have HRV := Lib.hid (show rdV (z :: t) = if (rdVb z.toNat t).2.2 ≠ 0 then (zeroGV 0, 0, (rdVb z.toNat t).2.2) else ((rdVb z.toNat t).1, 1 + (rdVb z.toNat t).2.1, 0) from rfl)
  obtain ⟨⟨x, j, e⟩, hx⟩ : ∃ r, rdS t 64 = r := ⟨_, rfl⟩
  have hcall := fun W (h : Below w.heap.size w W) => refReadString_any A' (c - 1) w.heap.size t 64 W (htl ▸ hrt.below h) (by omega) (by omega) ⟨by omega, by omega⟩
  rw [htl, hx] at hcall
  have HC := Lib.hid hcall
  have hrb : rdVb z.toNat t = ({ zeroGV 3 with s := x }, j, e) := by rw [hk]; simp [rdVb, hx]
  by_cases he : e = 0
  · subst he
    have HR := Lib.hid (show rdV (z :: t) = ({ zeroGV 3 with s := x }, 1 + j, 0) by rw [HRV.out, hrb]; simp)
    have hj : j ≤ t.length := (rdS_used hx).2.2
    have hj2 : j ≤ n := by omega
    have HJ := Lib.hid (show ((j : Int) + 1) = ((1 + j : Nat) : Int) by omega)
    clear hcall hrb hx htl hj
    go_enter Tryd.func40, Tryd.ntmps40
    go_wp2_with (go_at_call 25; (with_reducible refine (HC.out _ (by repeat (first | exact Below.refl _ _ | refine Below.alloc ?_ (by simp) _ | refine Below.alloc ?_ (by simp; omega) _ | refine Below.setCell ?_ (by simp) _))).mono ?_); rintro e w' ⟨rfl, rfl⟩)
    refine bodyPost_ret (v := .tuple #[valV ({ zeroGV 3 with s := x }) (.slice none 0 0) (.slice none 0 0), .int .i64 ((j : Int) + 1), .int .i64 0]) (by simp [results, Tryd.results40, go_sem, valV, strV, zeroGV]) rfl ⟨.slice none 0 0, .slice none 0 0, ?_, ?_, ?_, ?_⟩
    · rw [HR.out]; exact ret_read rfl HJ.out rfl
    · rw [HR.out]; exact SliceOf.nil_ _
    · rw [HR.out]; exact SliceOf.nil_ _
    · repeat (first | exact Below.refl _ _ | refine Below.alloc ?_ (by simp) _ | refine Below.alloc ?_ (by simp; omega) _ | refine Below.setCell ?_ (by simp) _)
  · have HR := Lib.hid (show rdV (z :: t) = (zeroGV 0, 0, e) by rw [HRV.out, hrb]; simp [he])
    have hb : ((e : Int) != 0) = true := bneT (by omega)
    clear hcall hrb hx htl he
    go_enter Tryd.func40, Tryd.ntmps40
    go_wp2_with (go_at_call 25; (with_reducible refine (HC.out _ (by repeat (first | exact Below.refl _ _ | refine Below.alloc ?_ (by simp) _ | refine Below.alloc ?_ (by simp; omega) _ | refine Below.setCell ?_ (by simp) _))).mono ?_); rintro e w' ⟨rfl, rfl⟩)
    refine bodyPost_ret (v := .tuple #[valV (zeroGV 0) (.slice none 0 0) (.slice none 0 0), .int .i64 0, .int .i64 e]) (by simp [results, Tryd.results40, go_sem, valV, strV, zeroGV]) rfl ⟨.slice none 0 0, .slice none 0 0, ?_, ?_, ?_, ?_⟩
    · rw [HR.out]; rfl
    · rw [HR.out]; exact SliceOf.nil_ _
    · rw [HR.out]; exact SliceOf.nil_ _
    · repeat (first | exact Below.refl _ _ | refine Below.alloc ?_ (by simp) _ | refine Below.alloc ?_ (by simp; omega) _ | refine Below.setCell ?_ (by simp) _)

theorem below_setAny {B : Nat} {a w : World} (h : Below B a w) {p : Addr} (hp : B ≤ p.block) (u : Value) : Below B a (w.setCell p u) := h.setCell hp u
theorem own_setAny {B : Nat} {w : World} {e : TypeId} {size : Nat} {v : Value} {n : Nat} {xs : List Value} (h : w.ownsRow B e size v n xs) {p : Addr} (hp : p.block < B) (u : Value) : (w.setCell p u).ownsRow B e size v n xs :=
  ownsRow_setCell_below h hp u

set_option maxRecDepth 100000 in
set_option maxHeartbeats 2000000 in
theorem refRead_k4 (ad : Addr) (A' : Option Addr) (c n : Nat) (z : UInt8) (t : List UInt8) (w : World) (hc0 : w.cell? ad = some (.int .u8 (z.toNat : Int)))
    (hsl : ∀ (W : World), (Instr.slice 22 (.slice (some ad) n c) (some (.int .i64 1)) none none).run Tryd.prog W = .ok (.slice A' (n - 1) (c - 1)) W)
    (hrt : Reads w w.heap.size 1 A' (n - 1) (byteCells t)) (hcap : n ≤ c) (h1 : 1 ≤ n) (hn : n ≤ 1099511627776) (had : ad.block < w.heap.size) (hk : z.toNat = 4) :
    Calls Tryd.prog 40 #[.slice (some ad) n c] w (ValPost w (rdV (z :: t)).1 (rdV (z :: t)).2.1 (rdV (z :: t)).2.2) := by
  have hlb : ((n : Int) == 0) = false := beqF (by omega)
  have hl1 : (0 : Int) < (n : Int) := by omega
  have htl : t.length = n - 1 := by have := hrt.len; omega
  have HRV := Lib.hid (show rdV (z :: t) = if (rdVb z.toNat t).2.2 ≠ 0 then (zeroGV 0, 0, (rdVb z.toNat t).2.2) else ((rdVb z.toNat t).1, 1 + (rdVb z.toNat t).2.1, 0) from rfl)
  have HZ := Lib.hid (zero_blk w 55 #[.int .i64 0, .int .i64 0, .string ⟨#[]⟩, .slice none 0 0, .slice none 0 0] #[.int .i64 4, .int .i64 0, .string ⟨#[]⟩, .slice none 0 0, .slice none 0 0])
  have HB0 := Lib.hid (((Below.refl w.heap.size w).alloc (Nat.le_refl _) (.cells #[.int .i64 0, .int .i64 0, .string ⟨#[]⟩, .slice none 0 0, .slice none 0 0] 55)).alloc (by simp) (.cells #[.int .i64 4, .int .i64 0, .string ⟨#[]⟩, .slice none 0 0, .slice none 0 0] 55))
  obtain ⟨⟨x, j, e⟩, hx⟩ : ∃ r, rdIs t 16 = r := ⟨_, rfl⟩
  have hcall := fun W (h : Below w.heap.size w W) => (refReadIntList_any A' (c - 1) t 16 W (htl ▸ (hrt.below h).more h.size) (by omega) (by omega) ⟨by omega, by omega⟩).mono fun _ _ h => h.two (m := (rdIs t 16).1.length) (by simp)
  rw [htl, hx] at hcall
  have HC := Lib.hid hcall
  have hrb : rdVb z.toNat t = ({ zeroGV 4 with i := x }, j, e) := by rw [hk]; simp [rdVb, hx]
  by_cases he : e = 0
  · subst he
    have HR := Lib.hid (show rdV (z :: t) = ({ zeroGV 4 with i := x }, 1 + j, 0) by rw [HRV.out, hrb]; simp)
    have hj : j ≤ t.length := rdIs_used hx
    have hj2 : j ≤ n := by omega
    have HJ := Lib.hid (show ((j : Int) + 1) = ((1 + j : Nat) : Int) by omega)
    clear hcall hrb hx htl hj
    go_enter Tryd.func40, Tryd.ntmps40
    go_wp2_with (go_at_call 27; (with_reducible refine (HC.out _ HB0.out).mono ?_); rintro e w1 ⟨A2, c2, rfl, hm2, hown, hbel⟩; have HM2 := Lib.hid hm2; clear hm2; obtain ⟨hB0, hB1⟩ := HZ.out; have hB0 := hB0.below hbel (by first | (simp; done) | (simp; omega)); have hB1 := hB1.below hbel (by first | (simp; done) | (simp; omega)); obtain ⟨q0, q1, q2, q3, q4⟩ := hB0.box5; obtain ⟨p0, p1, p2, p3, p4⟩ := hB1.box5; have f0 := hB0.frozen 0; have f1 := hB0.frozen 1; have f2 := hB0.frozen 2; have f3 := hB0.frozen 3; have f4 := hB0.frozen 4; have g0 := hB1.frozen 0; have g1 := hB1.frozen 1; have g2 := hB1.frozen 2; have g3 := hB1.frozen 3; have g4 := hB1.frozen 4; have hsz := hB1.lt)
    have hbw : Below w.heap.size w w1 := HB0.out.trans (hbel.mono (by first | (simp; done) | (simp; omega)))
    have ho1 : w1.ownsRow (w.heap.size + 2) 3 1 (.slice A2 x.length c2) (x.map intV).length (x.map intV) := by
      have h2 := hown
      rw [show ((w.alloc (.cells #[.int .i64 0, .int .i64 0, .string ⟨#[]⟩, .slice none 0 0, .slice none 0 0] 55)).alloc (.cells #[.int .i64 4, .int .i64 0, .string ⟨#[]⟩, .slice none 0 0, .slice none 0 0] 55)).heap.size = w.heap.size + 2 by simp] at h2
      exact h2
    refine bodyPost_ret (v := .tuple #[valV ({ zeroGV 4 with i := x }) (.slice A2 x.length c2) (.slice none 0 0), .int .i64 ((j : Int) + 1), .int .i64 0]) (by simp [results, Tryd.results40, go_sem, valV, strV, zeroGV, q0, q1, q2, q3, q4]) rfl ⟨.slice A2 x.length c2, .slice none 0 0, ?_, ?_, ?_, ?_⟩
    · rw [HR.out]; exact ret_read rfl HJ.out rfl
    · rw [HR.out]; exact SliceOf.of_own (base := w.heap.size + 2) (e := 3) (by ((repeat (with_reducible refine own_setAny ?_ (by simp) _)); exact ho1))
    · rw [HR.out]; exact SliceOf.nil_ _
    · ((repeat (with_reducible refine below_setAny ?_ (by simp) _)); exact hbw)
  · have HR := Lib.hid (show rdV (z :: t) = (zeroGV 0, 0, e) by rw [HRV.out, hrb]; simp [he])
    have hb : ((e : Int) != 0) = true := bneT (by omega)
    have hx0 : x = [] := by have := rdIs_nil hx he; exact this
    subst hx0
    clear hcall hrb hx htl he
    go_enter Tryd.func40, Tryd.ntmps40
    go_wp2_with (go_at_call 27; (with_reducible refine (HC.out _ HB0.out).mono ?_); rintro e w1 ⟨A2, c2, rfl, hm2, hown, hbel⟩; have HM2 := Lib.hid hm2; clear hm2; obtain ⟨hB0, hB1⟩ := HZ.out; have hB0 := hB0.below hbel (by first | (simp; done) | (simp; omega)); have hB1 := hB1.below hbel (by first | (simp; done) | (simp; omega)); obtain ⟨q0, q1, q2, q3, q4⟩ := hB0.box5; obtain ⟨p0, p1, p2, p3, p4⟩ := hB1.box5; have f0 := hB0.frozen 0; have f1 := hB0.frozen 1; have f2 := hB0.frozen 2; have f3 := hB0.frozen 3; have f4 := hB0.frozen 4; have g0 := hB1.frozen 0; have g1 := hB1.frozen 1; have g2 := hB1.frozen 2; have g3 := hB1.frozen 3; have g4 := hB1.frozen 4; have hsz := hB1.lt)
    have hbw : Below w.heap.size w w1 := HB0.out.trans (hbel.mono (by first | (simp; done) | (simp; omega)))
    refine bodyPost_ret (v := .tuple #[valV (zeroGV 0) (.slice none 0 0) (.slice none 0 0), .int .i64 0, .int .i64 e]) (by simp [results, Tryd.results40, go_sem, valV, strV, zeroGV, q0, q1, q2, q3, q4]) rfl ⟨.slice none 0 0, .slice none 0 0, ?_, ?_, ?_, ?_⟩
    · rw [HR.out]; rfl
    · rw [HR.out]; exact SliceOf.nil_ _
    · rw [HR.out]; exact SliceOf.nil_ _
    · ((repeat (with_reducible refine below_setAny ?_ (by simp) _)); exact hbw)

set_option maxRecDepth 100000 in
set_option maxHeartbeats 2000000 in
theorem refRead_k5 (ad : Addr) (A' : Option Addr) (c n : Nat) (z : UInt8) (t : List UInt8) (w : World) (hc0 : w.cell? ad = some (.int .u8 (z.toNat : Int)))
    (hsl : ∀ (W : World), (Instr.slice 22 (.slice (some ad) n c) (some (.int .i64 1)) none none).run Tryd.prog W = .ok (.slice A' (n - 1) (c - 1)) W)
    (hrt : Reads w w.heap.size 1 A' (n - 1) (byteCells t)) (hcap : n ≤ c) (h1 : 1 ≤ n) (hn : n ≤ 1099511627776) (had : ad.block < w.heap.size) (hk : z.toNat = 5) :
    Calls Tryd.prog 40 #[.slice (some ad) n c] w (ValPost w (rdV (z :: t)).1 (rdV (z :: t)).2.1 (rdV (z :: t)).2.2) := by
  have hlb : ((n : Int) == 0) = false := beqF (by omega)
  have hl1 : (0 : Int) < (n : Int) := by omega
  have htl : t.length = n - 1 := by have := hrt.len; omega
  have HRV := Lib.hid (show rdV (z :: t) = if (rdVb z.toNat t).2.2 ≠ 0 then (zeroGV 0, 0, (rdVb z.toNat t).2.2) else ((rdVb z.toNat t).1, 1 + (rdVb z.toNat t).2.1, 0) from rfl)
  have HZ := Lib.hid (zero_blk w 55 #[.int .i64 0, .int .i64 0, .string ⟨#[]⟩, .slice none 0 0, .slice none 0 0] #[.int .i64 5, .int .i64 0, .string ⟨#[]⟩, .slice none 0 0, .slice none 0 0])
  have HB0 := Lib.hid (((Below.refl w.heap.size w).alloc (Nat.le_refl _) (.cells #[.int .i64 0, .int .i64 0, .string ⟨#[]⟩, .slice none 0 0, .slice none 0 0] 55)).alloc (by simp) (.cells #[.int .i64 5, .int .i64 0, .string ⟨#[]⟩, .slice none 0 0, .slice none 0 0] 55))
  obtain ⟨⟨x, j, e⟩, hx⟩ : ∃ r, rdSs t 16 = r := ⟨_, rfl⟩
  have hcall := fun W (h : Below w.heap.size w W) => (refReadStringList_any A' (c - 1) t 16 W (htl ▸ (hrt.below h).more h.size) (by omega) (by omega) ⟨by omega, by omega⟩).mono fun _ _ h => h.two (m := (rdSs t 16).1.length) (by simp)
  rw [htl, hx] at hcall
  have HC := Lib.hid hcall
  have hrb : rdVb z.toNat t = ({ zeroGV 5 with l := x }, j, e) := by rw [hk]; simp [rdVb, hx]
  by_cases he : e = 0
  · subst he
    have HR := Lib.hid (show rdV (z :: t) = ({ zeroGV 5 with l := x }, 1 + j, 0) by rw [HRV.out, hrb]; simp)
    have hj : j ≤ t.length := rdSs_used hx
    have hj2 : j ≤ n := by omega
    have HJ := Lib.hid (show ((j : Int) + 1) = ((1 + j : Nat) : Int) by omega)
    clear hcall hrb hx htl hj
    go_enter Tryd.func40, Tryd.ntmps40
    go_wp2_with (go_at_call 29; (with_reducible refine (HC.out _ HB0.out).mono ?_); rintro e w1 ⟨A2, c2, rfl, hm2, hown, hbel⟩; have HM2 := Lib.hid hm2; clear hm2; obtain ⟨hB0, hB1⟩ := HZ.out; have hB0 := hB0.below hbel (by first | (simp; done) | (simp; omega)); have hB1 := hB1.below hbel (by first | (simp; done) | (simp; omega)); obtain ⟨q0, q1, q2, q3, q4⟩ := hB0.box5; obtain ⟨p0, p1, p2, p3, p4⟩ := hB1.box5; have f0 := hB0.frozen 0; have f1 := hB0.frozen 1; have f2 := hB0.frozen 2; have f3 := hB0.frozen 3; have f4 := hB0.frozen 4; have g0 := hB1.frozen 0; have g1 := hB1.frozen 1; have g2 := hB1.frozen 2; have g3 := hB1.frozen 3; have g4 := hB1.frozen 4; have hsz := hB1.lt)
    have hbw : Below w.heap.size w w1 := HB0.out.trans (hbel.mono (by first | (simp; done) | (simp; omega)))
    have ho1 : w1.ownsRow (w.heap.size + 2) 9 1 (.slice A2 x.length c2) (x.map strV).length (x.map strV) := by
      have h2 := hown
      rw [show ((w.alloc (.cells #[.int .i64 0, .int .i64 0, .string ⟨#[]⟩, .slice none 0 0, .slice none 0 0] 55)).alloc (.cells #[.int .i64 5, .int .i64 0, .string ⟨#[]⟩, .slice none 0 0, .slice none 0 0] 55)).heap.size = w.heap.size + 2 by simp] at h2
      exact h2
    refine bodyPost_ret (v := .tuple #[valV ({ zeroGV 5 with l := x }) (.slice none 0 0) (.slice A2 x.length c2), .int .i64 ((j : Int) + 1), .int .i64 0]) (by simp [results, Tryd.results40, go_sem, valV, strV, zeroGV, q0, q1, q2, q3, q4]) rfl ⟨.slice none 0 0, .slice A2 x.length c2, ?_, ?_, ?_, ?_⟩
    · rw [HR.out]; exact ret_read rfl HJ.out rfl
    · rw [HR.out]; exact SliceOf.nil_ _
    · rw [HR.out]; exact SliceOf.of_own (base := w.heap.size + 2) (e := 9) (by ((repeat (with_reducible refine own_setAny ?_ (by simp) _)); exact ho1))
    · ((repeat (with_reducible refine below_setAny ?_ (by simp) _)); exact hbw)
  · have HR := Lib.hid (show rdV (z :: t) = (zeroGV 0, 0, e) by rw [HRV.out, hrb]; simp [he])
    have hb : ((e : Int) != 0) = true := bneT (by omega)
    have hx0 : x = [] := by have := rdSs_nil hx he; exact this
    subst hx0
    clear hcall hrb hx htl he
    go_enter Tryd.func40, Tryd.ntmps40
    go_wp2_with (go_at_call 29; (with_reducible refine (HC.out _ HB0.out).mono ?_); rintro e w1 ⟨A2, c2, rfl, hm2, hown, hbel⟩; have HM2 := Lib.hid hm2; clear hm2; obtain ⟨hB0, hB1⟩ := HZ.out; have hB0 := hB0.below hbel (by first | (simp; done) | (simp; omega)); have hB1 := hB1.below hbel (by first | (simp; done) | (simp; omega)); obtain ⟨q0, q1, q2, q3, q4⟩ := hB0.box5; obtain ⟨p0, p1, p2, p3, p4⟩ := hB1.box5; have f0 := hB0.frozen 0; have f1 := hB0.frozen 1; have f2 := hB0.frozen 2; have f3 := hB0.frozen 3; have f4 := hB0.frozen 4; have g0 := hB1.frozen 0; have g1 := hB1.frozen 1; have g2 := hB1.frozen 2; have g3 := hB1.frozen 3; have g4 := hB1.frozen 4; have hsz := hB1.lt)
    have hbw : Below w.heap.size w w1 := HB0.out.trans (hbel.mono (by first | (simp; done) | (simp; omega)))
    refine bodyPost_ret (v := .tuple #[valV (zeroGV 0) (.slice none 0 0) (.slice none 0 0), .int .i64 0, .int .i64 e]) (by simp [results, Tryd.results40, go_sem, valV, strV, zeroGV, q0, q1, q2, q3, q4]) rfl ⟨.slice none 0 0, .slice none 0 0, ?_, ?_, ?_, ?_⟩
    · rw [HR.out]; rfl
    · rw [HR.out]; exact SliceOf.nil_ _
    · rw [HR.out]; exact SliceOf.nil_ _
    · ((repeat (with_reducible refine below_setAny ?_ (by simp) _)); exact hbw)

set_option maxRecDepth 100000 in
set_option maxHeartbeats 400000 in
/-- WHAT the reference's ReadValue GIVES. -/
theorem refRead_any (A : Option Addr) (c : Nat) (bs : List UInt8) (w : World) (hr : Reads w w.heap.size 1 A bs.length (byteCells bs)) (hn : bs.length ≤ 1099511627776) (hcap : bs.length ≤ c) :
    Calls Tryd.prog 40 #[.slice A bs.length c] w (ValPost w (rdV bs).1 (rdV bs).2.1 (rdV bs).2.2) := by
  by_cases h0 : bs.length = 0
  · obtain rfl := List.eq_nil_of_length_eq_zero h0
    have hb0 := (Below.refl w.heap.size w).alloc (Nat.le_refl _)
    go_enter Tryd.func40, Tryd.ntmps40
    go_wp2_with fail
    refine bodyPost_ret (v := .tuple #[valV (zeroGV 0) (.slice none 0 0) (.slice none 0 0), .int .i64 0, .int .i64 2]) (by simp [results, Tryd.results40, go_sem, valV, strV, zeroGV]) rfl ⟨.slice none 0 0, .slice none 0 0, rfl, ?_, ?_, ?_⟩
    · exact SliceOf.nil_ _
    · exact SliceOf.nil_ _
    · exact hb0 _
  · have h1 : 1 ≤ bs.length := by omega
    obtain ⟨ad, z, rfl, had, hc, hd, _, hz⟩ := hr.byte (k := 0) (by omega)
    have hc0 : w.cell? ad = some (.int .u8 (z.toNat : Int)) := by simpa [Addr.add] using hc
    obtain ⟨A', hsl, hrt⟩ := slice_from (k := 1) (ki := 1) hr hcap h1 rfl
    have hbs : bs = z :: bs.drop 1 := by simpa using hd
    have hc1 : ∀ z2 t2, bs.drop 1 = z2 :: t2 → w.cell? ⟨ad.block, ad.off + 1, none⟩ = some (.int .u8 (z2.toNat : Int)) := by
      intro z2 t2 h2
      have hl2 : 1 < bs.length := by
        have := congrArg List.length h2
        simp at this
        omega
      obtain ⟨ad', z3, hA, _, hc3, hd3, _, _⟩ := hr.byte (k := 1) hl2
      obtain rfl := Option.some.inj hA
      rw [hd3] at h2
      obtain rfl := (List.cons.inj h2).1
      simpa [Addr.add] using hc3
    generalize ht : bs.drop 1 = t at *
    generalize hn' : bs.length = n at *
    subst hbs
    by_cases k0 : z.toNat = 0
    · exact refRead_k0 ad A' c n z t w hc0 hsl hrt hcap h1 hn had k0
    by_cases k1 : z.toNat = 1
    · exact refRead_k1 ad A' c n z t w hc0 hsl hrt hcap h1 hn had k1
    by_cases k2 : z.toNat = 2
    · exact refRead_k2 ad A' c n z t w hc0 hc1 hsl hrt hcap h1 hn had k2
    by_cases k3 : z.toNat = 3
    · exact refRead_k3 ad A' c n z t w hc0 hsl hrt hcap h1 hn had k3
    by_cases k4 : z.toNat = 4
    · exact refRead_k4 ad A' c n z t w hc0 hsl hrt hcap h1 hn had k4
    by_cases k5 : z.toNat = 5
    · exact refRead_k5 ad A' c n z t w hc0 hsl hrt hcap h1 hn had k5
    exact refRead_k6 ad A' c n z t w hc0 hsl hrt hcap h1 hn had (by omega)


end Go.Proofs.YtklihjgmmliejaaDoor.W
