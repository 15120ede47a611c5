/- The reference's Open. -/
import Derived.Test.YtklihjgmmliejaaDoorWRefS
import Derived.Test.YtklihjgmmliejaaDoorWRefU
namespace Go.Proofs.YtklihjgmmliejaaDoor.W
set_option linter.unusedVariables false
open Go.RowKit
open Go.Lib (byteCells byteCells_length byteCells_append byteCells_snoc)

set_option maxRecDepth 100000 in
set_option maxHeartbeats 400000 in
theorem refOpen_short (A : Option Addr) (c n : Nat) (w : World) (hn : n < 3) :
    Calls Tryd.prog 50 #[.slice A n c] w (OpenPost w 0 [] 0 2) := by
  go_enter Tryd.func50, Tryd.ntmps50
  go_wp2_with fail
  refine bodyPost_ret (results_tmp4 rfl _ _ _) rfl ?_
  exact openPost_nil (Below.refl _ _)

set_option maxRecDepth 100000 in
set_option maxHeartbeats 1000000 in
/-- The head: the first three bytes are not a frame's. -/
theorem refOpen_head (A : Option Addr) (c : Nat) (bs : List UInt8) (w : World) (hr : Reads w w.heap.size 1 A bs.length (byteCells bs)) (hn : 3 ≤ bs.length) (hl : bs.length ≤ 1099511627776) (hbad : bs.getD 0 0 ≠ 65 ∨ bs.getD 1 0 ≠ 71 ∨ bs.getD 2 0 = 0) :
    Calls Tryd.prog 50 #[.slice A bs.length c] w (OpenPost w 0 [] 0 3) := by
  obtain ⟨ad, z0, rfl, _, c0, _, e0, b0⟩ := hr.byte (k := 0) (by omega)
  obtain ⟨ad', z1, hA, _, c1, _, e1, b1⟩ := hr.byte (k := 1) (by omega)
  obtain rfl := Option.some.inj hA
  obtain ⟨ad', z2, hA, _, c2, _, e2, b2⟩ := hr.byte (k := 2) (by omega)
  obtain rfl := Option.some.inj hA
  have c0' : w.cell? ad = some (.int .u8 (z0.toNat : Int)) := by simpa [Addr.add] using c0
  have c1' : w.cell? ⟨ad.block, ad.off + 1, none⟩ = some (.int .u8 (z1.toNat : Int)) := by simpa [Addr.add] using c1
  have c2' : w.cell? ⟨ad.block, ad.off + 2, none⟩ = some (.int .u8 (z2.toNat : Int)) := by simpa [Addr.add] using c2
  simp only [List.getD, e0, e1, e2, Option.getD_some] at hbad
  have hz0 : z0 = 65 ↔ z0.toNat = 65 := UInt8.toNat_inj.symm
  have hz1 : z1 = 71 ↔ z1.toNat = 71 := UInt8.toNat_inj.symm
  have hz2 : z2 = 0 ↔ z2.toNat = 0 := UInt8.toNat_inj.symm
  rw [ne_eq, ne_eq, hz0, hz1, hz2] at hbad
  generalize bs.length = n at *
  have hb0 := Below.refl w.heap.size w
  clear hz0 hz1 hz2 e0 e1 e2 c0 c1 c2
  by_cases g0 : z0.toNat = 65
  · have k0 : ((z0.toNat : Int) != 65) = false := bneF (by omega)
    by_cases g1 : z1.toNat = 71
    · have k1 : ((z1.toNat : Int) != 71) = false := bneF (by omega)
      have k2 : ((z2.toNat : Int) == 0) = true := beqT (by omega)
      clear g0 g1 hbad
      go_enter Tryd.func50, Tryd.ntmps50
      go_wp2_with fail
      refine bodyPost_ret (results_tmp4 rfl _ _ _) rfl ?_
      exact openPost_nil hb0
    · have k1 : ((z1.toNat : Int) != 71) = true := bneT (by omega)
      clear g0 g1 hbad
      go_enter Tryd.func50, Tryd.ntmps50
      go_wp2_with fail
      refine bodyPost_ret (results_tmp4 rfl _ _ _) rfl ?_
      exact openPost_nil hb0
  · have k0 : ((z0.toNat : Int) != 65) = true := bneT (by omega)
    clear g0 hbad
    go_enter Tryd.func50, Tryd.ntmps50
    go_wp2_with fail
    refine bodyPost_ret (results_tmp4 rfl _ _ _) rfl ?_
    exact openPost_nil hb0

set_option maxRecDepth 100000 in
set_option maxHeartbeats 1000000 in
theorem refOpen_err (ad : Addr) (c n : Nat) (z2 : UInt8) (bs : List UInt8) (w : World) (hr : Reads w w.heap.size 1 (some ad) n (byteCells bs)) (hnl : n = bs.length) (hcap : n ≤ c) (hl : n ≤ 1099511627776) (hn : 3 ≤ n)
    (c0 : w.cell? ad = some (.int .u8 65)) (c1 : w.cell? ⟨ad.block, ad.off + 1, none⟩ = some (.int .u8 71)) (c2 : w.cell? ⟨ad.block, ad.off + 2, none⟩ = some (.int .u8 (z2.toNat : Int))) (k2 : ((z2.toNat : Int) == 0) = false) (v m e : Nat) (hx : rdU (bs.drop 3) = (v, m, e)) (he : e ≠ 0) :
    Calls Tryd.prog 50 #[.slice (some ad) n c] w (OpenPost w 0 [] 0 e) := by
  have b2 := z2.toNat_lt
  have hb0 := Below.refl w.heap.size w
  obtain ⟨A3, hs3, hr3⟩ := slice_from (k := 3) (ki := 3) hr hcap hn rfl
  have hcall := refReadUint_any A3 (c - 3) w.heap.size (bs.drop 3) w (by rw [List.length_drop, ← hnl]; exact hr3) (by simp; omega)
  rw [List.length_drop, ← hnl] at hcall
  rw [hx] at hcall
  have HC := Lib.hid hcall
  have hb : ((e : Int) != 0) = true := bneT (by omega)
  clear hcall hx he hnl hr3
  go_enter Tryd.func50, Tryd.ntmps50
  go_wp2_with (go_at_call 15; refine HC.out.mono ?_; rintro e w' ⟨rfl, rfl⟩)
  refine bodyPost_ret (results_tmp4 rfl _ _ _) rfl ?_
  exact openPost_nil hb0

set_option maxRecDepth 100000 in
set_option maxHeartbeats 1000000 in
theorem refOpen_limit (ad : Addr) (c n : Nat) (z2 : UInt8) (bs : List UInt8) (w : World) (hr : Reads w w.heap.size 1 (some ad) n (byteCells bs)) (hnl : n = bs.length) (hcap : n ≤ c) (hl : n ≤ 1099511627776) (hn : 3 ≤ n)
    (c0 : w.cell? ad = some (.int .u8 65)) (c1 : w.cell? ⟨ad.block, ad.off + 1, none⟩ = some (.int .u8 71)) (c2 : w.cell? ⟨ad.block, ad.off + 2, none⟩ = some (.int .u8 (z2.toNat : Int))) (k2 : ((z2.toNat : Int) == 0) = false) (v m : Nat) (hx : rdU (bs.drop 3) = (v, m, 0)) (hv : 16777216 < v) :
    Calls Tryd.prog 50 #[.slice (some ad) n c] w (OpenPost w 0 [] 0 5) := by
  have b2 := z2.toNat_lt
  have hb0 := Below.refl w.heap.size w
  obtain ⟨A3, hs3, hr3⟩ := slice_from (k := 3) (ki := 3) hr hcap hn rfl
  have hcall := refReadUint_any A3 (c - 3) w.heap.size (bs.drop 3) w (by rw [List.length_drop, ← hnl]; exact hr3) (by simp; omega)
  rw [List.length_drop, ← hnl] at hcall
  rw [hx] at hcall
  have HC := Lib.hid hcall
  have hv2 : (16777216 : Int) < (v : Int) := by omega
  clear hcall hx hnl hr3
  go_enter Tryd.func50, Tryd.ntmps50
  go_wp2_with (go_at_call 15; refine HC.out.mono ?_; rintro e w' ⟨rfl, rfl⟩)
  refine bodyPost_ret (results_tmp4 rfl _ _ _) rfl ?_
  exact openPost_nil hb0

set_option maxRecDepth 100000 in
set_option maxHeartbeats 1000000 in
theorem refOpen_trunc (ad : Addr) (c n : Nat) (z2 : UInt8) (bs : List UInt8) (w : World) (hr : Reads w w.heap.size 1 (some ad) n (byteCells bs)) (hnl : n = bs.length) (hcap : n ≤ c) (hl : n ≤ 1099511627776) (hn : 3 ≤ n)
    (c0 : w.cell? ad = some (.int .u8 65)) (c1 : w.cell? ⟨ad.block, ad.off + 1, none⟩ = some (.int .u8 71)) (c2 : w.cell? ⟨ad.block, ad.off + 2, none⟩ = some (.int .u8 (z2.toNat : Int))) (k2 : ((z2.toNat : Int) == 0) = false) (v m : Nat) (hx : rdU (bs.drop 3) = (v, m, 0)) (hv : v ≤ 16777216) (hm : 3 + m ≤ n) (hsh : n - (3 + m) < v + 4) :
    Calls Tryd.prog 50 #[.slice (some ad) n c] w (OpenPost w 0 [] 0 2) := by
  have b2 := z2.toNat_lt
  have hb0 := Below.refl w.heap.size w
  obtain ⟨A3, hs3, hr3⟩ := slice_from (k := 3) (ki := 3) hr hcap hn rfl
  have hcall := refReadUint_any A3 (c - 3) w.heap.size (bs.drop 3) w (by rw [List.length_drop, ← hnl]; exact hr3) (by simp; omega)
  rw [List.length_drop, ← hnl] at hcall
  rw [hx] at hcall
  have HC := Lib.hid hcall
  have hv2 : ¬ (16777216 : Int) < (v : Int) := by omega
  have w1 : IntKind.i64.wrap (3 + (m : Int)) = 3 + (m : Int) := IntWalk.i64_in _ (by omega)
  have w3 : IntKind.i64.wrap (v : Int) = (v : Int) := IntWalk.i64_in _ (by omega)
  have hsh2 : (n : Int) - (3 + (m : Int)) < (v : Int) + 4 := by omega
  clear hcall hx hnl hr3
  go_enter Tryd.func50, Tryd.ntmps50
  go_wp2_with (go_at_call 15; refine HC.out.mono ?_; rintro e w' ⟨rfl, rfl⟩)
  refine bodyPost_ret (results_tmp4 rfl _ _ _) rfl ?_
  exact openPost_nil hb0

set_option maxRecDepth 100000 in
set_option maxHeartbeats 1000000 in
theorem refOpen_sum (ad : Addr) (c n : Nat) (z2 : UInt8) (bs : List UInt8) (w : World) (hr : Reads w w.heap.size 1 (some ad) n (byteCells bs)) (hnl : n = bs.length) (hcap : n ≤ c) (hl : n ≤ 1099511627776) (hn : 3 ≤ n)
    (c0 : w.cell? ad = some (.int .u8 65)) (c1 : w.cell? ⟨ad.block, ad.off + 1, none⟩ = some (.int .u8 71)) (c2 : w.cell? ⟨ad.block, ad.off + 2, none⟩ = some (.int .u8 (z2.toNat : Int))) (k2 : ((z2.toNat : Int) == 0) = false) (v m : Nat) (hx : rdU (bs.drop 3) = (v, m, 0)) (hv : v ≤ 16777216) (hm : 3 + m ≤ n) (hsh : ¬ n - (3 + m) < v + 4) (hne : low4 (crc (bs.take (3 + m + v))) ≠ (bs.drop (3 + m + v)).take 4) :
    Calls Tryd.prog 50 #[.slice (some ad) n c] w (OpenPost w 0 [] 0 4) := by
  have b2 := z2.toNat_lt
  have hb0 := Below.refl w.heap.size w
  obtain ⟨A3, hs3, hr3⟩ := slice_from (k := 3) (ki := 3) hr hcap hn rfl
  have hcall := refReadUint_any A3 (c - 3) w.heap.size (bs.drop 3) w (by rw [List.length_drop, ← hnl]; exact hr3) (by simp; omega)
  rw [List.length_drop, ← hnl] at hcall
  rw [hx] at hcall
  have HC := Lib.hid hcall
  have hv2 : ¬ (16777216 : Int) < (v : Int) := by omega
  have w1 : IntKind.i64.wrap (3 + (m : Int)) = 3 + (m : Int) := IntWalk.i64_in _ (by omega)
  have w2 : IntKind.i64.wrap (3 + (m : Int) + (v : Int)) = 3 + (m : Int) + (v : Int) := IntWalk.i64_in _ (by omega)
  have w3 : IntKind.i64.wrap (v : Int) = (v : Int) := IntWalk.i64_in _ (by omega)
  have w4 : IntKind.i64.wrap (3 + (m : Int) + (v : Int) + 4) = 3 + (m : Int) + (v : Int) + 4 := IntWalk.i64_in _ (by omega)
  have hsh2 : ¬ (n : Int) - (3 + (m : Int)) < (v : Int) + 4 := by omega
  have hs5 := slice_to (k := 3 + m + v) (ki := 3 + (m : Int) + (v : Int)) hr hcap (by omega) (by omega) (by omega)
  obtain ⟨A4, hs4, hr4⟩ := slice_mid (i := 3 + m + v) (j := 3 + m + v + 4) (ii := 3 + (m : Int) + (v : Int)) (ij := 3 + (m : Int) + (v : Int) + 4) hr hcap (by omega) (by omega) (by omega) (by omega)
  have hv4 : 3 + m + v + 4 - (3 + m + v) = 4 := by omega
  rw [hv4] at hs4 hr4
  have CS := Lib.hid (fun W (hW : Below w.heap.size w W) => refChecksum_at (c := c) ((hr.takeTo (k := 3 + m + v) (by omega)).below hW) (by simp; omega))
  have CL := Lib.hid (fun W => (refLow_any (crc (bs.take (3 + m + v))) W).mono fun _ _ h => h.to (low4 (crc (bs.take (3 + m + v)))) 4 rfl rfl)
  have RS := Lib.hid (fun W (hW : Below w.heap.size w W) => run_str (P := Tryd.prog) Tryd.underlying22 Tryd.underlying5 Tryd.underlying9 (hr4.below hW) (c - (3 + m + v)))
  have hst0 := RS.out w.drew hb0.drew
  have hz2 : (low4 (crc (bs.take (3 + m + v))) == (bs.drop (3 + m + v)).take 4) = false := by simpa using hne
  have hz3 : (low4 (crc (bs.take (3 + m + v))) != (bs.drop (3 + m + v)).take 4) = true := by simpa using hne
  generalize low4 (crc (bs.take (3 + m + v))) = L4 at *
  generalize crc (bs.take (3 + m + v)) = CR at *
  generalize (bs.drop (3 + m + v)).take 4 = X4 at *
  clear hcall hx hnl hr3 hne hr4 hr
  go_enter Tryd.func50, Tryd.ntmps50
  go_wp2_with (go_at_call 15; refine HC.out.mono ?_; rintro e w' ⟨rfl, rfl⟩)
  go_region_law (first
    | (go_simp; go_at_call 52; (with_reducible refine (CS.out _ (by exact hb0.drew)).mono ?_); rintro e w' ⟨rfl, rfl⟩)
    | (go_simp; go_at_call 69; (with_reducible refine (CL.out _).mono ?_); rintro e w5 ⟨A5, c5, rfl, hc5, ho5, hr5, hq5⟩; (have hb5 : Below w.heap.size w w5 := hb0.drew.trans hq5); (have hst5 := RS.out w5 hb5); (have hsl5 := run_str (P := Tryd.prog) Tryd.underlying22 Tryd.underlying5 Tryd.underlying9 hr5 c5)))
  all_goals
    go_wp2_with fail
    refine bodyPost_ret (results_tmp4 rfl _ _ _) rfl ?_
    exact openPost_nil hb5

end Go.Proofs.YtklihjgmmliejaaDoor.W
