/- The reference's Open, where the frame is whole. -/
import Derived.Test.YtklihjgmmliejaaDoorWRefO
import Derived.Deep.RegionHeld3
import Derived.Deep.DeepCutAuto
namespace Go.Proofs.YtklihjgmmliejaaDoor.W
set_option linter.unusedVariables false
open Go.RowKit
open Go.Lib (byteCells byteCells_length byteCells_append byteCells_snoc)
theorem step_append_bytes {ops : Array Oper} {o : Oper} {a : Act} {K : Act → World → Prop} {Q : Exit → Act → World → Prop} {E : Prop} (W : World) (hgd : o.guard = none) (s x : Operand)
    (ho : o.op = .call { callee := .builtin .append, args := #[s, x], argTypes := #[22, 22] }) (base : Nat) (v : Value) (l news : List UInt8) (B m c : Nat) (A : Option Addr) (hs : a.eval s = v)
    (hown : W.ownsRow base 5 1 v l.length (byteCells l)) (hx : a.eval x = .slice A m c) (hr : Reads W B 1 A m (byteCells news))
    (hl : l.length + news.length ≤ 8796093022208) (hbase : base ≤ W.heap.size)
    (h : ∀ v' w', w'.ownsRow base 5 1 v' (l ++ news).length (byteCells (l ++ news)) → Below base W w' → K (a.put o.dst v') w') :
    if Region.wanted o (yielded ops a.tmps) = true then Oper.wp Tryd.prog o a W K Q else E := by
  obtain ⟨i0, hi, hz0, hz1, hz2⟩ := info_parts u8Info
  have hm := hr.len
  refine step_append_any W hgd s x 22 ho base 5 i0 _ 1 1 Tryd.underlying22 hi hz0 hz1 hz2 rfl (by decide) v _ _ hs hown B A m c _ hx hr (byteCells_one' _) ?_ ?_ hbase ?_
  · unfold maxLen; omega
  · omega
  · intro v' w' h1 h2 _
    refine h v' w' ?_ ((Below.refl _ _).grown h2 hbase fun q hq => (hown.lt q hq).1)
    rw [byteCells_append, List.length_append, ← hm]
    exact h1
set_option maxRecDepth 100000 in
set_option maxHeartbeats 3000000 in
theorem refOpen_ok (ad : Addr) (c n : Nat) (z2 : UInt8) (bs : List UInt8) (w : World) (hr : Reads w w.heap.size 1 (some ad) n (byteCells bs)) (hnl : n = bs.length) (hcap : n ≤ c) (hl : n ≤ 1099511627776) (hn : 3 ≤ n)
    (c0 : w.cell? ad = some (.int .u8 65)) (c1 : w.cell? ⟨ad.block, ad.off + 1, none⟩ = some (.int .u8 71)) (c2 : w.cell? ⟨ad.block, ad.off + 2, none⟩ = some (.int .u8 (z2.toNat : Int))) (k2 : ((z2.toNat : Int) == 0) = false) (v m : Nat) (hx : rdU (bs.drop 3) = (v, m, 0)) (hv : v ≤ 16777216) (hm : 3 + m ≤ n) (hsh : ¬ n - (3 + m) < v + 4) (hne : low4 (crc (bs.take (3 + m + v))) = (bs.drop (3 + m + v)).take 4) :
    Calls Tryd.prog 50 #[.slice (some ad) n c] w (OpenPost w (z2.toNat : Int) ((bs.drop (3 + m)).take v) (3 + m + v + 4) 0) := by
  have b2 := z2.toNat_lt
  have hb0 := Below.refl w.heap.size w
  obtain ⟨A3, hs3, hr3⟩ := slice_from (k := 3) (ki := 3) hr hcap hn rfl
  have hcall := refReadUint_any A3 (c - 3) w.heap.size (bs.drop 3) w (by rw [List.length_drop, ← hnl]; exact hr3) (by simp; omega)
  rw [List.length_drop, ← hnl] at hcall
  rw [hx] at hcall
  have HC := Lib.hid hcall
  have hv2 : ¬ (16777216 : Int) < (v : Int) := by omega
  have w1 : IntKind.i64.wrap (3 + (m : Int)) = 3 + (m : Int) := IntWalk.i64_in _ (by omega)
  have w2 : IntKind.i64.wrap (3 + (m : Int) + (v : Int)) = 3 + (m : Int) + (v : Int) := IntWalk.i64_in _ (by omega)
  have w3 : IntKind.i64.wrap (v : Int) = (v : Int) := IntWalk.i64_in _ (by omega)
  have w4 : IntKind.i64.wrap (3 + (m : Int) + (v : Int) + 4) = 3 + (m : Int) + (v : Int) + 4 := IntWalk.i64_in _ (by omega)
  have hsh2 : ¬ (n : Int) - (3 + (m : Int)) < (v : Int) + 4 := by omega
  have hs5 := slice_to (k := 3 + m + v) (ki := 3 + (m : Int) + (v : Int)) hr hcap (by omega) (by omega) (by omega)
  obtain ⟨A4, hs4, hr4⟩ := slice_mid (i := 3 + m + v) (j := 3 + m + v + 4) (ii := 3 + (m : Int) + (v : Int)) (ij := 3 + (m : Int) + (v : Int) + 4) hr hcap (by omega) (by omega) (by omega) (by omega)
  have hv4 : 3 + m + v + 4 - (3 + m + v) = 4 := by omega
  rw [hv4] at hs4 hr4
  have CS := Lib.hid (fun W (hW : Below w.heap.size w W) => refChecksum_at (c := c) ((hr.takeTo (k := 3 + m + v) (by omega)).below hW) (by simp; omega))
  have CL := Lib.hid (fun W => (refLow_any (crc (bs.take (3 + m + v))) W).mono fun _ _ h => h.to ((bs.drop (3 + m + v)).take 4) 4 hne (by rw [← hne]; rfl))
  have RS := Lib.hid (fun W (hW : Below w.heap.size w W) => run_str (P := Tryd.prog) Tryd.underlying22 Tryd.underlying5 Tryd.underlying9 (hr4.below hW) (c - (3 + m + v)))
  have hst0 := RS.out w.drew hb0.drew
  obtain ⟨A6, hs6, hr6⟩ := slice_mid (i := 3 + m) (j := 3 + m + v) (ii := 3 + (m : Int)) (ij := 3 + (m : Int) + (v : Int)) hr hcap (by omega) (by omega) (by omega) (by omega)
  have hv6 : 3 + m + v - (3 + m) = v := by omega
  rw [hv6] at hs6 hr6
  have hbl : ((bs.drop (3 + m)).take v).length = v := by rw [List.length_take, List.length_drop]; omega
  have had : ad.block < w.heap.size := by obtain ⟨ad', hA, hb, _⟩ := hr.2 (by omega); cases hA; exact hb
  have w5' : IntKind.i64.wrap (z2.toNat : Int) = (z2.toNat : Int) := IntWalk.i64_in _ (by omega)
  have hn2 : (2 : Int) < (n : Int) := by omega
  have hn3 : 2 < n := by omega
  have C2 := Lib.hid (fun W (hW : Below w.heap.size w W) => (hW.cell (p := ⟨ad.block, ad.off + 2, none⟩) had).trans c2)
  have R6 := Lib.hid (fun W (hW : Below w.heap.size w W) => hr6.below hW)
  have O6 := Lib.hid (fun W => World.ownsRow_made (base := w.heap.size) (e := 5) (size := 1) W #[] 0)
  generalize hBD : (bs.drop (3 + m)).take v = body at *
  have HBL := Lib.hid hbl
  clear hne
  generalize crc (bs.take (3 + m + v)) = CR at *
  generalize (bs.drop (3 + m + v)).take 4 = X4 at *
  clear hcall hx hnl hr3 hr4 hr hbl hr6 hBD
  go_enter Tryd.func50, Tryd.ntmps50
  go_wp2_with (go_at_call 15; refine HC.out.mono ?_; rintro e w' ⟨rfl, rfl⟩)
  go_region_law (first
    | (go_simp; go_at_call 52; (with_reducible refine (CS.out _ (by exact hb0.drew)).mono ?_); rintro e w' ⟨rfl, rfl⟩)
    | (go_simp; go_at_call 69; (with_reducible refine (CL.out _).mono ?_); rintro e w5 ⟨A5, c5, rfl, hc5, ho5, hr5, hq5⟩; (have hb5 : Below w.heap.size w w5 := hb0.drew.trans hq5); (have hst5 := RS.out w5 hb5); (have hsl5 := run_str (P := Tryd.prog) Tryd.underlying22 Tryd.underlying5 Tryd.underlying9 hr5 c5)))
  all_goals
    go_wp2_with fail
    have hsz5 := hb5.size
    have hbq : Below w.heap.size w (w5.alloc (.cells #[] 5)).drew := (hb5.alloc hsz5 _).drew
    have q5 := C2.out _ hb5
    have q6 := C2.out _ (hb5.alloc hsz5 (.cells #[] 5))
    have o5 : (w5.alloc (.cells #[] 5)).drew.ownsRow w.heap.size 5 1 (.slice (some ⟨w5.heap.size, 0, none⟩) 0 0) ([] : List UInt8).length (byteCells []) := O6.out w5 hsz5 (by decide) rfl
    clear hst0 hs5 hs4 hs3 c0 c1 c2 CS CL RS HC hst5 hsl5 hr5 ho5
    go_region_held3 (fun W' => W'.cell? ⟨ad.block, ad.off + 2, none⟩ = some (.int .u8 (z2.toNat : Int)))
      (first | exact q7 | exact q6 | exact q5)
      (first
        | (refine step_append_bytes _ rfl (.tmp 73) (.tmp 77) rfl w.heap.size _ [] body _ _ _ _ rfl o5 rfl (R6.out _ hbq) (by have := HBL.out; simp; omega) hbq.size ?_; intro v7 w7 ho7 hq7; have hb7 : Below w.heap.size w w7 := hbq.trans hq7; have q7 := C2.out _ hb7))
    all_goals
      go_wp2_with fail
      rw [List.nil_append] at ho7
      obtain ⟨A9, c9, hv9, hc9, hr9⟩ := SliceOf.of_own (base := w.heap.size) (e := 5) (by rw [byteCells_length]; exact ho7)
      rw [byteCells_length] at hv9 hc9
      subst hv9
      go_simp
      refine bodyPost_ret (results_tmp4 rfl _ _ _) rfl ?_
      have h4 : (3 + (m : Int) + (v : Int) + 4) = ((3 + m + v + 4 : Nat) : Int) := by omega
      exact ⟨A9, c9, ret4 rfl rfl h4 rfl, hc9, ho7, hb7⟩
end Go.Proofs.YtklihjgmmliejaaDoor.W
