/- The walk of WireTruncated: it returns true, whatever comes in. -/
import Derived.Test.YtccgjdbopniifaaDoorWRound
import Derived.Test.YtccgjdbopniifaaDoorWMath4
namespace Go.Proofs.YtccgjdbopniifaaDoor.W
set_option linter.unusedVariables false
open Go.RowKit
open Go.Lib (byteCells byteCells_length byteCells_append byteCells_snoc)

set_option maxRecDepth 100000 in
set_option maxHeartbeats 1000000 in
theorem trunc_no (v : GV) (I L : Option Addr) (ci cl : Nat) (t : Int) (A : Option Addr) (c n : Nat) (w : World) (hv : GVraw w w.heap.size v I L ci cl) (ht : Tab w)
    (hbad : smallV v = false ∨ v.ok = false ∨ 1000 < n) (hn : n ≤ 9223372036854775807) :
    Calls Tryd.prog 9 #[gvV v I L ci cl, .slice A n c, .int .u16 t] w fun e w' => e = .returned (.bool true) ∧ Below w.heap.size w w' := by
  have hb0 := (Below.refl w.heap.size w).alloc (Nat.le_refl _) (.cells (box v I L ci cl) 55)
  have CA := Lib.hid (awake_any _ (ht.on hb0))
  have CS := Lib.hid (fun W (hW : Below w.heap.size w W) => small_any v I L ci cl w.heap.size W (hv.below hW) hW.size)
  have CV := Lib.hid (fun (hs : smallV v = true) W (hW : Below w.heap.size w W) => valid_any v I L ci cl w.heap.size W ((hv.arg hs).below hW) hW.size)
  obtain ⟨k, m, s, i, l⟩ := v
  dsimp only [gvV, strV, box] at *
  have hB0 := Lib.hid (Blk.new w 55 #[.int .i64 k, .int .i64 m, .string ⟨s.toArray⟩, .slice I i.length ci, .slice L l.length cl])
  clear hv ht
  cases hsm : smallV ⟨k, m, s, i, l⟩
  · rw [hsm] at CS
    clear hbad hsm
    go_enter Tryd.func9, Tryd.ntmps9
    go_wp2_with (first
      | (go_at_call 13; refine CA.out.mono ?_; rintro e w1 ⟨rfl, hq1⟩; obtain ⟨hb1, hB1⟩ := hB0.out.step hb0 hq1; obtain ⟨q0, q1, q2, q3, q4⟩ := hB1.box5)
      | (go_at_call 38; refine (CS.out _ hb1).mono ?_; rintro e w2 ⟨rfl, hq2⟩; obtain ⟨hb2, hB2⟩ := hB1.step hb1 hq2; clear q0 q1 q2 q3 q4; obtain ⟨q0, q1, q2, q3, q4⟩ := hB2.box5))
    go_ret
    exact ⟨rfl, hb2⟩
  · rw [hsm] at CS
    have CV2 := Lib.hid (CV.out hsm)
    cases hok : GV.ok ⟨k, m, s, i, l⟩
    · rw [hok] at CV2
      clear hbad hsm hok CV
      go_enter Tryd.func9, Tryd.ntmps9
      go_wp2_with (first
        | (go_at_call 13; refine CA.out.mono ?_; rintro e w1 ⟨rfl, hq1⟩; obtain ⟨hb1, hB1⟩ := hB0.out.step hb0 hq1; obtain ⟨q0, q1, q2, q3, q4⟩ := hB1.box5)
        | (go_at_call 38; refine (CS.out _ hb1).mono ?_; rintro e w2 ⟨rfl, hq2⟩; obtain ⟨hb2, hB2⟩ := hB1.step hb1 hq2; clear q0 q1 q2 q3 q4; obtain ⟨q0, q1, q2, q3, q4⟩ := hB2.box5)
        | (go_at_call 42; refine (CV2.out _ hb2).mono ?_; rintro e w3 ⟨rfl, hq3⟩; obtain ⟨hb3, hB3⟩ := hB2.step hb2 hq3; clear q0 q1 q2 q3 q4; obtain ⟨q0, q1, q2, q3, q4⟩ := hB3.box5))
      go_ret
      exact ⟨rfl, hb3⟩
    · rw [hok] at CV2
      have h1 : 1000 < n := by
        rcases hbad with h | h | h
        · rw [hsm] at h; cases h
        · rw [hok] at h; cases h
        · exact h
      clear hbad hsm hok CV
      have h1' : (1000 : Int) < (n : Int) := by omega
      go_enter Tryd.func9, Tryd.ntmps9
      go_wp2_with (first
        | (go_at_call 13; refine CA.out.mono ?_; rintro e w1 ⟨rfl, hq1⟩; obtain ⟨hb1, hB1⟩ := hB0.out.step hb0 hq1; obtain ⟨q0, q1, q2, q3, q4⟩ := hB1.box5)
        | (go_at_call 38; refine (CS.out _ hb1).mono ?_; rintro e w2 ⟨rfl, hq2⟩; obtain ⟨hb2, hB2⟩ := hB1.step hb1 hq2; clear q0 q1 q2 q3 q4; obtain ⟨q0, q1, q2, q3, q4⟩ := hB2.box5)
        | (go_at_call 42; refine (CV2.out _ hb2).mono ?_; rintro e w3 ⟨rfl, hq3⟩; obtain ⟨hb3, hB3⟩ := hB2.step hb2 hq3; clear q0 q1 q2 q3 q4; obtain ⟨q0, q1, q2, q3, q4⟩ := hB3.box5))
      go_ret
      exact ⟨rfl, hb3⟩

theorem seal1 {body : List UInt8} (h : body.length ≤ 16777216) : rdSeal 1 body = (sealB 1 body ++ low4 (crc (sealB 1 body)), 0) := by
  unfold rdSeal
  rw [if_neg (by omega)]
theorem enV_pos (v : GV) : 0 < (enV v).length := by
  unfold enV
  rw [List.length_cons]; omega
set_option maxRecDepth 100000 in
set_option maxHeartbeats 2000000 in
theorem trunc_yes (v : GV) (I L : Option Addr) (ci cl : Nat) (t : Nat) (A : Option Addr) (c n : Nat) (body : List UInt8) (w : World) (hv : GVraw w w.heap.size v I L ci cl) (ht : Tab w)
    (ha : Reads w w.heap.size 1 A n (byteCells body)) (htt : t < 65536) (hsm : smallV v = true) (hok : v.ok = true) (hn : n ≤ 1000) :
    Calls Tryd.prog 9 #[gvV v I L ci cl, .slice A n c, .int .u16 t] w fun e w' => e = .returned (.bool true) ∧ Below w.heap.size w w' := by
  have hb0 := (Below.refl w.heap.size w).alloc (Nat.le_refl _) (.cells (box v I L ci cl) 55)
  obtain rfl := ha.len
  have CA := Lib.hid (awake_any _ (ht.on hb0))
  have CS := Lib.hid (fun W (hW : Below w.heap.size w W) => small_any v I L ci cl w.heap.size W (hv.below hW) hW.size)
  rw [hsm] at CS
  have hg := hv.arg hsm
  have CV2 := Lib.hid (fun W (hW : Below w.heap.size w W) => valid_any v I L ci cl w.heap.size W (hg.below hW) hW.size)
  rw [hok] at CV2
  have hin : v.in64 := ⟨hg.n64, hg.i64⟩
  have hvl := enV_small hok hg.i64 hg.n64
  have hvp := enV_pos v
  have hul := enU_len (x := body.length) (by omega)
  have RV := Lib.hid (fun k (hk : k < (enV v).length) => rdV_cut hok hin hk)
  have RO := Lib.hid (fun k hk => rdOpen_cut (k := 1) (body := body) (by omega) (by omega) (by omega) (j := k) hk)
  have RS := Lib.hid (seal1 (body := body) (by omega))
  have hfl : (sealB 1 body ++ low4 (crc (sealB 1 body))).length = 7 + (enU body.length).length + body.length := by rw [List.length_append, sealB_len, low4_len]; omega
  have cav0 := fun W (hW : Below w.heap.size w W) => appendValue_at (c := 0) (A := none) (bs := []) (w := W) Reads.nothing ((hg.below hW).more hW.size) (by simp; omega) hok (enV v).length (by simp)
  simp only [List.nil_append] at cav0
  have CAV := Lib.hid cav0
  clear cav0
  have CSL := Lib.hid (fun W (hW : Below w.heap.size w W) => seal_at (c := c) (w := W) 1 ((ha.below hW).more hW.size) (ht.on hW) (by omega))
  have HT := Lib.hid ht
  have hh1 : ¬ (1000 : Int) < (body.length : Int) := by omega
  generalize hEV : enV v = EV at *
  generalize hFR : sealB 1 body ++ low4 (crc (sealB 1 body)) = FR at *
  obtain ⟨k, m, s, i, l⟩ := v
  dsimp only [gvV, strV, box] at *
  have hB0 := Lib.hid (Blk.new w 55 #[.int .i64 k, .int .i64 m, .string ⟨s.toArray⟩, .slice I i.length ci, .slice L l.length cl])
  clear hv ht hg hsm hok hin hEV ha hFR
  generalize hLV : EV.length = lv at *
  generalize hLF : FR.length = lf at *
  have HLV := Lib.hid hLV
  have HLF := Lib.hid hLF
  clear hLV hLF
  have hlf0 : 0 < lf := by omega
  have hlf1 : lf < 2000 := by omega
  clear hfl hul
  have e1 : ((lv : Int) == 0) = false := beqF (by omega)
  have e2 : ((lf : Int) == 0) = false := beqF (by omega)
  have m1 : t % lv < lv := Nat.mod_lt _ hvp
  have m2 : t % lf < lf := Nat.mod_lt _ hlf0
  go_enter Tryd.func9, Tryd.ntmps9
  go_upto_region 6 with (first
    | (go_at_call 13; refine CA.out.mono ?_; rintro e w1 ⟨rfl, hq1⟩; obtain ⟨hb1, hB1⟩ := hB0.out.step hb0 hq1; obtain ⟨q0, q1, q2, q3, q4⟩ := hB1.box5)
    | (go_at_call 38; refine (CS.out _ hb1).mono ?_; rintro e w2 ⟨rfl, hq2⟩; obtain ⟨hb2, hB2⟩ := hB1.step hb1 hq2; clear q0 q1 q2 q3 q4; obtain ⟨q0, q1, q2, q3, q4⟩ := hB2.box5)
    | (go_at_call 42; refine (CV2.out _ hb2).mono ?_; rintro e w3 ⟨rfl, hq3⟩; obtain ⟨hb3, hB3⟩ := hB2.step hb2 hq3; clear q0 q1 q2 q3 q4; obtain ⟨q0, q1, q2, q3, q4⟩ := hB3.box5)
    | (go_at_call 45; refine (CAV.out _ hb3).mono ?_; rintro e w4 ⟨A4, c4, rfl, hc4, ho4, hr4, hq4⟩; obtain ⟨hb4, hB4⟩ := hB3.step hb3 hq4))
  go_upto_region 9 with (first
    | (go_at_call 47; refine ((CSL.out _ hb4).mono fun _ _ h => h.to FR lf 0 (by rw [RS.out]) HLF.out (by rw [RS.out]; rfl)).mono ?_; rintro e w5 ⟨A5, c5, rfl, hc5, ho5, hr5, hq5⟩; obtain ⟨hb5, hB5⟩ := hB4.step hb4 hq5))
  have hr5x := (((hr4.below hq5).more hq5.size).takeTo (k := t % lv) (by omega))
  have hx1 : (EV.take (t % lv)).length ≤ 1099511627776 := by rw [List.length_take]; omega
  have hx2 : t % lv ≤ c4 := by omega
  have hx3 := RV.out (t % lv) m1
  have HX := Lib.hid hx3
  clear hx3
  go_upto_region 10 with (first
    | (go_at_call 39; refine ((value_at hr5x hx1 hx2).mono fun _ _ h => h.to ⟨0, 0, [], [], []⟩ 0 0 0 2 (by rw [HX.out]; rfl) rfl rfl (by rw [HX.out]; rfl) (by rw [HX.out]; rfl)).mono ?_; rintro e w6 ⟨I6, ci6, L6, cl6, rfl, hi6, hl6, hri6, hrl6, hq6⟩; obtain ⟨hb6, hB6⟩ := hB5.step hb5 hq6))
  have hq7 : Below w5.heap.size w5 (w6.alloc (.cells #[.int .i64 0, .int .i64 0, .string ⟨#[]⟩, .slice I6 0 ci6, .slice L6 0 cl6] 55)) := hq6.alloc hq6.size _
  have hb7 := hb6.alloc hb6.size (.cells #[.int .i64 0, .int .i64 0, .string ⟨#[]⟩, .slice I6 0 ci6, .slice L6 0 cl6] 55)
  have hr7x := (((hr5.below hq7).more hq7.size).takeTo (k := t % lf) (by omega))
  have hy1 : (FR.take (t % lf)).length ≤ 1099511627776 := by rw [List.length_take]; omega
  have hy2 : t % lf ≤ c5 := by omega
  have HT7 := HT.out.on hb7
  have HY := Lib.hid (RO.out (t % lf) m2)
  go_wp2_with (first
    | (go_at_call 49; refine ((open_at hr7x hy2 hy1 HT7).mono fun _ _ h => h.to 0 [] 0 0 2 (by rw [HY.out]) (by rw [HY.out]) rfl (by rw [HY.out]; rfl) (by rw [HY.out]; rfl)).mono ?_; rintro e w8 ⟨A8, c8, rfl, hc8, hr8, hq8⟩))
  go_ret
  exact ⟨rfl, bstep hb7 hq8⟩
end Go.Proofs.YtccgjdbopniifaaDoor.W
