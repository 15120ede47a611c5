/- The walk of WireBursts: it returns true, whatever comes in. -/
import Derived.Test.YtccgjdbopniifaaDoorWRound
import Derived.Test.YtccgjdbopniifaaDoorWMath5
namespace Go.Proofs.YtccgjdbopniifaaDoor.W
set_option linter.unusedVariables false
open Go.RowKit
open Go.Lib (byteCells byteCells_length byteCells_append byteCells_snoc)

set_option maxRecDepth 100000 in
set_option maxHeartbeats 1000000 in
theorem burst_no (kd V n : Nat) (t : Int) (A : Option Addr) (c : Nat) (w : World) (ht : Tab w) (hkd : kd < 256) (hV : V < 4294967296)
    (hbad : kd = 0 ∨ n < 4 ∨ 1000 < n ∨ V = 0) (hn : n ≤ 9223372036854775807) :
    Calls Tryd.prog 10 #[.int .u8 kd, .slice A n c, .int .u16 t, .int .u32 V] w fun e w' => e = .returned (.bool true) ∧ Below w.heap.size w w' := by
  have CA := Lib.hid (awake_any _ ht)
  clear ht
  by_cases h1 : kd = 0
  · subst h1
    clear hbad
    go_enter Tryd.func10, Tryd.ntmps10
    go_wp2_with (go_at_call 13; refine CA.out.mono ?_; rintro e w1 ⟨rfl, hq1⟩)
    go_ret
    exact ⟨rfl, hq1⟩
  have f1 : ((kd : Int) == 0) = false := beqF (by omega)
  by_cases h2 : n < 4
  · have f2 : (n : Int) < 4 := by omega
    clear hbad h1
    go_enter Tryd.func10, Tryd.ntmps10
    go_wp2_with (go_at_call 13; refine CA.out.mono ?_; rintro e w1 ⟨rfl, hq1⟩)
    go_ret
    exact ⟨rfl, hq1⟩
  have f2 : ¬ (n : Int) < 4 := by omega
  by_cases h3 : 1000 < n
  · have f3 : (1000 : Int) < (n : Int) := by omega
    clear hbad h1 h2
    go_enter Tryd.func10, Tryd.ntmps10
    go_wp2_with (go_at_call 13; refine CA.out.mono ?_; rintro e w1 ⟨rfl, hq1⟩)
    go_ret
    exact ⟨rfl, hq1⟩
  have f3 : ¬ (1000 : Int) < (n : Int) := by omega
  obtain rfl : V = 0 := by omega
  clear hbad h1 h2 h3
  go_enter Tryd.func10, Tryd.ntmps10
  go_wp2_with (go_at_call 13; refine CA.out.mono ?_; rintro e w1 ⟨rfl, hq1⟩)
  all_goals (go_ret; exact ⟨rfl, hq1⟩)

theorem capLe {w : World} {base : Nat} {e : TypeId} {size n cap : Nat} {ad : Addr} {xs : List Value} (h : w.ownsRow base e size (.slice (some ad) n cap) n xs) : n ≤ cap := by
  rcases h.2 with ⟨h', _⟩ | ⟨g', cap', cur, h', _, _, hc, _⟩
  · simp at h'
  · injection h' with _ _ h3
    omega
theorem bitForm (V j : Nat) : ((V : Int) / 2 ^ j).tmod 2 = ((V / 2 ^ j % 2 : Nat) : Int) := by
  have e : (V : Int) / 2 ^ j = ((V / 2 ^ j : Nat) : Int) := by simp
  rw [e]; rfl
theorem bitOn {V j : Nat} (h : V.testBit j = true) : (((V : Int) / 2 ^ j).tmod 2 == 1) = true := by
  rw [Nat.testBit_eq_decide_div_mod_eq] at h
  rw [bitForm]
  exact beqT (by simp at h; omega)
theorem bitOff {V j : Nat} (h : V.testBit j = false) : (((V : Int) / 2 ^ j).tmod 2 == 1) = false := by
  rw [Nat.testBit_eq_decide_div_mod_eq] at h
  rw [bitForm]
  exact beqF (by simp at h; omega)
theorem flipV (z : UInt8) {r : Nat} (hr : r < 8) : bits .xor .u8 (z.toNat : Int) ((2 : Int) ^ r % 256) = ((z ^^^ (2 ^ r).toUInt8).toNat : Int) := by
  have hp : 2 ^ r < 256 := by
    have : 2 ^ r < 2 ^ 8 := Nat.pow_lt_pow_right (by omega) hr
    omega
  have e : (2 : Int) ^ r % 256 = ((2 ^ r : Nat) : Int) := by
    rw [show (2 : Int) ^ r = ((2 ^ r : Nat) : Int) by simp]
    generalize 2 ^ r = p at *
    exact Int.emod_eq_of_lt (by omega) (by omega)
  rw [e, u8_xor_nat _ _ z.toNat_lt hp, UInt8.toNat_xor, u8n hp]
theorem set_mid (a l b : List UInt8) (q : Nat) (z : UInt8) (hq : q < l.length) : (byteCells (a ++ (l ++ b))).set (a.length + q) (.int .u8 (z.toNat : Int)) = byteCells (a ++ (l.set q z ++ b)) := by
  have e : a ++ (l.set q z ++ b) = (a ++ (l ++ b)).set (a.length + q) z := by
    rw [List.set_append_right _ _ (by omega), show a.length + q - a.length = q by omega, List.set_append_left _ _ hq]
  rw [e]
  simp [byteCells, List.map_set]
set_option maxRecDepth 100000 in
set_option maxHeartbeats 2000000 in
theorem burst_yes (kd V t n : Nat) (A : Option Addr) (c : Nat) (body : List UInt8) (w : World) (ht : Tab w) (ha : Reads w w.heap.size 1 A n (byteCells body)) (hkd : kd < 256) (hkd0 : kd ≠ 0) (hV : V < 4294967296) (hV0 : V ≠ 0)
    (htt : t < 65536) (hn4 : 4 ≤ n) (hn : n ≤ 1000) :
    Calls Tryd.prog 10 #[.int .u8 kd, .slice A n c, .int .u16 t, .int .u32 V] w fun e w' => e = .returned (.bool true) ∧ Below w.heap.size w w' := by
  have CA := Lib.hid (awake_any _ ht)
  obtain rfl := ha.len
  have hul := enU_len (x := body.length) (by omega)
  have hup := enU_pos body.length
  have RS := Lib.hid (show rdSeal (kd : Int) body = ((65 :: 71 :: kd.toUInt8 :: enU body.length) ++ (body ++ low4 (crc (sealB kd body))), 0) by
    unfold rdSeal; rw [if_neg (by omega)]; simp [sealB])
  have RO := Lib.hid (show rdOpen ((65 :: 71 :: kd.toUInt8 :: enU body.length) ++ (body ++ low4 (crc (sealB kd body)))) = ((kd : Int), body, 3 + (enU body.length).length + body.length + 4, 0) by
    have := rdOpen_back (k := kd) (body := body) (by omega) (by omega) (by omega) []
    rw [List.append_nil, List.length_append, sealB_len, low4_len] at this
    rw [← this]; simp [sealB])
  have RB := Lib.hid (fun k l h => rdOpen_burst (kd := kd) (body := body) (l := l) (k := k) (V := V) (by omega) (by omega) (by omega) hV hV0 h)
  simp only [Int.toNat_natCast] at RB
  have CSL := Lib.hid (fun W (hW : Below w.heap.size w W) => seal_at (c := c) (w := W) (kd : Int) ((ha.below hW).more hW.size) (ht.on hW) (by omega))
  have HT := Lib.hid ht
  generalize hL4 : low4 (crc (sealB kd body)) = L4 at *
  have h4 : L4.length = 4 := by rw [← hL4]; rfl
  generalize hHD : (65 :: 71 :: kd.toUInt8 :: enU body.length : List UInt8) = HD at *
  have hhl : HD.length = 3 + (enU body.length).length := by rw [← hHD]; simp; omega
  generalize hlen : (enU body.length).length = lu at *
  clear ht hL4 hHD hlen ha
  generalize hm : body.length = m at *
  have HM := Lib.hid hm
  have H4 := Lib.hid h4
  have HH := Lib.hid hhl
  have HFL := Lib.hid (show (HD ++ (body ++ L4)).length = 3 + lu + m + 4 by rw [List.length_append, List.length_append, h4, hhl, hm]; omega)
  clear hm h4 hhl
  have f1 : ((kd : Int) == 0) = false := beqF (by omega)
  have f2 : ¬ (m : Int) < 4 := by omega
  have f3 : ¬ (1000 : Int) < (m : Int) := by omega
  have f4 : ((V : Int) == 0) = false := beqF (by omega)
  obtain ⟨k, hk⟩ : ∃ k, k = t % (8 * m - 31) := ⟨_, rfl⟩
  have hk2 : k < 8 * m - 31 := by rw [hk]; exact Nat.mod_lt _ (by omega)
  have HK := Lib.hid hk
  clear hk
  generalize hf : 3 + lu + m + 4 = f at *
  have b1 : ((f : Int) < (m : Int) + 4) = False := by apply eq_false; omega
  have b2 : ((f : Int) != (f : Int)) = false := bneF rfl
  go_enter Tryd.func10, Tryd.ntmps10
  go_upto_region 6 with (first
    | (go_at_call 13; refine CA.out.mono ?_; rintro e w1 ⟨rfl, hq1⟩)
    | (go_at_call 47; refine ((CSL.out _ hq1).mono fun _ _ h => h.to (HD ++ (body ++ L4)) f 0 (by rw [RS.out]) HFL.out (by rw [RS.out]; rfl)).mono ?_; rintro e w5 ⟨A5, c5, rfl, hc5, ho5, hr5, hq5⟩))
  have hb5 := bstep hq1 hq5
  have HT5 := HT.out.on hb5
  go_upto_region 11 with (first
    | (go_at_call 49; refine ((open_at hr5 hc5 (by rw [HFL.out]; omega) HT5).mono fun _ _ h => h.to kd body m f 0 (by rw [RO.out]) (by rw [RO.out]) HM.out (by rw [RO.out]) (by rw [RO.out]; rfl)).mono ?_; rintro e w6 ⟨A6, c6, rfl, hc6, hr6, hq6⟩))
  have hb6 := bstep hb5 hq6
  have hr6f := (hr5.below hq6).more hq6.size
  have hnil : (w6.alloc (.cells #[] 5)).ownsRow w.heap.size 5 1 (.slice (some ⟨w6.heap.size, 0, none⟩) 0 0) ([] : List UInt8).length (byteCells []) :=
    World.ownsRow_made w6 #[] 0 hb6.size (by unfold maxLen; omega) rfl
  have hb6a := hb6.alloc hb6.size (.cells #[] 5)
  have hr6a := hr6f.alloc (Nat.le_refl _) (.cells #[] 5)
  have H1 := Lib.hid (show ([] : List UInt8).length + (HD ++ (body ++ L4)).length ≤ 8796093022208 by rw [HFL.out]; simp; omega)
  go_wp2_with (first
    | (at_builtin; refine wp_append_bytes _ rfl (.tmp 88) (.tmp 89) rfl w.heap.size _ [] (HD ++ (body ++ L4)) _ _ _ _ rfl hnil rfl hr6a H1.out hb6a.size ?_; intro v7 w7 ho7 hq7; have hb7 := hb6a.trans hq7))
  rw [List.nil_append, HFL.out] at ho7
  obtain ⟨g, cap, rfl, hg1, hg2⟩ := ho7.form (by omega)
  have eb : (f : Int) - 4 - (m : Int) = 3 + (lu : Int) := by omega
  have ek : (t : Int) % (8 * (m : Int) - 31) = (k : Int) := by
    rw [show 8 * (m : Int) - 31 = ((8 * m - 31 : Nat) : Int) by omega, HK.out]
    first | exact (Int.natCast_emod _ _).symm | exact (Int.natCast_mod _ _).symm
  rw [eb, ek]
  obtain ⟨S, hS⟩ : ∃ S, S = crcFrom (BitVec.allOnes 32) HD := ⟨_, rfl⟩
  rw [← hS] at RB
  have hB0 := Burst.start S body k V
  clear hS eb ek
  go_loopw [18] (fun i wr => ∃ (j : Nat) (l : List UInt8), j ≤ 32 ∧ i = .int .i64 j ∧ wr.ownsRow w.heap.size 5 1 (.slice (some ⟨g, 0, none⟩) f cap) f (byteCells (HD ++ (l ++ L4))) ∧ Below w.heap.size w wr ∧ Burst S body k V j l) (fun i _ => 32 - (intOf i).toNat)
  case atStart => exact ⟨0, body, by omega, rfl, ho7, hb7, hB0⟩
  case round =>
    obtain ⟨j, l, hj, rfl, hown, hbel, hB⟩ := hrel
    by_cases hlt : j < 32
    · have hlt2 : (j : Int) < 32 := by omega
      cases hv : V.testBit j
      · have bo := bitOff hv
        have hB' := hB.keep hv
        clear hB hv
        go_wp2
        go_roundw
        case rel => exact ⟨j + 1, l, by omega, by go_num, hown, hbel, hB'⟩
        case measure => simp [intOf]; omega
      · have bo := bitOn hv
        have hml := HM.out
        have hll := hB.1
        have hlq : (k + j) / 8 < l.length := by rw [hll, hml]; omega
        have hB' := hB.flip hv hlt (by rw [hml]; omega)
        have hpq : 3 + lu + (k + j) / 8 < (HD ++ (l ++ L4)).length := by rw [List.length_append, HH.out]; simp; omega
        obtain ⟨z, hz⟩ : ∃ z, z = l.getD ((k + j) / 8) 0 := ⟨_, rfl⟩
        have hcz : wr.cell? ⟨g, 3 + lu + (k + j) / 8, none⟩ = some (.int .u8 (z.toNat : Int)) := by
          have h1 := (Reads.of_own hown).2 (by omega)
          obtain ⟨ad, had, _, hcell⟩ := h1
          obtain rfl := Option.some.inj had
          have h2 := hcell (3 + lu + (k + j) / 8) (.int .u8 (z.toNat : Int)) (by
            rw [byteCells_get hpq]
            have e : (HD ++ (l ++ L4))[3 + lu + (k + j) / 8]'hpq = z := by
              rw [List.getElem_append_right (by rw [HH.out]; omega), List.getElem_append_left (by rw [HH.out]; omega), hz]
              simp [HH.out, hlq]
            rw [e])
          simpa [Addr.add] using h2
        have HZ := Lib.hid hz
        clear hml hll hB hv hpq hz
        have hfr := hown.frozenAt (3 + lu + (k + j) / 8)
        have hst := fun u => (hown.stored (3 + lu + (k + j) / 8) u).1
        have hbs := fun u => hbel.setCell (p := ⟨g, 3 + lu + (k + j) / 8, none⟩) hg1 u
        have HST := Lib.hid hst
        have HBS := Lib.hid hbs
        clear hst hbs hown
        go_wp2
        go_roundw
        case rel =>
          rw [flipV z (by omega)]
          refine ⟨j + 1, _, by omega, by go_num, ?_, HBS.out _, hB'⟩
          have h1 := HST.out (.int .u8 ((z ^^^ (2 ^ ((k + j) % 8)).toUInt8).toNat : Int))
          rw [← HH.out, set_mid HD l L4 _ _ hlq] at h1
          rw [HH.out] at h1
          unfold flipAt
          rw [← HZ.out]
          exact h1
        case measure => simp [intOf]; omega
    · obtain rfl : j = 32 := by omega
      have RB2 := Lib.hid (RB.out k l hB)
      have hro := Reads.of_own hown
      have hlx : (HD ++ (l ++ L4)).length ≤ 1099511627776 := by
        have h1 := hB.1
        have h2 := HM.out
        rw [List.length_append, List.length_append, HH.out, H4.out]; omega
      have hfc : f ≤ cap := capLe hown
      have HTr := HT.out.on hbel
      clear hown hB
      go_wp2_with (first
        | (go_at_call 49; refine ((open_at hro hfc hlx HTr).mono fun _ _ h => h.to 0 [] 0 0 4 (by rw [RB2.out]) (by rw [RB2.out]) rfl (by rw [RB2.out]; rfl) (by rw [RB2.out]; rfl)).mono ?_; rintro e w8 ⟨A8, c8, rfl, hc8, hr8, hq8⟩))
      go_ret
      exact ⟨rfl, bstep hbel hq8⟩
end Go.Proofs.YtccgjdbopniifaaDoor.W
