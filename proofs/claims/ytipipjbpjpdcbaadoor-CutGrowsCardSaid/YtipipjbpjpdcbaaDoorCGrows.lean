/- Layer 7: the walk of CutGrows. -/
import Derived.Test.YtipipjbpjpdcbaaDoorCNoise
namespace Go.Proofs.YtipipjbpjpdcbaaDoor.Ct
set_option linter.unusedVariables false
set_option linter.unusedSimpArgs false
open Go.RowKit
open Go.Proofs.YtipipjbpjpdcbaaDoor.W
open Go.Proofs.YtipipjbpjpdcbaaDoor.V
open Go.Proofs.YtipipjbpjpdcbaaDoor.O
open Go.Proofs.YtipipjbpjpdcbaaDoor.Pb (Alr alrC alrsC len_alrsC step_append_alr reads_blk)
open Go.Proofs.YtipipjbpjpdcbaaDoor.Al

theorem u16Info : (Tryd.prog.info? 42).map (fun i => (i.zero, i.size, i.bytes)) = some (some (.int .u16 0), 1, 2) := by kernel_rfl
theorem step_append_u16 {ops : Array Oper} {o : Oper} {a : Act} {K : Act → World → Prop} {Q : Exit → Act → World → Prop} {E : Prop} (W : World) (hgd : o.guard = none) (s x : Operand)
    (ho : o.op = .call { callee := .builtin .append, args := #[s, x], argTypes := #[37, 37] }) (base : Nat) (v : Value) (es news : List Nat) (B m c : Nat) (A : Option Addr) (hs : a.eval s = v)
    (hown : W.ownsRow base 42 1 v es.length (es.map u16V)) (hx : a.eval x = .slice A m c) (hr : Reads W B 1 A m (news.map u16V)) (hm : news.length = m)
    (hl : es.length + m ≤ 1099511627776) (hbase : base ≤ W.heap.size)
    (h : ∀ v' w', w'.ownsRow base 42 1 v' (es ++ news).length ((es ++ news).map u16V) → Below base W w' → K (a.put o.dst v') w') :
    if Region.wanted o (yielded ops a.tmps) = true then Oper.wp Tryd.prog o a W K Q else E := by
  subst hm
  obtain ⟨i0, hi, hz0, hz1, hz2⟩ := info_parts u16Info
  refine step_append_any W hgd s x 37 ho base 42 i0 _ 1 2 Tryd.underlying37 hi hz0 hz1 hz2 rfl (by decide) v _ _ hs hown B A news.length c _ hx hr ?_ ?_ ?_ hbase ?_
  · intro u hu
    obtain ⟨z, _, rfl⟩ := List.mem_map.1 hu
    rfl
  · unfold maxLen; omega
  · omega
  · intro v' w' h1 h2 _
    refine h v' w' ?_ ((Below.refl _ _).grown h2 hbase fun q hq => (hown.lt q hq).1)
    rw [List.map_append, List.length_append]
    exact h1
theorem own_us {W : World} {B n : Nat} {v : Value} {xs : List Nat} (h : W.ownsRow B 42 1 v xs.length (xs.map u16V)) (hn : n = xs.length) (hl : n ≤ 1000000) (hel : ∀ x ∈ xs, x < 65536) : ∃ A c, v = .slice A n c ∧ US W W.heap.size xs A c := by
  subst hn
  obtain ⟨A, c, h1, h2, h3⟩ := SliceOf.of_own (xs := xs.map u16V) (base := B) (e := 42) (by rw [List.length_map]; exact h)
  rw [List.length_map] at h1 h2 h3
  exact ⟨A, c, h1, h3, by omega, hel, h2⟩
theorem grows_sub {num : Int} {l : List Int} {xs ys : List Nat} (hv : validV num l = true) : ∀ a ∈ setF num l xs, a ∈ setF num l (xs ++ ys) := fun a ha => by
  rw [(setF_ok hv).2] at ha ⊢
  rw [pairsF_app]
  exact List.mem_append.2 (.inl ha)
theorem grows_has {num : Int} {l : List Int} {xs ys : List Nat} (hv : validV num l = true) {x : Int} (hx : x ∈ susp K num l (setF num l xs) true) : hasB (susp K num l (setF num l (xs ++ ys)) true) x = true :=
  by rw [hasB_mem]; exact decide_eq_true (stable_mono (setF_ok hv).1 (setF_ok hv).1 (grows_sub hv) hx)
set_option maxRecDepth 1000000 in
set_option maxHeartbeats 16000000 in
theorem lawGrows_of (C : CutC) (num : Int) (l : List Int) (A L M : Option Addr) (c cL cM : Nat) (xs ys : List Nat) (w : World) (h : VW w w.heap.size num l A c) (hs : US w w.heap.size xs L cL) (hs' : US w w.heap.size ys M cM) (ht : H.Tab w) :
    Calls Tryd.prog 8 #[.agg #[.int .i64 num, .slice A l.length c], .slice L xs.length cL, .slice M ys.length cM] w (PB w true) := by
  have hb0 := (Below.refl w.heap.size w).alloc (Nat.le_refl _) (.cells #[.int .i64 num, .slice A l.length c] 24)
  have hz := Blk.new w 24 #[.int .i64 num, .slice A l.length c]
  have HT := Lib.hid (fun W (hW : Below w.heap.size w W) => ht.on hW)
  have AW := Lib.hid (fun W (hW : Below w.heap.size w W) => awake_of C W (HT.out W hW))
  have KV := Lib.hid (fun W (hW : Below w.heap.size w W) => refValid_any num l A c w.heap.size W (h.below hW) hW.size)
  have KS := Lib.hid (fun (hv : validV num l = true) (hm : xs.length ≤ 1000) W (hW : Below w.heap.size w W) => set_any num l A L c cL w.heap.size xs W (h.below hW) (hs.below hW) hW.size hv hm)
  have KQ := Lib.hid (fun (hv : validV num l = true) (hm : (xs ++ ys).length ≤ 1000) (G : Option Addr) (cG : Nat) W (hW : Below w.heap.size w W) (hu : US W W.heap.size (xs ++ ys) G cG) => set_any num l A G c cG W.heap.size (xs ++ ys) W ((h.below hW).more hW.size) hu (Nat.le_refl _) hv hm)
  have SL := Lib.hid (show (setF num l xs).length ≤ xs.length from setF_len pairsF_len)
  have SL2 := Lib.hid (show (setF num l (xs ++ ys)).length ≤ (xs ++ ys).length from setF_len pairsF_len)
  have VV := Lib.hid (fun W (hW : Below w.heap.size w W) => (h.below hW).more hW.size)
  have RX := Lib.hid (fun W (hW : Below w.heap.size w W) => (hs.below hW).rd)
  have RY := Lib.hid (fun W (hW : Below w.heap.size w W) => (hs'.below hW).rd)
  have EXY := Lib.hid (show ∀ z ∈ xs ++ ys, z < 65536 from fun z hz => (List.mem_append.1 hz).elim (hs.el z) (hs'.el z))
  have hcx := hs.cap
  have hcy := hs'.cap
  dsimp only [vwV] at KV
  obtain ⟨n, hn⟩ : ∃ n, n = l.length := ⟨_, rfl⟩
  obtain ⟨nx, hnx⟩ : ∃ n, n = xs.length := ⟨_, rfl⟩
  obtain ⟨ny, hny⟩ : ∃ n, n = ys.length := ⟨_, rfl⟩
  have HNN := Lib.hid hn
  have HNX := Lib.hid hnx
  have HNY := Lib.hid hny
  rw [← hn] at hb0 hz KV KS KQ ⊢
  rw [← hnx] at KS RX hcx ⊢
  rw [← hny] at RY hcy ⊢
  have B0 := Lib.hid hb0
  have Z1 := Lib.hid hz
  clear hb0 hz hn hnx hny h hs hs' ht
  go_enter Tryd.func8, Tryd.ntmps8
  go_upto_region 1 with fail
  generalize w.alloc (.cells #[.int .i64 num, .slice A n c] 24) = w0 at *
  have FB := Lib.hid (fun W (hW : Below w0.heap.size w0 W) => (blk2 (Z1.out.below hW Z1.out.lt)))
  go_upto_region 3 with (first
    | (go_at_call 9; (with_reducible refine (AW.out _ B0.out).mono ?_); rintro e w1 ⟨rfl, q1⟩)
    | fail)
  have V1 := Lib.hid q1
  have W1 := Lib.hid (below2 B0.out q1)
  have p1 := FB.out _ V1.out
  clear q1 AW
  cases hv : validV num l
  · rw [hv] at KV
    clear KS KQ hv
    go_wp2_with (first
      | (go_at_call 19; (with_reducible refine (KV.out _ W1.out).mono ?_); rintro e w2 ⟨rfl, q2⟩)
      | fail)
    go_ret
    exact ⟨rfl, below2 W1.out q2⟩
  have HV := Lib.hid hv
  rw [hv] at KV
  clear hv
  by_cases hx : 80 < nx
  · have hxi : (80 : Int) < (nx : Int) := by omega
    clear KS KQ
    go_wp2_with (first
      | (go_at_call 19; (with_reducible refine (KV.out _ W1.out).mono ?_); rintro e w2 ⟨rfl, q2⟩)
      | fail)
    go_ret
    exact ⟨rfl, below2 W1.out q2⟩
  have hxi : decide ((80 : Int) < (nx : Int)) = false := by simp; omega
  by_cases hy : 40 < ny
  · have hyi : (40 : Int) < (ny : Int) := by omega
    clear KS KQ
    go_wp2_with (first
      | (go_at_call 19; (with_reducible refine (KV.out _ W1.out).mono ?_); rintro e w2 ⟨rfl, q2⟩)
      | fail)
    go_ret
    exact ⟨rfl, below2 W1.out q2⟩
  have hyi : decide ((40 : Int) < (ny : Int)) = false := by simp; omega
  have LXY := Lib.hid (show (xs ++ ys).length = nx + ny by rw [List.length_append, ← HNX.out, ← HNY.out])
  have KS1 := Lib.hid (fun W hW => KS.out HV.out (by omega) W hW)
  have KQ1 := Lib.hid (KQ.out HV.out (by rw [LXY.out]; omega))
  have S1000 := Lib.hid (show (setF num l xs).length ≤ 1000 by have := SL.out; have := HNX.out; omega)
  have T1000 := Lib.hid (show (setF num l (xs ++ ys)).length ≤ 1000 by have := SL2.out; have := LXY.out; omega)
  have HG := Lib.hid (fun x (hx : x ∈ susp K num l (setF num l xs) true) => grows_has (ys := ys) HV.out hx)
  rw [LXY.out] at KQ1
  have KT1 := Lib.hid (fun E cE W (hW : Below w.heap.size w W) (hE : AS W W.heap.size (setF num l xs) E cE) => C.stab num l A E c cE W.heap.size (setF num l xs) W (VV.out W hW) hE (Nat.le_refl _) S1000.out (HT.out W hW))
  have KT2 := Lib.hid (fun E cE W (hW : Below w.heap.size w W) (hE : AS W W.heap.size (setF num l (xs ++ ys)) E cE) => C.stab num l A E c cE W.heap.size (setF num l (xs ++ ys)) W (VV.out W hW) hE (Nat.le_refl _) T1000.out (HT.out W hW))
  have LX := Lib.hid (susp_len (num := num) (l := l) (s := setF num l xs) (high := true) (by have := S1000.out; omega))
  have LY := Lib.hid (susp_len (num := num) (l := l) (s := setF num l (xs ++ ys)) (high := true) (by have := T1000.out; omega))
  generalize setF num l xs = S at *
  generalize setF num l (xs ++ ys) = T at *
  generalize susp K num l S true = PX at *
  generalize susp K num l T true = PY at *
  obtain ⟨nS, hnS⟩ : ∃ q, q = S.length := ⟨_, rfl⟩
  obtain ⟨nT, hnT⟩ : ∃ q, q = T.length := ⟨_, rfl⟩
  obtain ⟨nPX, hnPX⟩ : ∃ q, q = PX.length := ⟨_, rfl⟩
  obtain ⟨nPY, hnPY⟩ : ∃ q, q = PY.length := ⟨_, rfl⟩
  have HPX := Lib.hid hnPX
  have HPY := Lib.hid hnPY
  unfold OutAS at KS1 KQ1
  rw [← HNN.out] at KT1 KT2
  rw [← hnS] at KS1 KT1
  rw [← hnT] at KQ1 KT2
  rw [← hnPX] at LX
  rw [← hnPY] at LY
  have KT1 := Lib.hid (fun E cE W hW hE => (KT1.out E cE W hW hE).mono fun _ _ h => outInt_n h nPX hnPX)
  have KT2 := Lib.hid (fun E cE W hW hE => (KT2.out E cE W hW hE).mono fun _ _ h => outInt_n h nPY hnPY)
  have lx5 : nPX ≤ 100000 := LX.out
  clear hnS hnT hnPX hnPY KS KQ LX
  go_upto_region 6 with (first
    | (go_at_call 19; (with_reducible refine (KV.out _ W1.out).mono ?_); rintro e w2 ⟨rfl, q2⟩; (have c2 := below2 W1.out q2); (have d2 := below2 V1.out q2); (have p2 := FB.out _ d2))
    | (go_at_call 20; (with_reducible refine (KS1.out _ c2).mono ?_); rintro e w3 ⟨X3, c3, rfl, as3, q3⟩; (have u3 := below2 c2 q3); (have d3 := below2 d2 q3); (have p3 := FB.out _ d3))
    | fail)
  have V3 := Lib.hid d3
  have W3 := Lib.hid u3
  have S3 := Lib.hid (fun W (hW : Below w3.heap.size w3 W) => (as3.below hW).more hW.size)
  clear p1 q2 c2 d2 p2 q3 u3 d3 as3 KS1 KV
  go_cut [8] from 30 to 36 (fun s8 wx => ∃ X cX, s8 = .slice X nT cX ∧ Hid (AS wx wx.heap.size T X cX) ∧ Hid (Below w3.heap.size w3 wx))
  case first =>
    have bA : Below w3.heap.size w3 (w3.alloc (.cells #[] 42)) := (Below.refl _ _).alloc (Nat.le_refl _) _
    have bD : Below w3.heap.size w3 (w3.alloc (.cells #[] 42)).drew := bA.drew
    have oA : (w3.alloc (.cells #[] 42)).ownsRow w3.heap.size 42 1 (.slice (some ⟨w3.heap.size, 0, none⟩) 0 0) ([] : List Nat).length (([] : List Nat).map u16V) := World.ownsRow_made (base := w3.heap.size) (e := 42) (size := 1) w3 #[] 0 (Nat.le_refl _) (by decide) rfl
    have oD : (w3.alloc (.cells #[] 42)).drew.ownsRow w3.heap.size 42 1 (.slice (some ⟨w3.heap.size, 0, none⟩) 0 0) ([] : List Nat).length (([] : List Nat).map u16V) := World.ownsRow_made (base := w3.heap.size) (e := 42) (size := 1) w3 #[] 0 (Nat.le_refl _) (by decide) rfl
    have L1 : ([] : List Nat).length + nx ≤ 1099511627776 := by simp; omega
    have L2 : ([] ++ xs).length + ny ≤ 1099511627776 := by have := HNX.out; simp; omega
    go_region_held3 (fun W' => (W'.cell? ⟨w.heap.size, 0, none⟩ = some (.int .i64 num) ∧ W'.cell? ⟨w.heap.size, 1, none⟩ = some (.slice A n c))) (first | exact s8 | exact s7 | exact s6 | exact FB.out _ (below2 V3.out bD) | exact FB.out _ (below2 V3.out bA) | exact FB.out _ V3.out.drew | exact FB.out _ V3.out) (first
      | (refine step_append_u16 _ rfl (.tmp 31) (.tmp 32) rfl w3.heap.size _ [] xs _ _ _ _ rfl (by first | exact oD | exact oA) rfl (RX.out _ (by first | exact below2 W3.out bD | exact below2 W3.out bA)) HNX.out.symm L1 (by first | exact bD.size | exact bA.size) ?_; intro v6 w6 ho6 hq6; have b6 : Below w3.heap.size w3 w6 := (by first | exact bD.trans hq6 | exact bA.trans hq6); have s6 := FB.out _ (below2 V3.out b6))
      | (refine step_append_u16 _ rfl (.tmp 33) (.tmp 34) rfl w3.heap.size _ ([] ++ xs) ys _ _ _ _ rfl ho6 rfl (RY.out _ (below2 W3.out b6)) HNY.out.symm L2 b6.size ?_; intro v7 w7 ho7 hq7; have b7 : Below w3.heap.size w3 w7 := b6.trans hq7; have s7 := FB.out _ (below2 V3.out b7); obtain ⟨X7, c7, rfl, us7⟩ := own_us (n := nx + ny) ho7 (by rw [List.nil_append]; exact LXY.out.symm) (by omega) (by rw [List.nil_append]; exact EXY.out))
      | (go_at_call 20; (with_reducible refine (KQ1.out _ _ _ (below2 W3.out b7) (by rw [List.nil_append] at us7; exact us7)).mono ?_); rintro e w8 ⟨X8, c8, rfl, as8, q8⟩; have b8 := below2 b7 q8; have s8 := FB.out _ (below2 V3.out b8))
      | fail)
    all_goals
      go_wp2_with fail
      go_meet
      exact ⟨X8, c8, rfl, as8, b8⟩
  case rest =>
    obtain ⟨X8, c8, rfl, HX8, HB8⟩ := hcut
    obtain ⟨w4, rfl⟩ : ∃ x, x = wc := ⟨_, rfl⟩
    have V4 := Lib.hid (below2 V3.out HB8.out)
    have W4 := Lib.hid (below2 W3.out HB8.out)
    have p4 := FB.out _ V4.out
    clear p3 KQ1
    go_upto_region 7 with fail
    go_cut [9, 10] from 37 to 42 (fun s9 s10 wx => ∃ X cX Y cY, s9 = .slice X nPX cX ∧ s10 = .slice Y nPY cY ∧ Hid (Reads wx wx.heap.size 1 X nPX (PX.map intV)) ∧ Hid (Reads wx wx.heap.size 1 Y nPY (PY.map intV)) ∧ Hid (Below w4.heap.size w4 wx))
    case first =>
      have i4 : Below w4.heap.size w4 w4 := Below.refl _ _
      have d4 : Below w4.heap.size w4 w4.drew := i4.drew
      go_region_held3 (fun W' => (W'.cell? ⟨w.heap.size, 0, none⟩ = some (.int .i64 num) ∧ W'.cell? ⟨w.heap.size, 1, none⟩ = some (.slice A n c))) (first | exact s6 | exact s5 | exact FB.out _ (below2 V4.out d4) | exact FB.out _ V4.out) (first
        | (go_at_call 18; (with_reducible refine (KT1.out X3 c3 _ (by first | exact below2 W4.out b6 | exact below2 W4.out d4 | exact W4.out) (S3.out _ (by first | exact below2 HB8.out b6 | exact below2 HB8.out d4 | exact HB8.out))).mono ?_); rintro e w5 ⟨X5, c5, rfl, hc5, hr5, q5⟩; have b5 : Below w4.heap.size w4 w5 := (by first | exact q5 | exact bdrewC q5 | exact below2 b6 q5); have s5 := FB.out _ (below2 V4.out b5))
        | (go_at_call 18; (with_reducible refine (KT2.out X8 c8 _ (by first | exact below2 W4.out b5 | exact below2 W4.out d4 | exact W4.out) (by first | exact (HX8.out.below b5).more b5.size | exact (HX8.out.below d4).more d4.size | exact HX8.out)).mono ?_); rintro e w6 ⟨X6, c6, rfl, hc6, hr6, q6⟩; have b6 : Below w4.heap.size w4 w6 := (by first | exact q6 | exact bdrewC q6 | exact below2 b5 q6); have s6 := FB.out _ (below2 V4.out b6))
        | fail)
      all_goals
        first
          | (have k56 : Below w5.heap.size w5 w6 := by first | exact q6 | exact bdrewC q6
             have r5 : Reads w6 w6.heap.size 1 X5 nPX (PX.map intV) := (hr5.below k56).more k56.size
             go_wp2_with fail
             go_meet
             exact ⟨X5, c5, X6, c6, rfl, rfl, r5, hr6, b6⟩)
          | (have k65 : Below w6.heap.size w6 w5 := by first | exact q5 | exact bdrewC q5
             have r6 : Reads w5 w5.heap.size 1 X6 nPY (PY.map intV) := (hr6.below k65).more k65.size
             go_wp2_with fail
             go_meet
             exact ⟨X5, c5, X6, c6, rfl, rfl, hr5, r6, b5⟩)
    case rest =>
      obtain ⟨X, cX, Y, cY, rfl, rfl, HX, HY, HB⟩ := hcut
      obtain ⟨w5, rfl⟩ : ∃ x, x = wc := ⟨_, rfl⟩
      have W5 := Lib.hid (below2 W4.out HB.out)
      have KCN := Lib.hid (fun (x : Int) (m : Nat) => show Calls Tryd.prog 23 #[.slice Y nPY cY, .int .i64 x] (w5.drewN m) (fun e w' => e = .returned (.bool (hasB PY x)) ∧ w5.drewN m = w') by
        have b := below_drewN' (Below.refl w5.heap.size w5) m
        have := refContains_any Y cY _ PY x (w5.drewN m) (by rw [← HPY.out]; exact HY.out.below b) (by rw [← HPY.out]; have := LY.out; omega)
        rwa [← HPY.out] at this)
      clear p4 KT1 KT2
      go_wp2_with fail
      go_loopg [11] nPX (fun gk s11 wr => ∃ k m : Nat, k + gk = nPX ∧ s11 = .int .i64 k ∧ wr = w5.drewN m)
      case atStart => exact ⟨0, 0, by omega, rfl, rfl⟩
      case round =>
        obtain ⟨k, m, hkg, rfl, rfl⟩ := hrel
        cases gk with
        | zero =>
          have hkz : ¬ ((k : Int) < (nPX : Int)) := by omega
          have W5m := Lib.hid (below_drewN' W5.out m)
          go_wp2_with fail
          go_ret
          exact ⟨rfl, W5m.out⟩
        | succ gi =>
          have hkz : (k : Int) < (nPX : Int) := by omega
          have hk0 : ¬ (k : Int) < 0 := by omega
          obtain ⟨x, hx⟩ : ∃ x, PX[k]? = some x := ⟨_, List.getElem?_eq_getElem (by have := HPX.out; omega)⟩
          obtain ⟨ad, u, rfl, hadb, hxu, hcell⟩ := HX.out.at_ (k := k) (by omega)
          have hux : u = .int .i64 x := by simp [hx, intV] at hxu; exact hxu.symm
          rw [hux] at hcell
          have KX := Lib.hid (fun m => by
            have := KCN.out x m
            rwa [HG.out x (List.mem_of_getElem? hx)] at this)
          clear hux hxu hx hadb
          go_wp2_with (first
            | (go_at_call 23; (with_reducible refine (KX.out m).mono ?_); rintro e w9 ⟨rfl, rfl⟩)
            | fail)
          go_roundg gi
          case measure => omega
          case rel => exact ⟨k + 1, m, by omega, by go_num, rfl⟩
end Go.Proofs.YtipipjbpjpdcbaaDoor.Ct
