/- The laws of layer 6 at arguments that are too long, or in a view that is not valid. -/
import Derived.Test.YtojhdljbpmjigaaDoorAAwake
import Derived.Test.YtojhdljbpmjigaaDoorAAdd
namespace Go.Proofs.YtojhdljbpmjigaaDoor.Al
set_option linter.unusedVariables false
set_option linter.unusedSimpArgs false
open Go.RowKit
open Go.Proofs.YtojhdljbpmjigaaDoor.W
open Go.Proofs.YtojhdljbpmjigaaDoor.V
open Go.Proofs.YtojhdljbpmjigaaDoor.O
open Go.Proofs.YtojhdljbpmjigaaDoor.Pb (Alr alrC alrsC two_blk)

set_option maxRecDepth 100000 in
set_option maxHeartbeats 400000 in
theorem refValidM_long (L : Option Addr) (c : Nat) (l : List Int) (w : World) (hl : 16 < l.length) :
    Calls Tryd.prog 47 #[.slice L l.length c] w (PB w false) := by
  have h1 : (1 : Int) ≤ (l.length : Int) := by omega
  have h2 : ¬ (l.length : Int) ≤ 16 := by omega
  go_enter Tryd.func47, Tryd.ntmps47
  go_wp2_with fail
  go_ret
  exact ⟨rfl, Below.refl _ _⟩
set_option maxRecDepth 100000 in
set_option maxHeartbeats 400000 in
theorem refValid_long (num : Int) (l : List Int) (A : Option Addr) (c : Nat) (w : World) (hn : In64 num) (hl : 16 < l.length) :
    Calls Tryd.prog 24 #[.agg #[.int .i64 num, .slice A l.length c]] w (PB w false) := by
  have hb0 := (Below.refl w.heap.size w).alloc (Nat.le_refl _) (.cells #[.int .i64 num, .slice A l.length c] 24)
  have CM := Lib.hid (fun W => refValidM_long A c l W hl)
  obtain ⟨n1, n2⟩ := hn
  clear hl
  by_cases h1 : 0 ≤ num
  · by_cases h2 : num ≤ 1099511627776
    · go_enter Tryd.func24, Tryd.ntmps24
      go_wp2_with (go_at_call 47; (with_reducible refine (CM.out _).mono ?_); rintro e w1 ⟨rfl, q⟩)
      go_ret
      exact ⟨rfl, hb0.trans (q.mono hb0.size)⟩
    · clear CM
      go_enter Tryd.func24, Tryd.ntmps24
      go_wp2_with fail
      go_ret
      exact ⟨rfl, hb0⟩
  · clear CM
    go_enter Tryd.func24, Tryd.ntmps24
    go_wp2_with fail
    go_ret
    exact ⟨rfl, hb0⟩
/-- Valid, of a view of whatever length. -/
theorem refValid_all (num : Int) (l : List Int) (A : Option Addr) (c B : Nat) (w : World) (hn : In64 num) (hr : Reads w B 1 A l.length (l.map intV)) (hel : ∀ x ∈ l, In64 x) (hc : l.length ≤ c) (hB : B ≤ w.heap.size) :
    Calls Tryd.prog 24 #[.agg #[.int .i64 num, .slice A l.length c]] w (PB w (validV num l)) := by
  by_cases h : l.length ≤ 16
  · exact refValid_any num l A c B w ⟨hn, hr, by omega, hel, hc⟩ hB
  · have : validV num l = false := by
      rw [← Bool.not_eq_true, validV_iff]
      intro hv
      have := (validM_iff.1 hv.2.2).2.1
      omega
    rw [this]
    exact refValid_long num l A c w hn (by omega)

set_option maxRecDepth 1000000 in
set_option maxHeartbeats 4000000 in
theorem count_no (num : Int) (l : List Int) (A : Option Addr) (c : Nat) (L : Option Addr) (cL n : Nat) (w : World) (hn : In64 num) (hr : Reads w w.heap.size 1 A l.length (l.map intV)) (hel : ∀ x ∈ l, In64 x) (hc : l.length ≤ c) (ht : H.Tab w) (hbad : validV num l = true → 60 < n) :
    Calls Tryd.prog 8 #[.agg #[.int .i64 num, .slice A l.length c], .slice L n cL] w (PB w true) := by
  have hb0 := (Below.refl w.heap.size w).alloc (Nat.le_refl _) (.cells #[.int .i64 num, .slice A l.length c] 24)
  have hz := Blk.new w 24 #[.int .i64 num, .slice A l.length c]
  have AW := Lib.hid (fun W (hW : Below w.heap.size w W) => awake_any W (ht.on hW))
  have KV := Lib.hid (fun W (hW : Below w.heap.size w W) => refValid_all num l A c w.heap.size W hn (hr.below hW) hel hc hW.size)
  have B0 := Lib.hid hb0
  have Z1 := Lib.hid hz
  clear hb0 hz hn hr hel hc ht
  generalize validV num l = v at *
  generalize l.length = nl at *
  cases v
  · clear hbad
    go_enter Tryd.func8, Tryd.ntmps8
    go_upto_region 1 with fail
    generalize w.alloc (.cells #[.int .i64 num, .slice A nl c] 24) = w0 at *
    have FB := Lib.hid (fun W (hW : Below w0.heap.size w0 W) => blk2 (Z1.out.below hW Z1.out.lt))
    go_wp2_with (first
      | (go_at_call 9; (with_reducible refine (AW.out _ B0.out).mono ?_); rintro e w1 ⟨rfl, b1⟩; (have p1 := FB.out _ b1); (have c1 := below2s B0.out b1))
      | (go_at_call 24; (with_reducible refine (KV.out _ c1).mono ?_); rintro e w2 ⟨rfl, b2⟩; (have p2 := FB.out _ (below2s b1 b2)); (have c2 := below2s c1 b2))
      | fail)
    go_ret
    exact ⟨rfl, c2⟩
  · have e1 := hbad rfl
    clear hbad
    have ddn : decide ((60 : Int) < (n : Int)) = true := by simp; omega
    go_enter Tryd.func8, Tryd.ntmps8
    go_upto_region 1 with fail
    generalize w.alloc (.cells #[.int .i64 num, .slice A nl c] 24) = w0 at *
    have FB := Lib.hid (fun W (hW : Below w0.heap.size w0 W) => blk2 (Z1.out.below hW Z1.out.lt))
    go_wp2_with (first
      | (go_at_call 9; (with_reducible refine (AW.out _ B0.out).mono ?_); rintro e w1 ⟨rfl, b1⟩; (have p1 := FB.out _ b1); (have c1 := below2s B0.out b1))
      | (go_at_call 24; (with_reducible refine (KV.out _ c1).mono ?_); rintro e w2 ⟨rfl, b2⟩; (have p2 := FB.out _ (below2s b1 b2)); (have c2 := below2s c1 b2))
      | fail)
    go_ret
    exact ⟨rfl, c2⟩
set_option maxRecDepth 1000000 in
set_option maxHeartbeats 4000000 in
theorem order_no (num : Int) (l : List Int) (A : Option Addr) (c : Nat) (L : Option Addr) (cL n t : Nat) (w : World) (hn : In64 num) (hr : Reads w w.heap.size 1 A l.length (l.map intV)) (hel : ∀ x ∈ l, In64 x) (hc : l.length ≤ c) (ht : H.Tab w) (hbad : validV num l = true → 60 < n) :
    Calls Tryd.prog 5 #[.agg #[.int .i64 num, .slice A l.length c], .slice L n cL, .int .u8 (t : Int)] w (PB w true) := by
  have hb0 := (Below.refl w.heap.size w).alloc (Nat.le_refl _) (.cells #[.int .i64 num, .slice A l.length c] 24)
  have hz := Blk.new w 24 #[.int .i64 num, .slice A l.length c]
  have AW := Lib.hid (fun W (hW : Below w.heap.size w W) => awake_any W (ht.on hW))
  have KV := Lib.hid (fun W (hW : Below w.heap.size w W) => refValid_all num l A c w.heap.size W hn (hr.below hW) hel hc hW.size)
  have B0 := Lib.hid hb0
  have Z1 := Lib.hid hz
  clear hb0 hz hn hr hel hc ht
  generalize validV num l = v at *
  generalize l.length = nl at *
  cases v
  · clear hbad
    go_enter Tryd.func5, Tryd.ntmps5
    go_upto_region 1 with fail
    generalize w.alloc (.cells #[.int .i64 num, .slice A nl c] 24) = w0 at *
    have FB := Lib.hid (fun W (hW : Below w0.heap.size w0 W) => blk2 (Z1.out.below hW Z1.out.lt))
    go_wp2_with (first
      | (go_at_call 9; (with_reducible refine (AW.out _ B0.out).mono ?_); rintro e w1 ⟨rfl, b1⟩; (have p1 := FB.out _ b1); (have c1 := below2s B0.out b1))
      | (go_at_call 24; (with_reducible refine (KV.out _ c1).mono ?_); rintro e w2 ⟨rfl, b2⟩; (have p2 := FB.out _ (below2s b1 b2)); (have c2 := below2s c1 b2))
      | fail)
    go_ret
    exact ⟨rfl, c2⟩
  · have e1 := hbad rfl
    clear hbad
    have ddn : decide ((60 : Int) < (n : Int)) = true := by simp; omega
    go_enter Tryd.func5, Tryd.ntmps5
    go_upto_region 1 with fail
    generalize w.alloc (.cells #[.int .i64 num, .slice A nl c] 24) = w0 at *
    have FB := Lib.hid (fun W (hW : Below w0.heap.size w0 W) => blk2 (Z1.out.below hW Z1.out.lt))
    go_wp2_with (first
      | (go_at_call 9; (with_reducible refine (AW.out _ B0.out).mono ?_); rintro e w1 ⟨rfl, b1⟩; (have p1 := FB.out _ b1); (have c1 := below2s B0.out b1))
      | (go_at_call 24; (with_reducible refine (KV.out _ c1).mono ?_); rintro e w2 ⟨rfl, b2⟩; (have p2 := FB.out _ (below2s b1 b2)); (have c2 := below2s c1 b2))
      | fail)
    go_ret
    exact ⟨rfl, c2⟩
set_option maxRecDepth 1000000 in
set_option maxHeartbeats 4000000 in
theorem back_no (num : Int) (l : List Int) (A : Option Addr) (c : Nat) (L F : Option Addr) (cL cF n t o : Nat) (w : World) (hn : In64 num) (hr : Reads w w.heap.size 1 A l.length (l.map intV)) (hel : ∀ x ∈ l, In64 x) (hc : l.length ≤ c) (ht : H.Tab w) (hbad : validV num l = true → 60 < n ∨ (n ≤ 60 ∧ 50 < o)) :
    Calls Tryd.prog 7 #[.agg #[.int .i64 num, .slice A l.length c], .slice L n cL, .int .u8 (t : Int), .slice F o cF] w (PB w true) := by
  have hb0 := (Below.refl w.heap.size w).alloc (Nat.le_refl _) (.cells #[.int .i64 num, .slice A l.length c] 24)
  have hz := Blk.new w 24 #[.int .i64 num, .slice A l.length c]
  have AW := Lib.hid (fun W (hW : Below w.heap.size w W) => awake_any W (ht.on hW))
  have KV := Lib.hid (fun W (hW : Below w.heap.size w W) => refValid_all num l A c w.heap.size W hn (hr.below hW) hel hc hW.size)
  have B0 := Lib.hid hb0
  have Z1 := Lib.hid hz
  clear hb0 hz hn hr hel hc ht
  generalize validV num l = v at *
  generalize l.length = nl at *
  cases v
  · clear hbad
    go_enter Tryd.func7, Tryd.ntmps7
    go_upto_region 1 with fail
    generalize w.alloc (.cells #[.int .i64 num, .slice A nl c] 24) = w0 at *
    have FB := Lib.hid (fun W (hW : Below w0.heap.size w0 W) => blk2 (Z1.out.below hW Z1.out.lt))
    go_wp2_with (first
      | (go_at_call 9; (with_reducible refine (AW.out _ B0.out).mono ?_); rintro e w1 ⟨rfl, b1⟩; (have p1 := FB.out _ b1); (have c1 := below2s B0.out b1))
      | (go_at_call 24; (with_reducible refine (KV.out _ c1).mono ?_); rintro e w2 ⟨rfl, b2⟩; (have p2 := FB.out _ (below2s b1 b2)); (have c2 := below2s c1 b2))
      | fail)
    go_ret
    exact ⟨rfl, c2⟩
  · have e0 := hbad rfl
    clear hbad
    rcases e0 with e1 | e1
    · have ddn : decide ((60 : Int) < (n : Int)) = true := by simp; omega
      go_enter Tryd.func7, Tryd.ntmps7
      go_upto_region 1 with fail
      generalize w.alloc (.cells #[.int .i64 num, .slice A nl c] 24) = w0 at *
      have FB := Lib.hid (fun W (hW : Below w0.heap.size w0 W) => blk2 (Z1.out.below hW Z1.out.lt))
      go_wp2_with (first
        | (go_at_call 9; (with_reducible refine (AW.out _ B0.out).mono ?_); rintro e w1 ⟨rfl, b1⟩; (have p1 := FB.out _ b1); (have c1 := below2s B0.out b1))
        | (go_at_call 24; (with_reducible refine (KV.out _ c1).mono ?_); rintro e w2 ⟨rfl, b2⟩; (have p2 := FB.out _ (below2s b1 b2)); (have c2 := below2s c1 b2))
        | fail)
      go_ret
      exact ⟨rfl, c2⟩
    · obtain ⟨e1, e2⟩ := e1
      have ggn : ¬ 60 < n := by omega
      have ddn : decide ((60 : Int) < (n : Int)) = false := by simp; omega
      have ddo : decide ((50 : Int) < (o : Int)) = true := by simp; omega
      go_enter Tryd.func7, Tryd.ntmps7
      go_upto_region 1 with fail
      generalize w.alloc (.cells #[.int .i64 num, .slice A nl c] 24) = w0 at *
      have FB := Lib.hid (fun W (hW : Below w0.heap.size w0 W) => blk2 (Z1.out.below hW Z1.out.lt))
      go_wp2_with (first
        | (go_at_call 9; (with_reducible refine (AW.out _ B0.out).mono ?_); rintro e w1 ⟨rfl, b1⟩; (have p1 := FB.out _ b1); (have c1 := below2s B0.out b1))
        | (go_at_call 24; (with_reducible refine (KV.out _ c1).mono ?_); rintro e w2 ⟨rfl, b2⟩; (have p2 := FB.out _ (below2s b1 b2)); (have c2 := below2s c1 b2))
        | fail)
      go_ret
      exact ⟨rfl, c2⟩
set_option maxRecDepth 1000000 in
set_option maxHeartbeats 4000000 in
theorem union_no (num : Int) (l : List Int) (A : Option Addr) (c : Nat) (L1 L2 L3 : Option Addr) (cL1 cL2 cL3 n1 n2 n3 : Nat) (w : World) (hn : In64 num) (hr : Reads w w.heap.size 1 A l.length (l.map intV)) (hel : ∀ x ∈ l, In64 x) (hc : l.length ≤ c) (ht : H.Tab w) (hbad : validV num l = true → 40 < n1 ∨ (n1 ≤ 40 ∧ 40 < n2) ∨ (n1 ≤ 40 ∧ n2 ≤ 40 ∧ 40 < n3)) :
    Calls Tryd.prog 6 #[.agg #[.int .i64 num, .slice A l.length c], .slice L1 n1 cL1, .slice L2 n2 cL2, .slice L3 n3 cL3] w (PB w true) := by
  have hb0 := (Below.refl w.heap.size w).alloc (Nat.le_refl _) (.cells #[.int .i64 num, .slice A l.length c] 24)
  have hz := Blk.new w 24 #[.int .i64 num, .slice A l.length c]
  have AW := Lib.hid (fun W (hW : Below w.heap.size w W) => awake_any W (ht.on hW))
  have KV := Lib.hid (fun W (hW : Below w.heap.size w W) => refValid_all num l A c w.heap.size W hn (hr.below hW) hel hc hW.size)
  have B0 := Lib.hid hb0
  have Z1 := Lib.hid hz
  clear hb0 hz hn hr hel hc ht
  generalize validV num l = v at *
  generalize l.length = nl at *
  cases v
  · clear hbad
    go_enter Tryd.func6, Tryd.ntmps6
    go_upto_region 1 with fail
    generalize w.alloc (.cells #[.int .i64 num, .slice A nl c] 24) = w0 at *
    have FB := Lib.hid (fun W (hW : Below w0.heap.size w0 W) => blk2 (Z1.out.below hW Z1.out.lt))
    go_wp2_with (first
      | (go_at_call 9; (with_reducible refine (AW.out _ B0.out).mono ?_); rintro e w1 ⟨rfl, b1⟩; (have p1 := FB.out _ b1); (have c1 := below2s B0.out b1))
      | (go_at_call 24; (with_reducible refine (KV.out _ c1).mono ?_); rintro e w2 ⟨rfl, b2⟩; (have p2 := FB.out _ (below2s b1 b2)); (have c2 := below2s c1 b2))
      | fail)
    go_ret
    exact ⟨rfl, c2⟩
  · have e0 := hbad rfl
    clear hbad
    rcases e0 with e1 | e1 | e1
    · have ddn1 : decide ((40 : Int) < (n1 : Int)) = true := by simp; omega
      go_enter Tryd.func6, Tryd.ntmps6
      go_upto_region 1 with fail
      generalize w.alloc (.cells #[.int .i64 num, .slice A nl c] 24) = w0 at *
      have FB := Lib.hid (fun W (hW : Below w0.heap.size w0 W) => blk2 (Z1.out.below hW Z1.out.lt))
      go_wp2_with (first
        | (go_at_call 9; (with_reducible refine (AW.out _ B0.out).mono ?_); rintro e w1 ⟨rfl, b1⟩; (have p1 := FB.out _ b1); (have c1 := below2s B0.out b1))
        | (go_at_call 24; (with_reducible refine (KV.out _ c1).mono ?_); rintro e w2 ⟨rfl, b2⟩; (have p2 := FB.out _ (below2s b1 b2)); (have c2 := below2s c1 b2))
        | fail)
      go_ret
      exact ⟨rfl, c2⟩
    · obtain ⟨e1, e2⟩ := e1
      have ggn1 : ¬ 40 < n1 := by omega
      have ddn1 : decide ((40 : Int) < (n1 : Int)) = false := by simp; omega
      have ddn2 : decide ((40 : Int) < (n2 : Int)) = true := by simp; omega
      go_enter Tryd.func6, Tryd.ntmps6
      go_upto_region 1 with fail
      generalize w.alloc (.cells #[.int .i64 num, .slice A nl c] 24) = w0 at *
      have FB := Lib.hid (fun W (hW : Below w0.heap.size w0 W) => blk2 (Z1.out.below hW Z1.out.lt))
      go_wp2_with (first
        | (go_at_call 9; (with_reducible refine (AW.out _ B0.out).mono ?_); rintro e w1 ⟨rfl, b1⟩; (have p1 := FB.out _ b1); (have c1 := below2s B0.out b1))
        | (go_at_call 24; (with_reducible refine (KV.out _ c1).mono ?_); rintro e w2 ⟨rfl, b2⟩; (have p2 := FB.out _ (below2s b1 b2)); (have c2 := below2s c1 b2))
        | fail)
      go_ret
      exact ⟨rfl, c2⟩
    · obtain ⟨e1, e2, e3⟩ := e1
      have ggn1 : ¬ 40 < n1 := by omega
      have ddn1 : decide ((40 : Int) < (n1 : Int)) = false := by simp; omega
      have ggn2 : ¬ 40 < n2 := by omega
      have ddn2 : decide ((40 : Int) < (n2 : Int)) = false := by simp; omega
      have ddn3 : decide ((40 : Int) < (n3 : Int)) = true := by simp; omega
      go_enter Tryd.func6, Tryd.ntmps6
      go_upto_region 1 with fail
      generalize w.alloc (.cells #[.int .i64 num, .slice A nl c] 24) = w0 at *
      have FB := Lib.hid (fun W (hW : Below w0.heap.size w0 W) => blk2 (Z1.out.below hW Z1.out.lt))
      go_wp2_with (first
        | (go_at_call 9; (with_reducible refine (AW.out _ B0.out).mono ?_); rintro e w1 ⟨rfl, b1⟩; (have p1 := FB.out _ b1); (have c1 := below2s B0.out b1))
        | (go_at_call 24; (with_reducible refine (KV.out _ c1).mono ?_); rintro e w2 ⟨rfl, b2⟩; (have p2 := FB.out _ (below2s b1 b2)); (have c2 := below2s c1 b2))
        | fail)
      go_ret
      exact ⟨rfl, c2⟩
set_option maxRecDepth 1000000 in
set_option maxHeartbeats 4000000 in
theorem add_no (num : Int) (A E : Option Addr) (n c m cE : Nat) (a b : Alr) (w : World) (ht : H.Tab w) (hbad : ¬ (n ≤ 60 ∧ m ≤ 150)) :
    Calls Tryd.prog 3 #[.agg #[.int .i64 num, .slice A n c], .slice E m cE, alrV a, alrV b] w (PB w true) := by
  have hz := boxes3 w #[.int .i64 num, .slice A n c] #[.int .i64 a.view, .int .i64 a.ring, .int .i64 a.obs, .int .i64 a.subj] #[.int .i64 b.view, .int .i64 b.ring, .int .i64 b.obs, .int .i64 b.subj] 24 27 27
  have AW := Lib.hid (fun W (hW : Below w.heap.size w W) => awake_any W (ht.on hW))
  have SM := Lib.hid (fun W => small_any num A E n c m cE W)
  have d1 : (decide (n ≤ 60) && decide (m ≤ 150)) = false := by
    rw [← Bool.not_eq_true]; simp; omega
  rw [d1] at SM
  obtain ⟨hz0, hz1, hz2, hz3⟩ := hz
  have B0 := Lib.hid hz0
  have Z1 := Lib.hid hz1
  clear hz0 hz1 hz2 hz3 d1 ht hbad
  obtain ⟨av, ar, ao, as'⟩ := a
  obtain ⟨bv, br, bo, bs'⟩ := b
  dsimp only [alrV] at *
  go_enter Tryd.func3, Tryd.ntmps3
  go_upto_region 1 with fail
  generalize ((w.alloc (.cells #[.int .i64 num, .slice A n c] 24)).alloc (.cells #[.int .i64 av, .int .i64 ar, .int .i64 ao, .int .i64 as'] 27)).alloc (.cells #[.int .i64 bv, .int .i64 br, .int .i64 bo, .int .i64 bs'] 27) = w0 at *
  have FB := Lib.hid (fun W (hW : Below w0.heap.size w0 W) => blk2 (Z1.out.below hW Z1.out.lt))
  go_wp2_with (first
    | (go_at_call 9; (with_reducible refine (AW.out _ B0.out).mono ?_); rintro e w1 ⟨rfl, b1⟩; (have p1 := FB.out _ b1))
    | (go_at_call 10; (with_reducible refine (SM.out _).mono ?_); rintro e w2 ⟨rfl, b2⟩)
    | fail)
  go_ret
  exact ⟨rfl, below2s B0.out (below2s b1 b2)⟩
set_option maxRecDepth 1000000 in
set_option maxHeartbeats 4000000 in
theorem codes_no (num : Int) (A : Option Addr) (n c : Nat) (E F : Option Addr) (m cE o cF : Nat) (w : World) (ht : H.Tab w) (hbad : ¬ (n ≤ 60 ∧ m ≤ 150 ∧ o ≤ 1000)) :
    Calls Tryd.prog 4 #[.agg #[.int .i64 num, .slice A n c], .slice E m cE, .slice F o cF] w (PB w true) := by
  have hb0 := (Below.refl w.heap.size w).alloc (Nat.le_refl _) (.cells #[.int .i64 num, .slice A n c] 24)
  have hz := Blk.new w 24 #[.int .i64 num, .slice A n c]
  have AW := Lib.hid (fun W (hW : Below w.heap.size w W) => awake_any W (ht.on hW))
  have S0 := Lib.hid (fun W => small_any num A E n c m cE W)
  have B0 := Lib.hid hb0
  have Z1 := Lib.hid hz
  clear hb0 hz ht
  by_cases h0 : n ≤ 60 ∧ m ≤ 150
  case neg =>
    have d0 : (decide (n ≤ 60) && decide (m ≤ 150)) = false := by rw [← Bool.not_eq_true]; simp; omega
    rw [d0] at S0
    clear hbad d0
    go_enter Tryd.func4, Tryd.ntmps4
    go_upto_region 1 with fail
    generalize w.alloc (.cells #[.int .i64 num, .slice A n c] 24) = w0 at *
    have FB := Lib.hid (fun W (hW : Below w0.heap.size w0 W) => blk2 (Z1.out.below hW Z1.out.lt))
    go_wp2_with (first
      | (go_at_call 9; (with_reducible refine (AW.out _ B0.out).mono ?_); rintro e w1 ⟨rfl, b1⟩; (have p1 := FB.out _ b1))
      | (go_at_call 10; (with_reducible refine (S0.out _).mono ?_); rintro e x0 ⟨rfl, q0⟩; (have r0 := below2s b1 q0); (have s0 := FB.out _ r0))
      | fail)
    go_ret
    exact ⟨rfl, below2s B0.out r0⟩
  have d0 : (decide (n ≤ 60) && decide (m ≤ 150)) = true := by simp [h0.1, h0.2]
  rw [d0] at S0
  have e1 : 1000 < o := by omega
  have dx : decide ((1000 : Int) < (o : Int)) = true := by simp; omega
  clear hbad
  go_enter Tryd.func4, Tryd.ntmps4
  go_upto_region 1 with fail
  generalize w.alloc (.cells #[.int .i64 num, .slice A n c] 24) = w0 at *
  have FB := Lib.hid (fun W (hW : Below w0.heap.size w0 W) => blk2 (Z1.out.below hW Z1.out.lt))
  go_wp2_with (first
    | (go_at_call 9; (with_reducible refine (AW.out _ B0.out).mono ?_); rintro e w1 ⟨rfl, b1⟩; (have p1 := FB.out _ b1))
    | (go_at_call 10; (with_reducible refine (S0.out _).mono ?_); rintro e x0 ⟨rfl, q0⟩; (have r0 := below2s b1 q0); (have s0 := FB.out _ r0))
    | fail)
  go_ret
  exact ⟨rfl, below2s B0.out r0⟩
end Go.Proofs.YtojhdljbpmjigaaDoor.Al
