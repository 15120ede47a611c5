/- The laws of layer 7 at arguments that are too long, or in a view that is not valid. -/
import Derived.Test.YtipipjbpjpdcbaaDoorCAw1
import Derived.Test.YtipipjbpjpdcbaaDoorCTells
namespace Go.Proofs.YtipipjbpjpdcbaaDoor.Ct
set_option linter.unusedVariables false
set_option linter.unusedSimpArgs false
open Go.RowKit
open Go.Proofs.YtipipjbpjpdcbaaDoor.W
open Go.Proofs.YtipipjbpjpdcbaaDoor.V
open Go.Proofs.YtipipjbpjpdcbaaDoor.O
open Go.Proofs.YtipipjbpjpdcbaaDoor.Pb (Alr alrC alrsC)
open Go.Proofs.YtipipjbpjpdcbaaDoor.Al

set_option maxRecDepth 100000 in
set_option maxHeartbeats 400000 in
theorem refValidM_long (L : Option Addr) (c : Nat) (l : List Int) (w : World) (hl : 16 < l.length) :
    Calls Tryd.prog 40 #[.slice L l.length c] w (PB w false) := by
  have h1 : (1 : Int) ≤ (l.length : Int) := by omega
  have h2 : ¬ (l.length : Int) ≤ 16 := by omega
  go_enter Tryd.func40, Tryd.ntmps40
  go_wp2_with fail
  go_ret
  exact ⟨rfl, Below.refl _ _⟩
set_option maxRecDepth 100000 in
set_option maxHeartbeats 400000 in
theorem refValid_long (num : Int) (l : List Int) (A : Option Addr) (c : Nat) (w : World) (hn : In64 num) (hl : 16 < l.length) :
    Calls Tryd.prog 19 #[.agg #[.int .i64 num, .slice A l.length c]] w (PB w false) := by
  have hb0 := (Below.refl w.heap.size w).alloc (Nat.le_refl _) (.cells #[.int .i64 num, .slice A l.length c] 24)
  have CM := Lib.hid (fun W => refValidM_long A c l W hl)
  obtain ⟨n1, n2⟩ := hn
  clear hl
  by_cases h1 : 0 ≤ num
  · by_cases h2 : num ≤ 1099511627776
    · go_enter Tryd.func19, Tryd.ntmps19
      go_wp2_with (go_at_call 40; (with_reducible refine (CM.out _).mono ?_); rintro e w1 ⟨rfl, q⟩)
      go_ret
      exact ⟨rfl, hb0.trans (q.mono hb0.size)⟩
    · clear CM
      go_enter Tryd.func19, Tryd.ntmps19
      go_wp2_with fail
      go_ret
      exact ⟨rfl, hb0⟩
  · clear CM
    go_enter Tryd.func19, Tryd.ntmps19
    go_wp2_with fail
    go_ret
    exact ⟨rfl, hb0⟩
/-- Valid, of a view of whatever length. -/
theorem refValid_all (num : Int) (l : List Int) (A : Option Addr) (c B : Nat) (w : World) (hn : In64 num) (hr : Reads w B 1 A l.length (l.map intV)) (hel : ∀ x ∈ l, In64 x) (hc : l.length ≤ c) (hB : B ≤ w.heap.size) :
    Calls Tryd.prog 19 #[.agg #[.int .i64 num, .slice A l.length c]] w (PB w (validV num l)) := by
  by_cases h : l.length ≤ 16
  · exact refValid_any num l A c B w ⟨hn, hr, by omega, hel, hc⟩ hB
  · have : validV num l = false := by
      rw [← Bool.not_eq_true, validV_iff]
      intro hv
      have := (validM_iff.1 hv.2.2).2.1
      omega
    rw [this]
    exact refValid_long num l A c w hn (by omega)

set_option maxRecDepth 1000000 in
set_option maxHeartbeats 4000000 in
theorem holds_no (C : CutC) (num : Int) (l : List Int) (A : Option Addr) (c : Nat) (L : Option Addr) (cL n : Nat) (w : World) (hn : In64 num) (hr : Reads w w.heap.size 1 A l.length (l.map intV)) (hel : ∀ x ∈ l, In64 x) (hc : l.length ≤ c) (ht : H.Tab w) (hbad : validV num l = true → 100 < n) :
    Calls Tryd.prog 4 #[.agg #[.int .i64 num, .slice A l.length c], .slice L n cL] w (PB w true) := by
  have hb0 := (Below.refl w.heap.size w).alloc (Nat.le_refl _) (.cells #[.int .i64 num, .slice A l.length c] 24)
  have hz := Blk.new w 24 #[.int .i64 num, .slice A l.length c]
  have AW := Lib.hid (fun W (hW : Below w.heap.size w W) => awake_of C W (ht.on hW))
  have KV := Lib.hid (fun W (hW : Below w.heap.size w W) => refValid_all num l A c w.heap.size W hn (hr.below hW) hel hc hW.size)
  have B0 := Lib.hid hb0
  have Z1 := Lib.hid hz
  clear hb0 hz hn hr hel hc ht
  generalize validV num l = v at *
  generalize l.length = nl at *
  cases v
  · clear hbad
    go_enter Tryd.func4, Tryd.ntmps4
    go_upto_region 1 with fail
    generalize w.alloc (.cells #[.int .i64 num, .slice A nl c] 24) = w0 at *
    have FB := Lib.hid (fun W (hW : Below w0.heap.size w0 W) => blk2 (Z1.out.below hW Z1.out.lt))
    go_wp2_with (first
      | (go_at_call 9; (with_reducible refine (AW.out _ B0.out).mono ?_); rintro e w1 ⟨rfl, b1⟩; (have p1 := FB.out _ b1); (have c1 := below2 B0.out b1))
      | (go_at_call 19; (with_reducible refine (KV.out _ c1).mono ?_); rintro e w2 ⟨rfl, b2⟩; (have p2 := FB.out _ (below2 b1 b2)); (have c2 := below2 c1 b2))
      | fail)
    go_ret
    exact ⟨rfl, c2⟩
  · have e1 := hbad rfl
    clear hbad
    have ddn : decide ((100 : Int) < (n : Int)) = true := by simp; omega
    go_enter Tryd.func4, Tryd.ntmps4
    go_upto_region 1 with fail
    generalize w.alloc (.cells #[.int .i64 num, .slice A nl c] 24) = w0 at *
    have FB := Lib.hid (fun W (hW : Below w0.heap.size w0 W) => blk2 (Z1.out.below hW Z1.out.lt))
    go_wp2_with (first
      | (go_at_call 9; (with_reducible refine (AW.out _ B0.out).mono ?_); rintro e w1 ⟨rfl, b1⟩; (have p1 := FB.out _ b1); (have c1 := below2 B0.out b1))
      | (go_at_call 19; (with_reducible refine (KV.out _ c1).mono ?_); rintro e w2 ⟨rfl, b2⟩; (have p2 := FB.out _ (below2 b1 b2)); (have c2 := below2 c1 b2))
      | fail)
    go_ret
    exact ⟨rfl, c2⟩
set_option maxRecDepth 1000000 in
set_option maxHeartbeats 4000000 in
theorem crash_no (C : CutC) (num : Int) (l : List Int) (A : Option Addr) (c : Nat) (x : Nat) (w : World) (hn : In64 num) (hr : Reads w w.heap.size 1 A l.length (l.map intV)) (hel : ∀ x ∈ l, In64 x) (hc : l.length ≤ c) (ht : H.Tab w) (hbad : validV num l = true → False) :
    Calls Tryd.prog 5 #[.agg #[.int .i64 num, .slice A l.length c], .int .u16 (x : Int)] w (PB w true) := by
  have hb0 := (Below.refl w.heap.size w).alloc (Nat.le_refl _) (.cells #[.int .i64 num, .slice A l.length c] 24)
  have hz := Blk.new w 24 #[.int .i64 num, .slice A l.length c]
  have AW := Lib.hid (fun W (hW : Below w.heap.size w W) => awake_of C W (ht.on hW))
  have KV := Lib.hid (fun W (hW : Below w.heap.size w W) => refValid_all num l A c w.heap.size W hn (hr.below hW) hel hc hW.size)
  have B0 := Lib.hid hb0
  have Z1 := Lib.hid hz
  clear hb0 hz hn hr hel hc ht
  generalize validV num l = v at *
  generalize l.length = nl at *
  cases v
  · clear hbad
    go_enter Tryd.func5, Tryd.ntmps5
    go_upto_region 1 with fail
    generalize w.alloc (.cells #[.int .i64 num, .slice A nl c] 24) = w0 at *
    have FB := Lib.hid (fun W (hW : Below w0.heap.size w0 W) => blk2 (Z1.out.below hW Z1.out.lt))
    go_wp2_with (first
      | (go_at_call 9; (with_reducible refine (AW.out _ B0.out).mono ?_); rintro e w1 ⟨rfl, b1⟩; (have p1 := FB.out _ b1); (have c1 := below2 B0.out b1))
      | (go_at_call 19; (with_reducible refine (KV.out _ c1).mono ?_); rintro e w2 ⟨rfl, b2⟩; (have p2 := FB.out _ (below2 b1 b2)); (have c2 := below2 c1 b2))
      | fail)
    go_ret
    exact ⟨rfl, c2⟩
  · exact (hbad rfl).elim
set_option maxRecDepth 1000000 in
set_option maxHeartbeats 4000000 in
theorem noise7_no (C : CutC) (num : Int) (l : List Int) (A : Option Addr) (c : Nat) (L : Option Addr) (cL n x : Nat) (w : World) (hn : In64 num) (hr : Reads w w.heap.size 1 A l.length (l.map intV)) (hel : ∀ x ∈ l, In64 x) (hc : l.length ≤ c) (ht : H.Tab w) (hbad : validV num l = true → 100 < n) :
    Calls Tryd.prog 6 #[.agg #[.int .i64 num, .slice A l.length c], .slice L n cL, .int .u16 (x : Int)] w (PB w true) := by
  have hb0 := (Below.refl w.heap.size w).alloc (Nat.le_refl _) (.cells #[.int .i64 num, .slice A l.length c] 24)
  have hz := Blk.new w 24 #[.int .i64 num, .slice A l.length c]
  have AW := Lib.hid (fun W (hW : Below w.heap.size w W) => awake_of C W (ht.on hW))
  have KV := Lib.hid (fun W (hW : Below w.heap.size w W) => refValid_all num l A c w.heap.size W hn (hr.below hW) hel hc hW.size)
  have B0 := Lib.hid hb0
  have Z1 := Lib.hid hz
  clear hb0 hz hn hr hel hc ht
  generalize validV num l = v at *
  generalize l.length = nl at *
  cases v
  · clear hbad
    go_enter Tryd.func6, Tryd.ntmps6
    go_upto_region 1 with fail
    generalize w.alloc (.cells #[.int .i64 num, .slice A nl c] 24) = w0 at *
    have FB := Lib.hid (fun W (hW : Below w0.heap.size w0 W) => blk2 (Z1.out.below hW Z1.out.lt))
    go_wp2_with (first
      | (go_at_call 9; (with_reducible refine (AW.out _ B0.out).mono ?_); rintro e w1 ⟨rfl, b1⟩; (have p1 := FB.out _ b1); (have c1 := below2 B0.out b1))
      | (go_at_call 19; (with_reducible refine (KV.out _ c1).mono ?_); rintro e w2 ⟨rfl, b2⟩; (have p2 := FB.out _ (below2 b1 b2)); (have c2 := below2 c1 b2))
      | fail)
    go_ret
    exact ⟨rfl, c2⟩
  · have e1 := hbad rfl
    clear hbad
    have ddn : decide ((100 : Int) < (n : Int)) = true := by simp; omega
    go_enter Tryd.func6, Tryd.ntmps6
    go_upto_region 1 with fail
    generalize w.alloc (.cells #[.int .i64 num, .slice A nl c] 24) = w0 at *
    have FB := Lib.hid (fun W (hW : Below w0.heap.size w0 W) => blk2 (Z1.out.below hW Z1.out.lt))
    go_wp2_with (first
      | (go_at_call 9; (with_reducible refine (AW.out _ B0.out).mono ?_); rintro e w1 ⟨rfl, b1⟩; (have p1 := FB.out _ b1); (have c1 := below2 B0.out b1))
      | (go_at_call 19; (with_reducible refine (KV.out _ c1).mono ?_); rintro e w2 ⟨rfl, b2⟩; (have p2 := FB.out _ (below2 b1 b2)); (have c2 := below2 c1 b2))
      | fail)
    go_ret
    exact ⟨rfl, c2⟩
set_option maxRecDepth 1000000 in
set_option maxHeartbeats 4000000 in
theorem full7_no (C : CutC) (num : Int) (l : List Int) (A : Option Addr) (c : Nat) (L : Option Addr) (cL n : Nat) (w : World) (hn : In64 num) (hr : Reads w w.heap.size 1 A l.length (l.map intV)) (hel : ∀ x ∈ l, In64 x) (hc : l.length ≤ c) (ht : H.Tab w) (hbad : validV num l = true → 20 < n) :
    Calls Tryd.prog 7 #[.agg #[.int .i64 num, .slice A l.length c], .slice L n cL] w (PB w true) := by
  have hb0 := (Below.refl w.heap.size w).alloc (Nat.le_refl _) (.cells #[.int .i64 num, .slice A l.length c] 24)
  have hz := Blk.new w 24 #[.int .i64 num, .slice A l.length c]
  have AW := Lib.hid (fun W (hW : Below w.heap.size w W) => awake_of C W (ht.on hW))
  have KV := Lib.hid (fun W (hW : Below w.heap.size w W) => refValid_all num l A c w.heap.size W hn (hr.below hW) hel hc hW.size)
  have B0 := Lib.hid hb0
  have Z1 := Lib.hid hz
  clear hb0 hz hn hr hel hc ht
  generalize validV num l = v at *
  generalize l.length = nl at *
  cases v
  · clear hbad
    go_enter Tryd.func7, Tryd.ntmps7
    go_upto_region 1 with fail
    generalize w.alloc (.cells #[.int .i64 num, .slice A nl c] 24) = w0 at *
    have FB := Lib.hid (fun W (hW : Below w0.heap.size w0 W) => blk2 (Z1.out.below hW Z1.out.lt))
    go_wp2_with (first
      | (go_at_call 9; (with_reducible refine (AW.out _ B0.out).mono ?_); rintro e w1 ⟨rfl, b1⟩; (have p1 := FB.out _ b1); (have c1 := below2 B0.out b1))
      | (go_at_call 19; (with_reducible refine (KV.out _ c1).mono ?_); rintro e w2 ⟨rfl, b2⟩; (have p2 := FB.out _ (below2 b1 b2)); (have c2 := below2 c1 b2))
      | fail)
    go_ret
    exact ⟨rfl, c2⟩
  · have e1 := hbad rfl
    clear hbad
    have ddn : decide ((20 : Int) < (n : Int)) = true := by simp; omega
    go_enter Tryd.func7, Tryd.ntmps7
    go_upto_region 1 with fail
    generalize w.alloc (.cells #[.int .i64 num, .slice A nl c] 24) = w0 at *
    have FB := Lib.hid (fun W (hW : Below w0.heap.size w0 W) => blk2 (Z1.out.below hW Z1.out.lt))
    go_wp2_with (first
      | (go_at_call 9; (with_reducible refine (AW.out _ B0.out).mono ?_); rintro e w1 ⟨rfl, b1⟩; (have p1 := FB.out _ b1); (have c1 := below2 B0.out b1))
      | (go_at_call 19; (with_reducible refine (KV.out _ c1).mono ?_); rintro e w2 ⟨rfl, b2⟩; (have p2 := FB.out _ (below2 b1 b2)); (have c2 := below2 c1 b2))
      | fail)
    go_ret
    exact ⟨rfl, c2⟩
set_option maxRecDepth 1000000 in
set_option maxHeartbeats 4000000 in
theorem grows_no (C : CutC) (num : Int) (l : List Int) (A : Option Addr) (c : Nat) (L M : Option Addr) (cL cM n o : Nat) (w : World) (hn : In64 num) (hr : Reads w w.heap.size 1 A l.length (l.map intV)) (hel : ∀ x ∈ l, In64 x) (hc : l.length ≤ c) (ht : H.Tab w) (hbad : validV num l = true → 80 < n ∨ (n ≤ 80 ∧ 40 < o)) :
    Calls Tryd.prog 8 #[.agg #[.int .i64 num, .slice A l.length c], .slice L n cL, .slice M o cM] w (PB w true) := by
  have hb0 := (Below.refl w.heap.size w).alloc (Nat.le_refl _) (.cells #[.int .i64 num, .slice A l.length c] 24)
  have hz := Blk.new w 24 #[.int .i64 num, .slice A l.length c]
  have AW := Lib.hid (fun W (hW : Below w.heap.size w W) => awake_of C W (ht.on hW))
  have KV := Lib.hid (fun W (hW : Below w.heap.size w W) => refValid_all num l A c w.heap.size W hn (hr.below hW) hel hc hW.size)
  have B0 := Lib.hid hb0
  have Z1 := Lib.hid hz
  clear hb0 hz hn hr hel hc ht
  generalize validV num l = v at *
  generalize l.length = nl at *
  cases v
  · clear hbad
    go_enter Tryd.func8, Tryd.ntmps8
    go_upto_region 1 with fail
    generalize w.alloc (.cells #[.int .i64 num, .slice A nl c] 24) = w0 at *
    have FB := Lib.hid (fun W (hW : Below w0.heap.size w0 W) => blk2 (Z1.out.below hW Z1.out.lt))
    go_wp2_with (first
      | (go_at_call 9; (with_reducible refine (AW.out _ B0.out).mono ?_); rintro e w1 ⟨rfl, b1⟩; (have p1 := FB.out _ b1); (have c1 := below2 B0.out b1))
      | (go_at_call 19; (with_reducible refine (KV.out _ c1).mono ?_); rintro e w2 ⟨rfl, b2⟩; (have p2 := FB.out _ (below2 b1 b2)); (have c2 := below2 c1 b2))
      | fail)
    go_ret
    exact ⟨rfl, c2⟩
  · have e0 := hbad rfl
    clear hbad
    rcases e0 with e1 | e1
    · have ddn : decide ((80 : Int) < (n : Int)) = true := by simp; omega
      go_enter Tryd.func8, Tryd.ntmps8
      go_upto_region 1 with fail
      generalize w.alloc (.cells #[.int .i64 num, .slice A nl c] 24) = w0 at *
      have FB := Lib.hid (fun W (hW : Below w0.heap.size w0 W) => blk2 (Z1.out.below hW Z1.out.lt))
      go_wp2_with (first
        | (go_at_call 9; (with_reducible refine (AW.out _ B0.out).mono ?_); rintro e w1 ⟨rfl, b1⟩; (have p1 := FB.out _ b1); (have c1 := below2 B0.out b1))
        | (go_at_call 19; (with_reducible refine (KV.out _ c1).mono ?_); rintro e w2 ⟨rfl, b2⟩; (have p2 := FB.out _ (below2 b1 b2)); (have c2 := below2 c1 b2))
        | fail)
      go_ret
      exact ⟨rfl, c2⟩
    · obtain ⟨e1, e2⟩ := e1
      have ggn : ¬ 80 < n := by omega
      have ddn : decide ((80 : Int) < (n : Int)) = false := by simp; omega
      have ddo : decide ((40 : Int) < (o : Int)) = true := by simp; omega
      go_enter Tryd.func8, Tryd.ntmps8
      go_upto_region 1 with fail
      generalize w.alloc (.cells #[.int .i64 num, .slice A nl c] 24) = w0 at *
      have FB := Lib.hid (fun W (hW : Below w0.heap.size w0 W) => blk2 (Z1.out.below hW Z1.out.lt))
      go_wp2_with (first
        | (go_at_call 9; (with_reducible refine (AW.out _ B0.out).mono ?_); rintro e w1 ⟨rfl, b1⟩; (have p1 := FB.out _ b1); (have c1 := below2 B0.out b1))
        | (go_at_call 19; (with_reducible refine (KV.out _ c1).mono ?_); rintro e w2 ⟨rfl, b2⟩; (have p2 := FB.out _ (below2 b1 b2)); (have c2 := below2 c1 b2))
        | fail)
      go_ret
      exact ⟨rfl, c2⟩
set_option maxRecDepth 1000000 in
set_option maxHeartbeats 4000000 in
theorem tells_no (C : CutC) (num : Int) (A E : Option Addr) (n c m cE : Nat) (w : World) (ht : H.Tab w) (hbad : ¬ (n ≤ 60 ∧ m ≤ 150)) :
    Calls Tryd.prog 3 #[.agg #[.int .i64 num, .slice A n c], .slice E m cE] w (PB w true) := by
  have hb0 := (Below.refl w.heap.size w).alloc (Nat.le_refl _) (.cells #[.int .i64 num, .slice A n c] 24)
  have hz := Blk.new w 24 #[.int .i64 num, .slice A n c]
  have AW := Lib.hid (fun W (hW : Below w.heap.size w W) => awake_of C W (ht.on hW))
  have SM := Lib.hid (fun W => small7_any num A E n c m cE W)
  have d1 : (decide (n ≤ 60) && decide (m ≤ 150)) = false := by
    rw [← Bool.not_eq_true]; simp; omega
  rw [d1] at SM
  have B0 := Lib.hid hb0
  have Z1 := Lib.hid hz
  clear hb0 hz d1 ht hbad
  go_enter Tryd.func3, Tryd.ntmps3
  go_upto_region 1 with fail
  generalize w.alloc (.cells #[.int .i64 num, .slice A n c] 24) = w0 at *
  have FB := Lib.hid (fun W (hW : Below w0.heap.size w0 W) => blk2 (Z1.out.below hW Z1.out.lt))
  go_wp2_with (first
    | (go_at_call 9; (with_reducible refine (AW.out _ B0.out).mono ?_); rintro e w1 ⟨rfl, b1⟩; (have p1 := FB.out _ b1))
    | (go_at_call 10; (with_reducible refine (SM.out _).mono ?_); rintro e w2 ⟨rfl, b2⟩)
    | fail)
  go_ret
  exact ⟨rfl, below2 B0.out (below2 b1 b2)⟩
end Go.Proofs.YtipipjbpjpdcbaaDoor.Ct
