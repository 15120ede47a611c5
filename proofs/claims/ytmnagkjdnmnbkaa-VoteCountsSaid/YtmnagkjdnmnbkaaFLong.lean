/- Layer 8: Place, Contains and Applicable of views of whatever length. -/
import Derived.Test.YtmnagkjdnmnbkaaFCounts
namespace Go.Proofs.Ytmnagkjdnmnbkaa.Fv
set_option linter.unusedVariables false
set_option linter.unusedSimpArgs false
open Go.RowKit
open Go.Proofs.Ytmnagkjdnmnbkaa.W
open Go.Proofs.Ytmnagkjdnmnbkaa.V

set_option maxRecDepth 100000 in
set_option maxHeartbeats 400000 in
theorem place63_any (L : Option Addr) (c B : Nat) (l : List Int) (id : Int) (w : World) (hr : Reads w B 1 L l.length (l.map intV)) (hl : l.length ≤ 9223372036854775807) :
    Calls Try.prog 45 #[.slice L l.length c, .int .i64 id] w fun e w' => e = .returned (.int .i64 (place l id)) ∧ w = w' := by
  go_enter Try.func45, Try.ntmps45
  go_wp2
  go_loop [5] (fun j => ∃ k : Nat, k ≤ l.length ∧ j = .int .i64 k ∧ placeF id k (l.drop k) = place l id) (fun j => l.length - (intOf j).toNat)
  case atStart => exact ⟨0, Nat.zero_le _, rfl, rfl⟩
  case round =>
    obtain ⟨k, hk, rfl, hd⟩ := hrel
    by_cases hlt : k < l.length
    · obtain ⟨ad, u, rfl, _, hx, hcell⟩ := hr.at_ hlt
      have hux : u = .int .i64 l[k] := by simp [hlt, intV] at hx; exact hx.symm
      rw [hux] at hcell
      have hdk : l.drop k = l[k] :: l.drop (k + 1) := List.drop_eq_getElem_cons hlt
      generalize l[k] = x at *
      rw [hdk] at hd
      have HD := Lib.hid hd
      have hlt2 : (k : Int) < (l.length : Int) := by omega
      clear hd hdk hx hux
      by_cases hxe : x = id
      · subst hxe
        have ht := Lib.hid (show (k : Int) = place l x by rw [← HD.out]; simp [placeF])
        go_wp2_with fail
        go_ret
        exact ⟨retI64 ht.out, rfl⟩
      · have fe : (x == id) = false := beqF hxe
        have ht := Lib.hid (show placeF id (k + 1) (l.drop (k + 1)) = place l id by rw [← HD.out, placeF, if_neg hxe])
        clear hxe
        go_wp2_with fail
        go_round
        case rel => exact ⟨k + 1, by omega, by go_num, ht.out⟩
        case measure => simp [intOf]; omega
    · have ht := Lib.hid (show (-1 : Int) = place l id by rw [← hd, List.drop_eq_nil_of_le (by omega)]; rfl)
      have hlt2 : ¬ (k : Int) < (l.length : Int) := by omega
      clear hd
      go_wp2
      go_ret
      exact ⟨retI64 ht.out, rfl⟩
set_option maxRecDepth 100000 in
theorem contains63_any (L : Option Addr) (c B : Nat) (l : List Int) (id : Int) (w : World) (hr : Reads w B 1 L l.length (l.map intV)) (hl : l.length ≤ 9223372036854775807) :
    Calls Try.prog 31 #[.slice L l.length c, .int .i64 id] w fun e w' => e = .returned (.bool (hasB l id)) ∧ w = w' := by
  have C := Lib.hid (place63_any L c B l id w hr hl)
  by_cases h : 0 ≤ place l id
  · have ht := Lib.hid (show hasB l id = true by simpa [hasB] using h)
    generalize place l id = p at *
    go_enter Try.func31, Try.ntmps31
    go_wp2_with (go_at_call 45; refine C.out.mono ?_; rintro e w1 ⟨rfl, rfl⟩)
    go_ret
    exact ⟨retB' ht.out, rfl⟩
  · have ht := Lib.hid (show hasB l id = false by simpa [hasB] using h)
    generalize place l id = p at *
    go_enter Try.func31, Try.ntmps31
    go_wp2_with (go_at_call 45; refine C.out.mono ?_; rintro e w1 ⟨rfl, rfl⟩)
    go_ret
    exact ⟨retB' (by rw [ht.out]; exact (decide_eq_false (by omega)).symm), rfl⟩
set_option maxRecDepth 100000 in
set_option maxHeartbeats 400000 in
theorem refValidM_long (L : Option Addr) (c : Nat) (l : List Int) (w : World) (hl : 16 < l.length) :
    Calls Try.prog 39 #[.slice L l.length c] w (PB w false) := by
  have h1 : (1 : Int) ≤ (l.length : Int) := by omega
  have h2 : ¬ (l.length : Int) ≤ 16 := by omega
  go_enter Try.func39, Try.ntmps39
  go_wp2_with fail
  go_ret
  exact ⟨rfl, Below.refl _ _⟩
set_option maxRecDepth 100000 in
set_option maxHeartbeats 400000 in
theorem refValid_long (num : Int) (l : List Int) (A : Option Addr) (c : Nat) (w : World) (hn : In64 num) (hl : 16 < l.length) :
    Calls Try.prog 23 #[.agg #[.int .i64 num, .slice A l.length c]] w (PB w false) := by
  have hb0 := (Below.refl w.heap.size w).alloc (Nat.le_refl _) (.cells #[.int .i64 num, .slice A l.length c] 24)
  have CM := Lib.hid (fun W => refValidM_long A c l W hl)
  obtain ⟨n1, n2⟩ := hn
  clear hl
  by_cases h1 : 0 ≤ num
  · by_cases h2 : num ≤ 1099511627776
    · go_enter Try.func23, Try.ntmps23
      go_wp2_with (go_at_call 39; (with_reducible refine (CM.out _).mono ?_); rintro e w1 ⟨rfl, q⟩)
      go_ret
      exact ⟨rfl, hb0.trans (q.mono hb0.size)⟩
    · clear CM
      go_enter Try.func23, Try.ntmps23
      go_wp2_with fail
      go_ret
      exact ⟨rfl, hb0⟩
  · clear CM
    go_enter Try.func23, Try.ntmps23
    go_wp2_with fail
    go_ret
    exact ⟨rfl, hb0⟩
/-- Valid, of a view of whatever length. -/
theorem refValid_all (num : Int) (l : List Int) (A : Option Addr) (c B : Nat) (w : World) (hn : In64 num) (hr : Reads w B 1 A l.length (l.map intV)) (hel : ∀ x ∈ l, In64 x) (hc : l.length ≤ c) (hB : B ≤ w.heap.size) :
    Calls Try.prog 23 #[.agg #[.int .i64 num, .slice A l.length c]] w (PB w (validV num l)) := by
  by_cases h : l.length ≤ 16
  · exact refValid_any num l A c B w ⟨hn, hr, by omega, hel, hc⟩ hB
  · have : validV num l = false := by
      rw [← Bool.not_eq_true, validV_iff]
      intro hv
      have := (validM_iff.1 hv.2.2).2.1
      omega
    rw [this]
    exact refValid_long num l A c w hn (by omega)


set_option maxRecDepth 100000 in
set_option maxHeartbeats 2000000 in
theorem next_long (num : Int) (l q : List Int) (A C : Option Addr) (c d : Nat) (w : World) (hn : In64 num) (hl : 16 < l.length) :
    Calls Try.prog 44 #[.agg #[.int .i64 num, .slice A l.length c], .slice C q.length d] w (OutNx w 0 0 1) := by
  have h01 : Below w.heap.size w ((w.alloc (.cells #[.int .i64 num, .slice A l.length c] 24)).alloc (.cells #[.int .i64 0, .slice none 0 0] 24)) := ((Below.refl w.heap.size w).alloc (Nat.le_refl _) _).alloc (by simp) _
  have hz := two_blk w 24 24 #[.int .i64 num, .slice A l.length c] #[.int .i64 0, .slice none 0 0]
  have CV := Lib.hid (fun W => refValid_long num l A c W hn hl)
  generalize l.length = n at *
  generalize q.length = m at *
  clear hl
  have B0 := Lib.hid h01
  have Z1 := Lib.hid hz.1
  have Z2 := Lib.hid hz.2
  clear hz h01
  go_enter Try.func44, Try.ntmps44
  go_upto_region 1 with fail
  generalize hg : (w.alloc (.cells #[.int .i64 num, .slice A n c] 24)).alloc (.cells #[.int .i64 0, .slice none 0 0] 24) = w0 at *
  clear hg
  have FB := Lib.hid (fun W (hW : Below w0.heap.size w0 W) => cells22 (Z1.out.below hW Z1.out.lt) (Z2.out.below hW Z2.out.lt))
  have p0 := FB.out _ (Below.refl _ _)
  go_wp2_with (go_at_call 23; (with_reducible refine (CV.out _).mono ?_); rintro e w1 ⟨rfl, b1⟩; obtain ⟨q0, q1, z0, z1, f0, f1⟩ := FB.out _ b1)
  refine bodyPost_ret (v := .tuple #[.agg #[.int .i64 0, .slice none 0 0], .int .i64 1]) (by simp [results, Try.results44, go_sem, z0, z1]) rfl ⟨none, 0, rfl, ?_⟩
  repeat (with_reducible refine below_setV ?_ (by simp) _)
  exact below2 B0.out b1
set_option maxRecDepth 1000000 in
set_option maxHeartbeats 4000000 in
theorem appl_long (num : Int) (l q : List Int) (A C : Option Addr) (c d : Nat) (w : World) (hn : In64 num) (hl : 16 < l.length) :
    Calls Try.prog 30 #[.agg #[.int .i64 num, .slice A l.length c], .slice C q.length d] w (PB w false) := by
  have hb0 := (Below.refl w.heap.size w).alloc (Nat.le_refl _) (.cells #[.int .i64 num, .slice A l.length c] 24)
  have hz := Blk.new w 24 #[.int .i64 num, .slice A l.length c]
  have KX := Lib.hid (fun W => next_long num l q A C c d W hn hl)
  have B0 := Lib.hid hb0
  have Z1 := Lib.hid hz
  clear hb0 hz hl
  generalize l.length = n at *
  generalize q.length = m at *
  go_enter Try.func30, Try.ntmps30
  go_upto_region 1 with fail
  generalize w.alloc (.cells #[.int .i64 num, .slice A n c] 24) = w0 at *
  have p0 := blk2 Z1.out
  go_wp2_with (first
    | (go_at_call 44; (with_reducible refine (KX.out _).mono ?_); rintro e w4 ⟨A4, c4, rfl, q4⟩)
    | fail)
  go_ret
  exact ⟨rfl, below2 B0.out (q4.alloc q4.size _)⟩
/-- A view of whatever length. -/
structure VL (w : World) (B : Nat) (num : Int) (l : List Int) (A : Option Addr) (c : Nat) : Prop where
  num64 : In64 num
  rd : Reads w B 1 A l.length (l.map intV)
  l63 : c ≤ 9223372036854775807
  el : ∀ x ∈ l, In64 x
  cap : l.length ≤ c
theorem VL.below {w W : World} {B : Nat} {num : Int} {l : List Int} {A : Option Addr} {c : Nat} (h : VL w B num l A c) (hb : Below B w W) : VL W B num l A c := { h with rd := h.rd.below hb }
theorem VL.more {w : World} {B B' : Nat} {num : Int} {l : List Int} {A : Option Addr} {c : Nat} (h : VL w B num l A c) (hb : B ≤ B') : VL w B' num l A c := { h with rd := h.rd.more hb }
theorem appl_all (num : Int) (l q : List Int) (A C : Option Addr) (c d B : Nat) (w : World) (h : VL w B num l A c) (h' : LS w B q C d) (hB : B ≤ w.heap.size) :
    Calls Try.prog 30 #[.agg #[.int .i64 num, .slice A l.length c], .slice C q.length d] w (PB w (applF num l q)) := by
  by_cases hl : l.length ≤ 16
  · exact refApplicable_any num l q A C c d B w ⟨h.num64, h.rd, by omega, h.el, h.cap⟩ h' hB
  · have : applF num l q = false := by
      unfold applF
      rw [decide_eq_false_iff_not]
      intro e
      have : validV num l = false := by
        rw [← Bool.not_eq_true, validV_iff]
        intro hv
        have := (validM_iff.1 hv.2.2).2.1
        omega
      unfold next at e
      rw [this] at e
      simp at e
    rw [this]
    exact appl_long num l q A C c d w h.num64 (by omega)
end Go.Proofs.Ytmnagkjdnmnbkaa.Fv
