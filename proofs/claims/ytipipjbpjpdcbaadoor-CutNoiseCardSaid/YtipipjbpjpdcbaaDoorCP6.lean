/- Package cut: Unstable, Stable; two slices put into one. -/
import Derived.Test.YtipipjbpjpdcbaaDoorCP5
namespace Go.Proofs.YtipipjbpjpdcbaaDoor.Ct
set_option linter.unusedVariables false
set_option linter.unusedSimpArgs false
open Go.RowKit
open Go.Proofs.YtipipjbpjpdcbaaDoor.W
open Go.Proofs.YtipipjbpjpdcbaaDoor.V
open Go.Proofs.YtipipjbpjpdcbaaDoor.O
open Go.Proofs.YtipipjbpjpdcbaaDoor.Pb (Alr alrsC len_alrsC reads_blk)
open Go.Proofs.YtipipjbpjpdcbaaDoor.Al

set_option maxRecDepth 1000000 in
set_option maxHeartbeats 4000000 in
theorem cutUnstable_any (num : Int) (l : List Int) (A E : Option Addr) (c cE B : Nat) (s : List Alr) (w : World) (h : VW w B num l A c) (hs : AS w B s E cE) (hB : B ≤ w.heap.size) (hm : s.length ≤ 100000) (ht : H.Tab w) :
    Calls Tryd.prog 16 #[.agg #[.int .i64 num, .slice A l.length c], .slice E s.length cE] w (OutInt w (susp K num l s false)) := by
  have hb0 := (Below.refl w.heap.size w).alloc (Nat.le_refl _) (.cells #[.int .i64 num, .slice A l.length c] 24)
  have hz := Blk.new w 24 #[.int .i64 num, .slice A l.length c]
  have KC := Lib.hid (fun W (hW : Below w.heap.size w W) => cutDivide_any num l A E c cE w.heap.size s W ((h.more hB).below hW) ((hs.more hB).below hW) hW.size hm (ht.on hW))
  obtain ⟨P, hP⟩ : ∃ P, P = susp K num l s false := ⟨_, rfl⟩
  obtain ⟨Q, hQ⟩ : ∃ P, P = susp K num l s true := ⟨_, rfl⟩
  rw [← hP, ← hQ] at KC
  have HP := Lib.hid (show P = susp K num l s false by first | exact hP | exact hQ)
  clear hP hQ
  obtain ⟨n, hn⟩ : ∃ n, n = l.length := ⟨_, rfl⟩
  obtain ⟨ns, hns⟩ : ∃ m, m = s.length := ⟨_, rfl⟩
  obtain ⟨nP, hnP⟩ : ∃ m, m = P.length := ⟨_, rfl⟩
  obtain ⟨nQ, hnQ⟩ : ∃ m, m = Q.length := ⟨_, rfl⟩
  have HNP := Lib.hid hnP
  have HNQ := Lib.hid hnQ
  rw [← hn] at hb0 hz KC ⊢
  rw [← hns] at KC ⊢
  rw [← hnP, ← hnQ] at KC
  have B0 := Lib.hid hb0
  have Z1 := Lib.hid hz
  clear hb0 hz hn hns hnP hnQ h hs hm hB ht
  go_enter Tryd.func16, Tryd.ntmps16
  go_upto_region 1 with fail
  generalize w.alloc (.cells #[.int .i64 num, .slice A n c] 24) = w0 at *
  have p0 := blk2 Z1.out
  go_wp2_with (first
    | (go_at_call 36; (with_reducible refine (KC.out _ B0.out).mono ?_); rintro e w1 ⟨A1, c1, A2, c2, rfl, h1, h2, r1, r2, q1⟩)
    | fail)
  go_ret
  rw [← HP.out]
  exact ⟨A1, c1, by rw [← HNP.out]; rfl, by rw [← HNP.out]; exact h1, by rw [← HNP.out]; exact r1, below2 B0.out q1⟩

set_option maxRecDepth 1000000 in
set_option maxHeartbeats 4000000 in
theorem cutStable_any (num : Int) (l : List Int) (A E : Option Addr) (c cE B : Nat) (s : List Alr) (w : World) (h : VW w B num l A c) (hs : AS w B s E cE) (hB : B ≤ w.heap.size) (hm : s.length ≤ 100000) (ht : H.Tab w) :
    Calls Tryd.prog 18 #[.agg #[.int .i64 num, .slice A l.length c], .slice E s.length cE] w (OutInt w (susp K num l s true)) := by
  have hb0 := (Below.refl w.heap.size w).alloc (Nat.le_refl _) (.cells #[.int .i64 num, .slice A l.length c] 24)
  have hz := Blk.new w 24 #[.int .i64 num, .slice A l.length c]
  have KC := Lib.hid (fun W (hW : Below w.heap.size w W) => cutDivide_any num l A E c cE w.heap.size s W ((h.more hB).below hW) ((hs.more hB).below hW) hW.size hm (ht.on hW))
  obtain ⟨P, hP⟩ : ∃ P, P = susp K num l s false := ⟨_, rfl⟩
  obtain ⟨Q, hQ⟩ : ∃ P, P = susp K num l s true := ⟨_, rfl⟩
  rw [← hP, ← hQ] at KC
  have HP := Lib.hid (show Q = susp K num l s true by first | exact hP | exact hQ)
  clear hP hQ
  obtain ⟨n, hn⟩ : ∃ n, n = l.length := ⟨_, rfl⟩
  obtain ⟨ns, hns⟩ : ∃ m, m = s.length := ⟨_, rfl⟩
  obtain ⟨nP, hnP⟩ : ∃ m, m = P.length := ⟨_, rfl⟩
  obtain ⟨nQ, hnQ⟩ : ∃ m, m = Q.length := ⟨_, rfl⟩
  have HNP := Lib.hid hnP
  have HNQ := Lib.hid hnQ
  rw [← hn] at hb0 hz KC ⊢
  rw [← hns] at KC ⊢
  rw [← hnP, ← hnQ] at KC
  have B0 := Lib.hid hb0
  have Z1 := Lib.hid hz
  clear hb0 hz hn hns hnP hnQ h hs hm hB ht
  go_enter Tryd.func18, Tryd.ntmps18
  go_upto_region 1 with fail
  generalize w.alloc (.cells #[.int .i64 num, .slice A n c] 24) = w0 at *
  have p0 := blk2 Z1.out
  go_wp2_with (first
    | (go_at_call 36; (with_reducible refine (KC.out _ B0.out).mono ?_); rintro e w1 ⟨A1, c1, A2, c2, rfl, h1, h2, r1, r2, q1⟩)
    | fail)
  go_ret
  rw [← HP.out]
  exact ⟨A2, c2, by rw [← HNQ.out]; rfl, by rw [← HNQ.out]; exact h2, by rw [← HNQ.out]; exact r2, below2 B0.out q1⟩
end Go.Proofs.YtipipjbpjpdcbaaDoor.Ct
