/- Layer 8: the walk of VoteCasts. -/
import Derived.Test.YtmnagkjdnmnbkaaFAwake
namespace Go.Proofs.Ytmnagkjdnmnbkaa.Fv
set_option linter.unusedVariables false
set_option linter.unusedSimpArgs false
open Go.RowKit
open Go.Proofs.Ytmnagkjdnmnbkaa.W
open Go.Proofs.Ytmnagkjdnmnbkaa.V

theorem small_parts {n : Nat} {ps : List Pbl} (h : smallF n ps = true) : n ≤ 60 ∧ ps.length ≤ 60 ∧ ∀ p ∈ ps, p.cut.length ≤ 60 := by
  unfold smallF at h
  simp only [Bool.and_eq_true, decide_eq_true_eq, List.all_eq_true] at h
  exact ⟨h.2.1, h.2.2, h.1⟩
set_option maxRecDepth 1000000 in
set_option maxHeartbeats 16000000 in
theorem lawCasts_of (C : VoteC) (num : Int) (l : List Int) (A E X Y : Option Addr) (c cE cX cY : Nat) (ps : List Pbl) (b : Pbl) (xs ys : List Int) (w : World) (h : VW w w.heap.size num l A c) (hs : BS w w.heap.size ps E cE) (hb : PG w w.heap.size b) (hx : LS w w.heap.size xs X cX) (hy : LS w w.heap.size ys Y cY)
    (hsm : smallF l.length ps = true) (hb6 : b.cut.length ≤ 60) (hx1 : xs.length ≤ 100) (hy1 : ys.length ≤ 100) :
    Calls Try.prog 3 #[.agg #[.int .i64 num, .slice A l.length c], .slice E ps.length cE, .agg #[.int .i64 b.mem, .slice b.ptr b.cut.length b.cap], .slice X xs.length cX, .slice Y ys.length cY] w (PB w true) := by
  have hb0 := boxes2 w #[.int .i64 num, .slice A l.length c] #[.int .i64 b.mem, .slice b.ptr b.cut.length b.cap] 24 27
  have hz := two_blk w 24 27 #[.int .i64 num, .slice A l.length c] #[.int .i64 b.mem, .slice b.ptr b.cut.length b.cap]
  obtain ⟨sm1, sm2, sm3⟩ := small_parts hsm
  have AW := Lib.hid (fun W => awake_of C W)
  have KM := Lib.hid (fun W (hW : Below w.heap.size w W) => by
    have q := small8_any num A E l.length c cE w.heap.size ps W (hs.rd.below hW) hW.size (by omega)
    rwa [hsm] at q)
  have KC := Lib.hid (fun W (hW : Below w.heap.size w W) => C.cast num l A E c cE w.heap.size ps b W (h.below hW) (hs.below hW) (hb.below hW) hW.size (by omega))
  have KR := Lib.hid (fun W (hW : Below w.heap.size w W) => ref8Cast_any num l A E c cE w.heap.size ps b W (h.below hW) (hs.below hW) (hb.below hW) hW.size (by omega))
  have KV := Lib.hid (fun W (hW : Below w.heap.size w W) => C.valid num l A E c cE w.heap.size ps W (h.below hW) (hs.below hW) hW.size (by omega))
  have KVR := Lib.hid (fun W (hW : Below w.heap.size w W) => ref8Valid_any num l A E c cE w.heap.size ps W (h.below hW) (hs.below hW) hW.size)
  have KS := Lib.hid (fun W (hW : Below w.heap.size w W) => C.same xs ys X Y cX cY w.heap.size W (hx.below hW) (hy.below hW) hW.size (by omega) (by omega))
  have KSR := Lib.hid (fun W (hW : Below w.heap.size w W) => same8_at W xs ys X Y xs.length ys.length cX cY rfl rfl ((hx.below hW).more hW.size) ((hy.below hW).more hW.size))
  have KB := Lib.hid (fun (qs rs : List Pbl) (G H : Option Addr) (cG cH : Nat) W (hq : BS W W.heap.size qs G cG) (hr : BS W W.heap.size rs H cH) (e : qs.map Pbl.bal = rs.map Pbl.bal) => by
    have q := ref8Same_any G H cG cH W.heap.size qs rs W hq hr (Nat.le_refl _)
    rwa [decide_eq_true e] at q)
  generalize castE num l (ps.map Pbl.bal) b.bal = er at *
  generalize castB num l (ps.map Pbl.bal) b.bal = R at *
  generalize okB num l (ps.map Pbl.bal) = ok at *
  generalize decide (xs = ys) = eq at *
  obtain ⟨n, hn⟩ : ∃ n, n = l.length := ⟨_, rfl⟩
  obtain ⟨ns, hns⟩ : ∃ n, n = ps.length := ⟨_, rfl⟩
  obtain ⟨nb, hnb⟩ : ∃ n, n = b.cut.length := ⟨_, rfl⟩
  obtain ⟨nx, hnx⟩ : ∃ n, n = xs.length := ⟨_, rfl⟩
  obtain ⟨ny, hny⟩ : ∃ n, n = ys.length := ⟨_, rfl⟩
  obtain ⟨nR, hnR⟩ : ∃ n, n = R.length := ⟨_, rfl⟩
  rw [← hn] at hb0 hz KM KC KR KV KVR ⊢
  rw [← hns] at KM KC KR KV KVR ⊢
  rw [← hnb] at hb0 hz KC KR hb6 ⊢
  rw [← hnx] at KS KSR hx1 ⊢
  rw [← hny] at KS KSR hy1 ⊢
  rw [← hnR] at KC KR
  have d1 : decide ((60 : Int) < (nb : Int)) = false := by simp; omega
  have d2 : decide ((100 : Int) < (nx : Int)) = false := by simp; omega
  have d3 : decide ((100 : Int) < (ny : Int)) = false := by simp; omega
  have B0 := Lib.hid hb0
  have Z1 := Lib.hid hz.1
  have Z2 := Lib.hid hz.2
  clear hb0 hz hn hns hnb hnx hny hnR h hs hb hx hy hsm sm1 sm2 sm3
  obtain ⟨bm, bp, bc, bl⟩ := b
  dsimp only at *
  go_enter Try.func3, Try.ntmps3
  go_upto_region 1 with fail
  generalize (w.alloc (.cells #[.int .i64 num, .slice A n c] 24)).alloc (.cells #[.int .i64 bm, .slice bp nb bc] 27) = w0 at *
  have FB := Lib.hid (fun W (hW : Below w0.heap.size w0 W) => And.intro (blk2 (Z1.out.below hW Z1.out.lt)) (blk2 (Z2.out.below hW Z2.out.lt)))
  go_upto_region 7 with (first
    | (go_at_call 7; (with_reducible refine (AW.out _).mono ?_); rintro e w1 ⟨rfl, q1⟩; (have c1 := below2 B0.out q1); (have p1 := FB.out _ q1))
    | (go_at_call 8; (with_reducible refine (KM.out _ c1).mono ?_); rintro e w2 ⟨rfl, q2⟩; (have c2 := below2 c1 q2); (have v2 := below2 q1 q2); (have p2 := FB.out _ v2))
    | (go_at_call 9; (with_reducible refine (KC.out _ c2).mono ?_); rintro e w3 ⟨A3, c3, qs, rfl, hl3, hq3, s3, q3⟩; (have L3 := Lib.hid hl3); clear hl3; (have u3 := below2 c2 q3); (have v3 := below2 v2 q3); (have p3 := FB.out _ v3))
    | (go_at_call 10; (with_reducible refine (KR.out _ u3).mono ?_); rintro e w4 ⟨A4, c4, rs, rfl, hl4, hr4, s4, q4⟩; (have L4 := Lib.hid hl4); clear hl4; (have u4 := below2 u3 q4); (have v4 := below2 v3 q4))
    | fail)
  have V4 := Lib.hid v4
  have W4 := Lib.hid u4
  have S3 := Lib.hid (s3.step q4)
  have S4 := Lib.hid s4
  have HRR := Lib.hid (hq3.trans hr4.symm)
  have KBX := Lib.hid (fun W (hW : Below w4.heap.size w4 W) => show Calls Try.prog 11 #[.slice A3 nR c3, .slice A4 nR c4] W (PB W true) by
    have q := KB.out qs rs A3 A4 c3 c4 W (S3.out.step hW) (S4.out.step hW) HRR.out
    rw [← L3.out, ← L4.out] at q
    exact q)
  clear p1 p2 p3 q1 q2 q3 q4 c1 c2 u3 u4 v2 v3 v4 s3 s4 hq3 hr4 L3 L4 KB KM KC KR AW
  have i4 : Below w4.heap.size w4 w4 := Below.refl _ _
  have d4 : Below w4.heap.size w4 w4.drew := i4.drew
  have h1 : ((er : Int) == (er : Int)) = true := beqT rfl
  have h2 : (ok == ok) = true := by simp
  have h3 : (eq == eq) = true := by simp
  go_region_held3 (fun W' => ((W'.cell? ⟨w.heap.size, 0, none⟩ = some (.int .i64 num) ∧ W'.cell? ⟨w.heap.size, 1, none⟩ = some (.slice A n c)) ∧ W'.cell? ⟨w.heap.size + 1, 0, none⟩ = some (.int .i64 bm) ∧ W'.cell? ⟨w.heap.size + 1, 1, none⟩ = some (.slice bp nb bc))) (first | exact s9 | exact s8 | exact s7 | exact s6 | exact s5 | exact FB.out _ (below2 V4.out d4) | exact FB.out _ V4.out) (first
    | (go_at_call 11; (with_reducible refine (KBX.out _ (by first | exact d4 | exact i4)).mono ?_); rintro e w5 ⟨rfl, q5⟩; have b5 : Below w4.heap.size w4 w5 := (by first | exact q5 | exact bdrew q5); have s5 := FB.out _ (below2 V4.out b5))
    | (go_at_call 12; (with_reducible refine (KV.out _ (by first | exact below2 W4.out b7 | exact below2 W4.out b5)).mono ?_); rintro e w6 ⟨rfl, q6⟩; have b6 : Below w4.heap.size w4 w6 := (by first | exact below2 b7 q6 | exact below2 b5 q6); have s6 := FB.out _ (below2 V4.out b6))
    | (go_at_call 13; (with_reducible refine (KVR.out _ (by first | exact below2 W4.out b6 | exact below2 W4.out b5)).mono ?_); rintro e w7 ⟨rfl, q7⟩; have b7 : Below w4.heap.size w4 w7 := (by first | exact below2 b6 q7 | exact below2 b5 q7); have s7 := FB.out _ (below2 V4.out b7))
    | (go_at_call 14; (with_reducible refine (KS.out _ (by first | exact below2 W4.out b9 | exact below2 W4.out b7 | exact below2 W4.out b6)).mono ?_); rintro e w8 ⟨rfl, q8⟩; have b8 : Below w4.heap.size w4 w8 := (by first | exact below2 b9 q8 | exact below2 b7 q8 | exact below2 b6 q8); have s8 := FB.out _ (below2 V4.out b8))
    | (go_at_call 15; (with_reducible refine (KSR.out _ (by first | exact below2 W4.out b8 | exact below2 W4.out b7 | exact below2 W4.out b6)).mono ?_); rintro e w9 ⟨rfl, q9⟩; have b9 : Below w4.heap.size w4 w9 := (by first | exact below2 b8 q9 | exact below2 b7 q9 | exact below2 b6 q9); have s9 := FB.out _ (below2 V4.out b9))
    | fail)
  all_goals
    go_wp2_with fail
    (try go_simp)
    go_ret
    exact ⟨rfl, by first | exact below2 W4.out b9 | exact below2 W4.out b8⟩
end Go.Proofs.Ytmnagkjdnmnbkaa.Fv
