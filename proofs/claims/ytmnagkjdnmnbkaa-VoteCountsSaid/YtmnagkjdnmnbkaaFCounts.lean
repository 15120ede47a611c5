/- Layer 8: the walk of VoteCounts. -/
import Derived.Test.YtmnagkjdnmnbkaaFCasts
namespace Go.Proofs.Ytmnagkjdnmnbkaa.Fv
set_option linter.unusedVariables false
set_option linter.unusedSimpArgs false
open Go.RowKit
open Go.Proofs.Ytmnagkjdnmnbkaa.W
open Go.Proofs.Ytmnagkjdnmnbkaa.V

set_option maxRecDepth 1000000 in
set_option maxHeartbeats 16000000 in
theorem lawCounts_of (C : VoteC) (num : Int) (l : List Int) (A E Y : Option Addr) (c cE cY : Nat) (ps : List Pbl) (ys : List Int) (w : World) (h : VW w w.heap.size num l A c) (hs : BS w w.heap.size ps E cE) (hy : LS w w.heap.size ys Y cY) (hsm : smallF l.length ps = true) (hy1 : ys.length ≤ 60) :
    Calls Try.prog 4 #[.agg #[.int .i64 num, .slice A l.length c], .slice E ps.length cE, .slice Y ys.length cY] w (PB w true) := by
  have hb0 := (Below.refl w.heap.size w).alloc (Nat.le_refl _) (.cells #[.int .i64 num, .slice A l.length c] 24)
  have hz := Blk.new w 24 #[.int .i64 num, .slice A l.length c]
  obtain ⟨sm1, sm2, sm3⟩ := small_parts hsm
  have AW := Lib.hid (fun W => awake_of C W)
  have KM := Lib.hid (fun W (hW : Below w.heap.size w W) => by
    have q := small8_any num A E l.length c cE w.heap.size ps W (hs.rd.below hW) hW.size (by omega)
    rwa [hsm] at q)
  have KW := Lib.hid (fun W (hW : Below w.heap.size w W) => C.win num l A E c cE w.heap.size ps W (h.below hW) (hs.below hW) hW.size (by omega) (by omega) (fun p hp => by have := sm3 p hp; omega))
  have KWR := Lib.hid (fun W (hW : Below w.heap.size w W) => ref8Winner_any num l A E c cE w.heap.size ps W (h.below hW) (hs.below hW) hW.size (by omega))
  have KO := Lib.hid (fun W (hW : Below w.heap.size w W) => C.votes E Y cE cY w.heap.size ps ys W (hs.below hW) (hy.below hW) hW.size (by omega) (by omega) (fun p hp => by have := sm3 p hp; omega))
  have KOR := Lib.hid (fun W (hW : Below w.heap.size w W) => ref8Votes_any E Y cE cY w.heap.size ps ys W (hs.below hW) (hy.below hW) hW.size (by omega))
  have KU := Lib.hid (fun W (hW : Below w.heap.size w W) => C.und num l A E c cE w.heap.size ps W (h.below hW) (hs.below hW) hW.size (by omega) (by omega) (fun p hp => by have := sm3 p hp; omega))
  have KUR := Lib.hid (fun W (hW : Below w.heap.size w W) => ref8Und_any num l A E c cE w.heap.size ps W (h.below hW) (hs.below hW) hW.size (by omega))
  obtain ⟨bw, hbw⟩ : ∃ b, b = (winF num l (ps.map Pbl.bal)).isSome := ⟨_, rfl⟩
  rw [← hbw] at KW KWR
  generalize (winF num l (ps.map Pbl.bal)).getD [] = R at *
  generalize votesF (ps.map Pbl.bal) ys = vt at *
  generalize undF num l (ps.map Pbl.bal) = ud at *
  have KB := Lib.hid (fun (G H : Option Addr) (cG cH : Nat) W (hq : LS W W.heap.size R G cG) (hr : LS W W.heap.size R H cH) => by
    have q := same8_at W R R G H R.length R.length cG cH rfl rfl hq hr
    rwa [decide_eq_true rfl] at q)
  obtain ⟨n, hn⟩ : ∃ n, n = l.length := ⟨_, rfl⟩
  obtain ⟨ns, hns⟩ : ∃ n, n = ps.length := ⟨_, rfl⟩
  obtain ⟨ny, hny⟩ : ∃ n, n = ys.length := ⟨_, rfl⟩
  obtain ⟨nR, hnR⟩ : ∃ n, n = R.length := ⟨_, rfl⟩
  rw [← hn] at hb0 hz KM KW KWR KU KUR ⊢
  rw [← hns] at KM KW KWR KO KOR KU KUR ⊢
  rw [← hny] at KO KOR hy1 ⊢
  rw [← hnR] at KW KWR KB
  have d3 : decide ((60 : Int) < (ny : Int)) = false := by simp; omega
  have B0 := Lib.hid hb0
  have Z1 := Lib.hid hz
  clear hb0 hz hn hns hny hnR hbw h hs hy hsm sm1 sm2 sm3
  go_enter Try.func4, Try.ntmps4
  go_upto_region 1 with fail
  generalize w.alloc (.cells #[.int .i64 num, .slice A n c] 24) = w0 at *
  have FB := Lib.hid (fun W (hW : Below w0.heap.size w0 W) => blk2 (Z1.out.below hW Z1.out.lt))
  go_upto_region 7 with (first
    | (go_at_call 7; (with_reducible refine (AW.out _).mono ?_); rintro e w1 ⟨rfl, q1⟩; (have c1 := below2 B0.out q1); (have p1 := FB.out _ q1))
    | (go_at_call 8; (with_reducible refine (KM.out _ c1).mono ?_); rintro e w2 ⟨rfl, q2⟩; (have c2 := below2 c1 q2); (have v2 := below2 q1 q2); (have p2 := FB.out _ v2))
    | (go_at_call 16; (with_reducible refine (KW.out _ c2).mono ?_); rintro e w3 ⟨A3, c3, rfl, -, s3, q3⟩; (have u3 := below2 c2 q3); (have v3 := below2 v2 q3); (have p3 := FB.out _ v3))
    | (go_at_call 17; (with_reducible refine (KWR.out _ u3).mono ?_); rintro e w4 ⟨A4, c4, rfl, -, s4, q4⟩; (have u4 := below2 u3 q4); (have v4 := below2 v3 q4))
    | fail)
  have V4 := Lib.hid v4
  have W4 := Lib.hid u4
  have S3 := Lib.hid ((s3.below q4).more q4.size)
  have S4 := Lib.hid s4
  have KBX := Lib.hid (fun W (hW : Below w4.heap.size w4 W) => KB.out A3 A4 c3 c4 W ((S3.out.below hW).more hW.size) ((S4.out.below hW).more hW.size))
  clear p1 p2 p3 q1 q2 q3 q4 c1 c2 u3 u4 v2 v3 v4 s3 s4 KB KM KW KWR AW
  have i4 : Below w4.heap.size w4 w4 := Below.refl _ _
  have d4 : Below w4.heap.size w4 w4.drew := i4.drew
  have h1 : (bw == bw) = true := by simp
  have h2 : ((vt : Int) == (vt : Int)) = true := beqT rfl
  have h3 : (ud == ud) = true := by simp
  go_region_held3 (fun W' => (W'.cell? ⟨w.heap.size, 0, none⟩ = some (.int .i64 num) ∧ W'.cell? ⟨w.heap.size, 1, none⟩ = some (.slice A n c))) (first | exact s9 | exact s8 | exact s7 | exact s6 | exact s5 | exact FB.out _ (below2 V4.out d4) | exact FB.out _ V4.out) (first
    | (go_at_call 15; (with_reducible refine (KBX.out _ (by first | exact d4 | exact i4)).mono ?_); rintro e w5 ⟨rfl, q5⟩; have b5 : Below w4.heap.size w4 w5 := (by first | exact q5 | exact bdrew q5); have s5 := FB.out _ (below2 V4.out b5))
    | (go_at_call 18; (with_reducible refine (KO.out _ (by first | exact below2 W4.out b7 | exact below2 W4.out b5)).mono ?_); rintro e w6 ⟨rfl, q6⟩; have b6 : Below w4.heap.size w4 w6 := (by first | exact below2 b7 q6 | exact below2 b5 q6); have s6 := FB.out _ (below2 V4.out b6))
    | (go_at_call 19; (with_reducible refine (KOR.out _ (by first | exact below2 W4.out b6 | exact below2 W4.out b5)).mono ?_); rintro e w7 ⟨rfl, q7⟩; have b7 : Below w4.heap.size w4 w7 := (by first | exact below2 b6 q7 | exact below2 b5 q7); have s7 := FB.out _ (below2 V4.out b7))
    | (go_at_call 20; (with_reducible refine (KU.out _ (by first | exact below2 W4.out b9 | exact below2 W4.out b7 | exact below2 W4.out b6)).mono ?_); rintro e w8 ⟨rfl, q8⟩; have b8 : Below w4.heap.size w4 w8 := (by first | exact below2 b9 q8 | exact below2 b7 q8 | exact below2 b6 q8); have s8 := FB.out _ (below2 V4.out b8))
    | (go_at_call 21; (with_reducible refine (KUR.out _ (by first | exact below2 W4.out b8 | exact below2 W4.out b7 | exact below2 W4.out b6)).mono ?_); rintro e w9 ⟨rfl, q9⟩; have b9 : Below w4.heap.size w4 w9 := (by first | exact below2 b8 q9 | exact below2 b7 q9 | exact below2 b6 q9); have s9 := FB.out _ (below2 V4.out b9))
    | fail)
  all_goals
    go_wp2_with fail
    (try go_simp)
    go_ret
    exact ⟨rfl, by first | exact below2 W4.out b9 | exact below2 W4.out b8⟩
end Go.Proofs.Ytmnagkjdnmnbkaa.Fv
