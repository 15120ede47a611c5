/- The reference of layer 6: Add. -/
import Derived.Test.YtojhdljbpmjigaaDoorARef4
namespace Go.Proofs.YtojhdljbpmjigaaDoor.Al
set_option linter.unusedVariables false
open Go.RowKit
open Go.Proofs.YtojhdljbpmjigaaDoor.W
open Go.Proofs.YtojhdljbpmjigaaDoor.V
open Go.Proofs.YtojhdljbpmjigaaDoor.O
open Go.Proofs.YtojhdljbpmjigaaDoor.Pb (Alr alrC alrsC len_alrsC alrsC_app alrsC_one alrsC_get alrsC_cell alrInfo step_append_alr reads_blk two_blk)

theorem outAdd_no {w w' : World} {num : Int} {l : List Int} {s : List Alr} {a : Alr} {k : Nat} {e : Ending} (hk : addE K num l s a = k) (h0 : k ≠ 0) (he : e = .returned (.tuple #[.slice none 0 0, .bool false, .int .i64 (k : Int)])) (hb : Below w.heap.size w w') :
    OutAdd w (addS K num l s a) (addB K num l s a) (addE K num l s a) e w' := by
  unfold addS addB
  rw [hk, if_neg h0, if_neg h0]
  exact ⟨none, 0, he, AS.nil, hb⟩
theorem outAdd_yes {w w' : World} {num : Int} {l : List Int} {s : List Alr} {a : Alr} {e : Ending} {v : Value} (hk : addE K num l s a = 0) (he : e = .returned (.tuple #[v, .bool (!(hasA s a.subj a.ring)), .int .i64 0])) (B : Nat) (ho : w'.ownsRow B 27 4 v (putA s a).length (alrsC (putA s a))) (hl : (putA s a).length ≤ 1099511627776) (hel : ∀ x ∈ putA s a, El x) (hb : Below w.heap.size w w') :
    OutAdd w (addS K num l s a) (addB K num l s a) (addE K num l s a) e w' := by
  unfold addS addB
  rw [hk, if_pos rfl, if_pos rfl]
  obtain ⟨A, c, rfl, h⟩ := AS.of_own ho hl hel
  exact ⟨A, c, he, h, hb⟩
theorem addE_1 {num : Int} {l : List Int} {s : List Alr} {a : Alr} (h : (okS K num l s && inA a) = false) : addE K num l s a = 1 := by unfold addE; rw [h]; rfl
theorem addE_8 {num : Int} {l : List Int} {s : List Alr} {a : Alr} (h : (okS K num l s && inA a) = true) (hv : a.view ≠ num) : addE K num l s a = 8 := by unfold addE; rw [h]; simp [hv]
theorem addE_6 {num : Int} {l : List Int} {s : List Alr} {a : Alr} (h : (okS K num l s && inA a) = true) (hv : a.view = num) (ho : okA K num l a = false) : addE K num l s a = 6 := by unfold addE; rw [h, ho]; simp [hv]
theorem addE_0 {num : Int} {l : List Int} {s : List Alr} {a : Alr} (h : (okS K num l s && inA a) = true) (hv : a.view = num) (ho : okA K num l a = true) : addE K num l s a = 0 := by unfold addE; rw [h, ho]; simp [hv]
theorem bdrew {w w' : World} (b : Below w.drew.heap.size w.drew w') : Below w.heap.size w w' := (Below.refl _ _).drew.trans b
set_option maxRecDepth 1000000 in
set_option maxHeartbeats 4000000 in
theorem refAdd_any (num : Int) (l : List Int) (A E : Option Addr) (c cE B : Nat) (s : List Alr) (a : Alr) (w : World) (h : VW w B num l A c) (hs : AS w B s E cE) (hB : B ≤ w.heap.size) (ha : El a) (hm : s.length ≤ 1000000) :
    Calls Tryd.prog 12 #[.agg #[.int .i64 num, .slice A l.length c], .slice E s.length cE, alrV a] w (OutAdd w (addS K num l s a) (addB K num l s a) (addE K num l s a)) := by
  have hb0 := boxes2 w #[.int .i64 num, .slice A l.length c] #[.int .i64 a.view, .int .i64 a.ring, .int .i64 a.obs, .int .i64 a.subj] 24 27
  have hz := two_blk w 24 27 #[.int .i64 num, .slice A l.length c] #[.int .i64 a.view, .int .i64 a.ring, .int .i64 a.obs, .int .i64 a.subj]
  have KV := Lib.hid (fun W (hW : Below w.heap.size w W) => refValidS_any num l A E c cE w.heap.size s W ((h.more hB).below hW) ((hs.more hB).below hW) hW.size)
  have KA := Lib.hid (fun W (hW : Below w.heap.size w W) => refValidAlert_any num l A c w.heap.size a W ((h.more hB).below hW) hW.size ha)
  have KP := Lib.hid (fun W (hW : Below w.heap.size w W) => refPut_any E cE w.heap.size s a W ((hs.more hB).below hW) hW.size hm)
  have KH := Lib.hid (fun W (hW : Below w.heap.size w W) => refHas_any E cE w.heap.size s a.subj a.ring W ((hs.more hB).below hW))
  have KO := Lib.hid (fun W => refIsID_any a.obs W ha.2.2.1)
  have KJ := Lib.hid (fun W => refIsID_any a.subj W ha.2.2.2)
  have LP := Lib.hid (show (putA s a).length ≤ 1099511627776 from by have := (putA_len (s := s) (a := a)).2; omega)
  have EP := Lib.hid (El.putA ha hs.el)
  have A1 := Lib.hid (fun h w' e he hb => outAdd_no (w := w) (w' := w') (e := e) (num := num) (l := l) (s := s) (a := a) (addE_1 h) (by decide) he hb)
  have A8 := Lib.hid (fun h hv w' e he hb => outAdd_no (w := w) (w' := w') (e := e) (num := num) (l := l) (s := s) (a := a) (addE_8 h hv) (by decide) he hb)
  have A6 := Lib.hid (fun h hv ho w' e he hb => outAdd_no (w := w) (w' := w') (e := e) (num := num) (l := l) (s := s) (a := a) (addE_6 h hv ho) (by decide) he hb)
  have A0 := Lib.hid (fun h hv ho v w' e B he hw hb => outAdd_yes (w := w) (w' := w') (e := e) (v := v) (num := num) (l := l) (s := s) (a := a) (addE_0 h hv ho) he B hw LP.out EP.out hb)
  clear LP EP
  obtain ⟨Q, hQ⟩ : ∃ Q, Q = OutAdd w (addS K num l s a) (addB K num l s a) (addE K num l s a) := ⟨_, rfl⟩
  rw [← hQ] at A1 A8 A6 A0 ⊢
  clear hQ
  obtain ⟨av, ar, ao, as'⟩ := a
  obtain ⟨v64, r64, o64, s64⟩ := ha
  obtain ⟨n, hn⟩ : ∃ n, n = l.length := ⟨_, rfl⟩
  obtain ⟨m, hm'⟩ : ∃ m, m = s.length := ⟨_, rfl⟩
  rw [← hn] at hb0 hz KV KA ⊢
  rw [← hm'] at KV KP KH ⊢
  dsimp only [alrV] at *
  have B0 := Lib.hid hb0
  have Z1 := Lib.hid hz.1
  have Z2 := Lib.hid hz.2
  clear hb0 hz hn hm' h hs hm
  go_enter Tryd.func12, Tryd.ntmps12
  go_upto_region 1 with fail
  generalize (w.alloc (.cells #[.int .i64 num, .slice A n c] 24)).alloc (.cells #[.int .i64 av, .int .i64 ar, .int .i64 ao, .int .i64 as'] 27) = w0 at *
  have FB := Lib.hid (fun W (hW : Below w0.heap.size w0 W) => And.intro (blk2 (Z1.out.below hW Z1.out.lt)) (blk4 (Z2.out.below hW Z2.out.lt)))
  have p0 := FB.out _ (Below.refl _ _)
  cases hv : okS K num l s
  · have HN := Lib.hid (A1.out (by rw [hv]; rfl))
    rw [hv] at KV
    clear A1 A8 A6 A0 hv
    go_wp2_with (go_at_call 19; (with_reducible refine (KV.out _ B0.out).mono ?_); rintro e w1 ⟨rfl, b1⟩)
    go_ret3
    exact HN.out _ _ rfl (B0.out.trans (b1.mono B0.out.size))
  rw [hv] at KV A1 A8 A6 A0
  simp only [Bool.true_and] at A1 A8 A6 A0
  clear hv
  by_cases h2 : 0 ≤ ar
  case neg =>
    have f2 : decide (ar < 0) = true := by simp; omega
    have HN := Lib.hid (A1.out (by unfold inA; simp [h2]))
    clear A1 A8 A6 A0
    go_wp2_with (go_at_call 19; (with_reducible refine (KV.out _ B0.out).mono ?_); rintro e w1 ⟨rfl, b1⟩; (have p1 := FB.out _ b1))
    go_ret3
    exact HN.out _ _ rfl (B0.out.trans (b1.mono B0.out.size))
  have f2 : decide (ar < 0) = false := by simp; omega
  by_cases h3 : ar < 5
  case neg =>
    have f3 : decide (5 ≤ ar) = true := by simp; omega
    have HN := Lib.hid (A1.out (by unfold inA; simp [h3]))
    clear A1 A8 A6 A0
    go_wp2_with (go_at_call 19; (with_reducible refine (KV.out _ B0.out).mono ?_); rintro e w1 ⟨rfl, b1⟩; (have p1 := FB.out _ b1))
    go_ret3
    exact HN.out _ _ rfl (B0.out.trans (b1.mono B0.out.size))
  have f3 : decide (5 ≤ ar) = false := by simp; omega
  cases ho : isID ao
  · have HN := Lib.hid (A1.out (by unfold inA; simp [ho]))
    rw [ho] at KO
    clear A1 A8 A6 A0 ho
    go_wp2_with (first
      | (go_at_call 19; (with_reducible refine (KV.out _ B0.out).mono ?_); rintro e w1 ⟨rfl, b1⟩; (have p1 := FB.out _ b1))
      | (go_at_call 33; (with_reducible refine (KO.out _).mono ?_); rintro e w2 ⟨rfl, rfl⟩)
      | fail)
    go_ret3
    exact HN.out _ _ rfl (B0.out.trans (b1.mono B0.out.size))
  cases hj : isID as'
  · have HN := Lib.hid (A1.out (by unfold inA; simp [hj]))
    rw [ho] at KO
    rw [hj] at KJ
    clear A1 A8 A6 A0 ho hj
    go_wp2_with (first
      | (go_at_call 19; (with_reducible refine (KV.out _ B0.out).mono ?_); rintro e w1 ⟨rfl, b1⟩; (have p1 := FB.out _ b1))
      | (go_at_call 33; (with_reducible refine (KO.out _).mono ?_); rintro e w2 ⟨rfl, rfl⟩)
      | (go_at_call 33; (with_reducible refine (KJ.out _).mono ?_); rintro e w2 ⟨rfl, rfl⟩)
      | fail)
    go_ret3
    exact HN.out _ _ rfl (B0.out.trans (b1.mono B0.out.size))
  have hin : inA ⟨av, ar, ao, as'⟩ = true := by unfold inA; simp [h2, h3, ho, hj]
  rw [ho] at KO
  rw [hj] at KJ
  have hstep := fun hv => A8.out hin hv
  have A8 := Lib.hid hstep
  have A6 := Lib.hid (A6.out hin)
  have A0 := Lib.hid (A0.out hin)
  clear A1 ho hj hin hstep
  by_cases hvn : av = num
  case neg =>
    have HN := Lib.hid (A8.out hvn)
    have f4 : (av != num) = true := bneT hvn
    clear A8 A6 A0 hvn
    go_wp2_with (first
      | (go_at_call 19; (with_reducible refine (KV.out _ B0.out).mono ?_); rintro e w1 ⟨rfl, b1⟩; (have p1 := FB.out _ b1))
      | (go_at_call 33; (with_reducible refine (KO.out _).mono ?_); rintro e w2 ⟨rfl, rfl⟩)
      | (go_at_call 33; (with_reducible refine (KJ.out _).mono ?_); rintro e w2 ⟨rfl, rfl⟩)
      | fail)
    go_ret3
    exact HN.out _ _ rfl (B0.out.trans (b1.mono B0.out.size))
  have f4 : (av != num) = false := bneF hvn
  cases hoa : okA K num l ⟨av, ar, ao, as'⟩
  · have HN := Lib.hid (A6.out hvn hoa)
    rw [hoa] at KA
    clear A8 A6 A0 hoa
    clear hvn
    go_wp2_with (first
      | (go_at_call 19; (with_reducible refine (KV.out _ B0.out).mono ?_); rintro e w1 ⟨rfl, b1⟩; (have p1 := FB.out _ b1))
      | (go_at_call 33; (with_reducible refine (KO.out _).mono ?_); rintro e w2 ⟨rfl, rfl⟩)
      | (go_at_call 33; (with_reducible refine (KJ.out _).mono ?_); rintro e w2 ⟨rfl, rfl⟩)
      | (go_at_call 15; (with_reducible refine (KA.out _ (B0.out.trans (b1.mono B0.out.size))).mono ?_); rintro e w3 ⟨rfl, b3⟩)
      | fail)
    go_ret3
    exact HN.out _ _ rfl (B0.out.trans ((W.bstep b1 b3).mono B0.out.size))
  have HN := Lib.hid (A0.out hvn hoa)
  rw [hoa] at KA
  clear A8 A6 A0 hoa hvn
  go_upto_region 7 with (first
      | (go_at_call 19; (with_reducible refine (KV.out _ B0.out).mono ?_); rintro e w1 ⟨rfl, b1⟩; (have p1 := FB.out _ b1))
      | (go_at_call 33; (with_reducible refine (KO.out _).mono ?_); rintro e w2 ⟨rfl, rfl⟩)
      | (go_at_call 33; (with_reducible refine (KJ.out _).mono ?_); rintro e w2 ⟨rfl, rfl⟩)
      | (go_at_call 15; (with_reducible refine (KA.out _ (B0.out.trans (b1.mono B0.out.size))).mono ?_); rintro e w3 ⟨rfl, b3⟩)
      | fail)
  have B3 := Lib.hid (W.bstep b1 b3)
  have W3 := Lib.hid (B0.out.trans (B3.out.mono B0.out.size))
  clear p0 p1 b1 b3 KA KV KO KJ
  have p3 := FB.out _ B3.out
  go_region_law (first
    | ((try go_simp); go_at_call 34; (with_reducible refine (KP.out _ (by first | exact W3.out | exact W3.out.drew)).mono ?_); rintro e w4 ⟨v4, rfl, ho4, b4⟩; (have q4 : Below w3.heap.size w3 w4 := by first | exact b4 | exact bdrew b4); (have W4 := W.bstep B3.out q4); (have p4 := FB.out _ W4); have X4 := W.bstep W3.out q4)
    | ((try go_simp); go_at_call 35; (with_reducible refine (KH.out _ (by first | exact W3.out | exact W3.out.drew | exact X4 | exact X4.drew)).mono ?_); rintro e w5 ⟨rfl, rfl⟩)
    | fail)
  all_goals
    have x4 : Below w.heap.size w w4 := by assumption
    go_wp2_with fail
    go_ret3
    exact HN.out _ _ _ _ rfl (by first | exact ho4 | exact (show w4.drew.ownsRow _ _ _ _ _ _ from ho4)) (by first | exact x4 | exact x4.drew)
end Go.Proofs.YtojhdljbpmjigaaDoor.Al
