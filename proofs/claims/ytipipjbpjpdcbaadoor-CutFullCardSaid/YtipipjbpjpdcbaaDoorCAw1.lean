/- Layer 7: awake. -/
import Derived.Test.YtipipjbpjpdcbaaDoorCAw0
namespace Go.Proofs.YtipipjbpjpdcbaaDoor.Ct
set_option linter.unusedVariables false
set_option linter.unusedSimpArgs false
open Go.RowKit
open Go.Proofs.YtipipjbpjpdcbaaDoor.W
open Go.Proofs.YtipipjbpjpdcbaaDoor.V
open Go.Proofs.YtipipjbpjpdcbaaDoor.O
open Go.Proofs.YtipipjbpjpdcbaaDoor.Pb (Alr alrC alrsC len_alrsC step_append_alr reads_blk)
open Go.Proofs.YtipipjbpjpdcbaaDoor.Al

theorem AS.onC {W W' : World} {s : List Alr} {X : Option Addr} {c : Nat} (h : AS W W.heap.size s X c) (q : Below W.heap.size W W') : AS W' W'.heap.size s X c := (h.below q).more q.size
theorem bdrewC {w w' : World} (b : Below w.drew.heap.size w.drew w') : Below w.heap.size w w' := (Below.refl _ _).drew.trans b
set_option maxRecDepth 1000000 in
set_option maxHeartbeats 8000000 in
theorem awake_of (C : CutC) (w : World) (ht : H.Tab w) : Calls Tryd.prog 9 #[] w (PB w true) := by
  have HT := Lib.hid (fun W (hW : Below w.heap.size w W) => ht.on hW)
  have b0 := (Below.refl w.heap.size w).alloc (Nat.le_refl _) (.cells #[.int .i64 1, .int .i64 2, .int .i64 3] 3)
  have hL : LS (w.alloc (.cells #[.int .i64 1, .int .i64 2, .int .i64 3] 3)) _ [1, 2, 3] (some ⟨w.heap.size, 0, none⟩) 3 := ls_lit w #[.int .i64 1, .int .i64 2, .int .i64 3] [1, 2, 3] 3 rfl rfl (by decide) (in_lit (by decide))
  obtain ⟨w0, hw0⟩ : ∃ W, W = w.alloc (.cells #[.int .i64 1, .int .i64 2, .int .i64 3] 3) := ⟨_, rfl⟩
  rw [← hw0] at b0 hL
  have hs0 : w0.heap.size = w.heap.size + 1 := by rw [hw0]; simp
  have VV := Lib.hid (fun W (hW : Below w0.heap.size w0 W) => show VW W w0.heap.size 0 [1, 2, 3] (some ⟨w.heap.size, 0, none⟩) 3 from VW.below ⟨⟨by decide, by decide⟩, hL.rd, hL.l40, hL.el, hL.cap⟩ hW)
  have BW := Lib.hid (fun W (hW : Below w0.heap.size w0 W) => below2 b0 hW)
  have KO := Lib.hid (fun W (hW : Below w0.heap.size w0 W) => (refObservers_any 3 (some ⟨w.heap.size, 0, none⟩) 3 w0.heap.size [1, 2, 3] W ⟨(VV.out W hW).rd, (VV.out W hW).l40, (VV.out W hW).el, (VV.out W hW).cap⟩ hW.size ⟨by decide, by decide⟩).mono fun _ _ h => h.to [1, 2, 1, 1, 1] 5 obsB rfl)
  have K5 := Lib.hid (fun E cE W (hW : Below w0.heap.size w0 W) (hE : AS W W.heap.size s5B E cE) => C.prop 0 [1, 2, 3] (some ⟨w.heap.size, 0, none⟩) E 3 cE W.heap.size s5B W ((VV.out W hW).more hW.size) hE (Nat.le_refl _) (by decide) (HT.out W (BW.out W hW)))
  have K3 := Lib.hid (fun E cE W (hW : Below w0.heap.size w0 W) (hE : AS W W.heap.size s3B E cE) => C.prop 0 [1, 2, 3] (some ⟨w.heap.size, 0, none⟩) E 3 cE W.heap.size s3B W ((VV.out W hW).more hW.size) hE (Nat.le_refl _) (by decide) (HT.out W (BW.out W hW)))
  have KT := Lib.hid (fun E cE W (hW : Below w0.heap.size w0 W) (hE : AS W W.heap.size s3B E cE) => C.counts 0 [1, 2, 3] (some ⟨w.heap.size, 0, none⟩) E 3 cE W.heap.size s3B W ((VV.out W hW).more hW.size) hE (Nat.le_refl _) (by decide) (HT.out W (BW.out W hW)))
  have KU := Lib.hid (fun E cE W (hW : Below w0.heap.size w0 W) (hE : AS W W.heap.size s3B E cE) => C.unst 0 [1, 2, 3] (some ⟨w.heap.size, 0, none⟩) E 3 cE W.heap.size s3B W ((VV.out W hW).more hW.size) hE (Nat.le_refl _) (by decide) (HT.out W (BW.out W hW)))
  simp only [proB5, proB3, susB3, talB3, Option.getD_some, Option.getD_none, Option.isSome_some, Option.isSome_none, List.length_cons, List.length_nil, Nat.zero_add, Nat.reduceAdd, show s5B.length = 5 from rfl, show s3B.length = 3 from rfl] at K5 K3 KT KU KO
  have EL := Lib.hid (show ∀ x ∈ s5B, El x from by
    intro x hx
    simp [s5B] at hx
    rcases hx with rfl | rfl | rfl | rfl | rfl <;> exact ⟨⟨by decide, by decide⟩, ⟨by decide, by decide⟩, ⟨by decide, by decide⟩, ⟨by decide, by decide⟩⟩)
  clear hL ht
  go_enter Tryd.func9, Tryd.ntmps9
  go_upto_region 2 with fail
  rw [← hw0]
  have B1 := Lib.hid (show Below w0.heap.size w0 (w0.alloc (.cells #[.int .i64 0, .slice (some ⟨w.heap.size, 0, none⟩) 3 3] 24)) from (Below.refl _ _).alloc (Nat.le_refl _) _)
  have Z1 := Lib.hid (show Blk (w0.alloc (.cells #[.int .i64 0, .slice (some ⟨w.heap.size, 0, none⟩) 3 3] 24)) (w.heap.size + 1) 24 #[.int .i64 0, .slice (some ⟨w.heap.size, 0, none⟩) 3 3] from by rw [← hs0]; exact Blk.new _ _ _)
  clear hw0 hs0 b0
  generalize w0.alloc (.cells #[.int .i64 0, .slice (some ⟨w.heap.size, 0, none⟩) 3 3] 24) = w1 at *
  have FB := Lib.hid (fun W (hW : Below w1.heap.size w1 W) => (blk2 (Z1.out.below hW Z1.out.lt)))
  have p1 := FB.out _ (Below.refl _ _)
  go_wp2_with (first
    | (go_at_call 22; (with_reducible refine (KO.out _ B1.out).mono ?_); rintro e w2 ⟨X2, c2, rfl, hc2, -, hr2, q2⟩)
    | fail)
  have V2 := Lib.hid q2
  have RO := Lib.hid (fun W (hW : Below w2.heap.size w2 W) => hr2.below hW)
  clear p1 q2 hr2 hc2
  go_loopg [3, 4] 5 (fun gk s3 s4 wr => ∃ k : Nat, k + gk = 5 ∧ s4 = .int .i64 k ∧ Hid (wr.ownsRow w2.heap.size 48 4 s3 (s5B.take k).length (alrsC (s5B.take k))) ∧ Hid (Below w2.heap.size w2 wr))
  case atStart => exact ⟨0, by omega, rfl, World.ownsRow_nil _ _ _ _, Below.refl _ _⟩
  case round =>
    obtain ⟨k, hkg, rfl, HO, HW⟩ := hrel
    have hws := HW.out.size
    have VR := Lib.hid (below2 V2.out HW.out)
    cases gk with
    | zero =>
      have hk5 : k = 5 := by omega
      subst hk5
      obtain ⟨X5, c5, rfl, as5⟩ := AS.of_own (show wr.ownsRow w2.heap.size 48 4 u3 s5B.length (alrsC s5B) from HO.out) (by decide) EL.out
      rw [show s5B.length = 5 from rfl]
      have A5 := Lib.hid as5
      have hc5 : 5 ≤ c5 := as5.cap
      have c3c : 3 ≤ c5 := by omega
      have hs := slice_toA (k := 3) (ki := 3) (n := 5) as5.rd as5.cap (by decide) rfl
      have A3 := Lib.hid (fun W (hW : Below wr.heap.size wr W) => show AS W W.heap.size s3B X5 c5 from ⟨readsA_take (k := 3) (AS.onC A5.out hW).rd (by decide) rfl, by decide, fun x hx => EL.out x (List.mem_of_mem_take (i := 3) (show x ∈ s5B.take 3 from hx)), by show 3 ≤ c5; omega⟩)
      have BR := Lib.hid (below2 B1.out VR.out)
      have fr := FB.out _ VR.out
      clear as5 HO
      go_upto_region 9 with (first
        | (go_at_call 13; (with_reducible refine (K5.out X5 c5 _ BR.out A5.out).mono ?_); rintro e w4 ⟨A4, c4, rfl, hc4, hr4, q4⟩)
        | fail)
      have V4 := Lib.hid q4
      have R4 := Lib.hid (fun W (hW : Below w4.heap.size w4 W) => hr4.below hW)
      have f4 := FB.out _ (below2 VR.out q4)
      clear fr q4 hr4
      go_cut [7, 8] from 37 to 43 (fun s7 s8 wx => s8 = .bool false ∧ Hid (Below w4.heap.size w4 wx))
      case first =>
        go_region_law (first
          | ((try go_simp); go_at_call 13; (with_reducible refine (K3.out X5 c5 _ (by first | exact below2 BR.out V4.out | exact below2 BR.out V4.out.drew) (A3.out _ (by first | exact V4.out | exact V4.out.drew))).mono ?_); rintro e w6 ⟨A6, c6, rfl, hc6, hr6, q6⟩)
          | fail)
        all_goals
          have k7 : Below w4.heap.size w4 w6 := by first | exact q6 | exact bdrewC q6
          go_wp2_with fail
          go_meet
          first
            | exact ⟨rfl, k7⟩
            | exact ⟨rfl, k7.drew⟩
      case rest =>
        obtain ⟨rfl, H6⟩ := hcut
        obtain ⟨w6, rfl⟩ : ∃ x, x = wc := ⟨_, rfl⟩
        have V6 := Lib.hid (show Below w4.heap.size w4 w6 from H6.out)
        have V6r := Lib.hid (below2 V4.out V6.out)
        have f6 := FB.out _ (below2 VR.out V6r.out)
        clear f4 H6
        go_upto_region 10 with fail
        go_cut [9] from 44 to 47 (fun s9 wx => ∃ X c, s9 = .slice X 1 c ∧ Hid (TS wx wx.heap.size [⟨3, 3, 0⟩] X c) ∧ Hid (Below w6.heap.size w6 wx))
        case first =>
          go_region_law (first
            | ((try go_simp); go_at_call 11; (with_reducible refine (KT.out X5 c5 _ (by first | exact below2 BR.out V6r.out | exact below2 BR.out V6r.out.drew) (A3.out _ (by first | exact V6r.out | exact V6r.out.drew))).mono ?_); rintro e w7 ⟨A7, c7, rfl, ts7, q7⟩)
            | fail)
          all_goals
            have k7 : Below w6.heap.size w6 w7 := by first | exact q7 | exact bdrewC q7
            go_wp2_with fail
            go_meet
            first
              | exact ⟨A7, c7, rfl, ts7, k7⟩
              | exact ⟨A7, c7, rfl, ts7.step (Below.refl _ _).drew, k7.drew⟩
        case rest =>
          obtain ⟨X7, c7, rfl, T7, H7⟩ := hcut
          obtain ⟨w7, rfl⟩ : ∃ x, x = wc := ⟨_, rfl⟩
          have V7 := Lib.hid (show Below w6.heap.size w6 w7 from H7.out)
          have V7r := Lib.hid (below2 V6r.out V7.out)
          have f7 := FB.out _ (below2 VR.out V7r.out)
          clear f6 H7
          go_upto_region 11 with fail
          go_cut [10] from 48 to 51 (fun s10 wx => ∃ X c, s10 = .slice X 1 c ∧ Hid (Below w7.heap.size w7 wx))
          case first =>
            go_region_law (first
              | ((try go_simp); go_at_call 16; (with_reducible refine (KU.out X5 c5 _ (by first | exact below2 BR.out V7r.out | exact below2 BR.out V7r.out.drew) (A3.out _ (by first | exact V7r.out | exact V7r.out.drew))).mono ?_); rintro e w8 ⟨A8, c8, rfl, hc8, hr8, q8⟩)
              | fail)
            all_goals
              have k8 : Below w7.heap.size w7 w8 := by first | exact q8 | exact bdrewC q8
              go_wp2_with fail
              go_meet
              first
                | exact ⟨A8, c8, rfl, k8⟩
                | exact ⟨A8, c8, rfl, k8.drew⟩
          case rest =>
            obtain ⟨X8, c8, rfl, H8⟩ := hcut
            obtain ⟨w8, rfl⟩ : ∃ x, x = wc := ⟨_, rfl⟩
            have V8 := Lib.hid (show Below w7.heap.size w7 w8 from H8.out)
            obtain ⟨td, rfl, htb, hta, t0, t1, t2⟩ := tly_at (k := 0) (T7.out.step V8.out).rd (x := ⟨3, 3, 0⟩) rfl
            obtain ⟨cd, uc, rfl, hcb, hcu, hcc⟩ := (R4.out w8 (below2 (below2 V6.out V7.out) V8.out)).at_ (k := 0) (by decide)
            have e1 : td.add (0 * 3) = td := by unfold Addr.add; rfl
            have e2 : cd.add 0 = cd := by unfold Addr.add; rfl
            rw [e1] at t0 t1 t2
            have hcu3 : uc = .int .i64 3 := by simpa [intV] using hcu.symm
            rw [e2, hcu3] at hcc
            have BF := Lib.hid (below2 (BW.out _ (below2 BR.out V7r.out)) V8.out)
            clear f7 e1 e2 hcu hcu3 hta
            dsimp only at t0 t1 t2
            go_wp2_with fail
            go_ret
            exact ⟨rfl, BF.out⟩
    | succ gi =>
      have hk5 : k < 5 := by omega
      have hkz : (k : Int) < 5 := by omega
      obtain ⟨ad, u, rfl, hadb, hxu, hcell⟩ := (RO.out wr HW.out).at_ (k := k) hk5
      obtain ⟨o, ho⟩ : ∃ o, ([1, 2, 1, 1, 1] : List Int)[k]? = some o := ⟨_, List.getElem?_eq_getElem hk5⟩
      have huo : u = .int .i64 o := by rw [List.getElem?_map, ho] at hxu; exact (Option.some.inj hxu).symm
      rw [huo] at hcell
      have HSN := Lib.hid (show s5B.take (k + 1) = s5B.take k ++ [(⟨0, (k : Int), o, 3⟩ : Alr)] from by
        have : k = 0 ∨ k = 1 ∨ k = 2 ∨ k = 3 ∨ k = 4 := by omega
        rcases this with rfl | rfl | rfl | rfl | rfl <;> (simp at ho; subst ho; rfl))
      have LK := Lib.hid (show (s5B.take k).length ≤ 5 by rw [List.length_take]; omega)
      clear huo hxu ho
      go_wp2_with (first
        | (at_builtin; refine wp_append_alr _ rfl (.tmp 22) (.tmp 29) rfl w2.heap.size _ (s5B.take k) ⟨0, (k : Int), o, 3⟩ _ _ _ rfl (World.ownsRow.alloc HO.out _) rfl (reads_blk _ _ _) (by have := LK.out; omega) (by simp; omega) ?_; intro v7 w7 ho7 hb7)
        | fail)
      have HO7 := Lib.hid ho7
      have V7 := Lib.hid (show Below w2.heap.size w2 w7 from (HW.out.alloc hws _).trans hb7)
      clear ho7 hb7
      go_roundg gi
      case measure => omega
      case rel =>
        refine ⟨k + 1, by omega, by go_num, ?_, V7.out⟩
        rw [HSN.out]; exact HO7.out
end Go.Proofs.YtipipjbpjpdcbaaDoor.Ct
