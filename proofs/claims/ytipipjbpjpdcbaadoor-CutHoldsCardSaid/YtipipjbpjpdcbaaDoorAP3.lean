/- Package alerts: Less, follows; slices.Index and slices.Contains over alerts. -/
import Derived.Test.YtipipjbpjpdcbaaDoorAP2
import Derived.Test.YtipipjbpjpdcbaaDoorARef9
namespace Go.Proofs.YtipipjbpjpdcbaaDoor.Al
set_option linter.unusedVariables false
set_option linter.unusedSimpArgs false
open Go.RowKit
open Go.Proofs.YtipipjbpjpdcbaaDoor.W
open Go.Proofs.YtipipjbpjpdcbaaDoor.V
open Go.Proofs.YtipipjbpjpdcbaaDoor.O
open Go.Proofs.YtipipjbpjpdcbaaDoor.Pb (Alr alrC alrsC len_alrsC alrsC_app alrsC_one alrsC_get alrsC_cell alrInfo step_append_alr reads_blk two_blk)

set_option maxRecDepth 1000000 in
set_option maxHeartbeats 4000000 in
theorem alLess_any (a b : Alr) (w : World) : Calls Tryd.prog 65 #[alrV a, alrV b] w (PB w (lessA a b)) := by
  have KC := Lib.hid (fun W => alCompare_any a b W)
  have HT := Lib.hid (cmpA_lt (a := a) (b := b))
  generalize cmpA a b = t at *
  generalize lessA a b = r at *
  obtain ⟨av, ar, ao, as'⟩ := a
  obtain ⟨bv, br, bo, bs'⟩ := b
  dsimp only [alrV] at *
  have HB := Lib.hid (boxes2 w #[.int .i64 av, .int .i64 ar, .int .i64 ao, .int .i64 as'] #[.int .i64 bv, .int .i64 br, .int .i64 bo, .int .i64 bs'] 48 48)
  go_enter Tryd.func65, Tryd.ntmps65
  go_wp2_with (go_at_call 78; (with_reducible refine (KC.out _).mono ?_); rintro e w1 ⟨rfl, b1⟩)
  go_ret
  exact ⟨by rw [← HT.out]; rfl, HB.out.trans (b1.mono HB.out.size)⟩
/-- An alert may follow a list. -/
def folA (s : List Alr) (a : Alr) : Bool := match s.getLast? with | none => true | some x => lessA x a
theorem folA_nil {a : Alr} : folA [] a = true := rfl
theorem folA_last {s : List Alr} {p a : Alr} {n : Nat} (hn : s.length = n + 1) (hp : s[n]? = some p) : folA s a = lessA p a := by
  unfold folA
  rw [List.getLast?_eq_getElem?, show s.length - 1 = n by omega, hp]
set_option maxRecDepth 1000000 in
set_option maxHeartbeats 4000000 in
theorem alFollows_any (E : Option Addr) (cE B n : Nat) (s : List Alr) (a : Alr) (w : World) (hr : Reads w B 4 E n (alrsC s)) (hn : n = s.length) (hl : n ≤ 1099511627776) (hB : B ≤ w.heap.size) :
    Calls Tryd.prog 48 #[.slice E n cE, alrV a] w (PB w (folA s a)) := by
  have hb0 := (Below.refl w.heap.size w).alloc (Nat.le_refl _) (.cells #[.int .i64 a.view, .int .i64 a.ring, .int .i64 a.obs, .int .i64 a.subj] 48)
  have hz := Blk.new w 48 #[.int .i64 a.view, .int .i64 a.ring, .int .i64 a.obs, .int .i64 a.subj]
  cases n with
  | zero =>
    obtain rfl : s = [] := List.eq_nil_of_length_eq_zero hn.symm
    obtain ⟨av, ar, ao, as'⟩ := a
    dsimp only [alrV] at *
    have HB := Lib.hid hb0
    clear hr hn hl hB hb0 hz
    generalize hf : folA [] ⟨av, ar, ao, as'⟩ = f
    have HF := Lib.hid (show f = true by rw [← hf]; exact folA_nil)
    clear hf
    go_enter Tryd.func48, Tryd.ntmps48
    go_wp2_with fail
    go_quiet (fail)
    go_wp2_with fail
    go_ret
    exact ⟨by rw [HF.out]; rfl, below_drewN' HB.out _⟩
  | succ n =>
    obtain ⟨m, hm⟩ : ∃ m, m = n + 1 := ⟨_, rfl⟩
    have HM := Lib.hid hm
    obtain ⟨p, hp⟩ : ∃ p, s[n]? = some p := ⟨_, List.getElem?_eq_getElem (by omega)⟩
    obtain ⟨ad, rfl, hadb, hbk, y0, y1, y2, y3⟩ := alr_at hr hp
    have HF := Lib.hid (folA_last (a := a) hn.symm hp)
    have KL := Lib.hid (fun W => alLess_any p a W)
    generalize folA s a = f at *
    rw [← HF.out] at KL
    obtain ⟨av, ar, ao, as'⟩ := a
    obtain ⟨pv, pr, po, ps⟩ := p
    dsimp only [alrV] at *
    have hw : IntKind.i64.wrap ((m : Int) - 1) = (n : Int) := by rw [IntWalk.i64_in _ (by omega)]; omega
    have hj0 : ¬ (n : Int) < 0 := by omega
    have hjn : (n : Int) < (m : Int) := by omega
    have e0 : ((m : Int) == 0) = false := beqF (by omega)
    rw [← hm]
    clear hm hl
    have B0 := Lib.hid hb0
    have Z1 := Lib.hid hz
    have m0 : (w.alloc (.cells #[.int .i64 av, .int .i64 ar, .int .i64 ao, .int .i64 as'] 48)).cell? (ad.add (n * 4)) = some (.int .i64 pv) := (World.cell?_alloc_lt _ _ _ (by rw [hbk]; omega)).trans y0
    have m1 : (w.alloc (.cells #[.int .i64 av, .int .i64 ar, .int .i64 ao, .int .i64 as'] 48)).cell? ⟨(ad.add (n * 4)).block, (ad.add (n * 4)).off + 1, none⟩ = some (.int .i64 pr) := (World.cell?_alloc_lt _ _ _ (by rw [hbk]; omega)).trans y1
    have m2 : (w.alloc (.cells #[.int .i64 av, .int .i64 ar, .int .i64 ao, .int .i64 as'] 48)).cell? ⟨(ad.add (n * 4)).block, (ad.add (n * 4)).off + 2, none⟩ = some (.int .i64 po) := (World.cell?_alloc_lt _ _ _ (by rw [hbk]; omega)).trans y2
    have m3 : (w.alloc (.cells #[.int .i64 av, .int .i64 ar, .int .i64 ao, .int .i64 as'] 48)).cell? ⟨(ad.add (n * 4)).block, (ad.add (n * 4)).off + 3, none⟩ = some (.int .i64 ps) := (World.cell?_alloc_lt _ _ _ (by rw [hbk]; omega)).trans y3
    have hbk' : (ad.add (n * 4)).block < w.heap.size := by rw [hbk]; omega
    clear y0 y1 y2 y3 hr hn hp hadb hbk hb0 hz HF hB
    go_enter Tryd.func48, Tryd.ntmps48
    go_upto_region 1 with fail
    generalize hw0 : w.alloc (.cells #[.int .i64 av, .int .i64 ar, .int .i64 ao, .int .i64 as'] 48) = w0 at *
    clear hw0
    have b0 := blk4 Z1.out
    have hsz := B0.out.size
    have M := Lib.hid (fun W (hW : Below w0.heap.size w0 W) => And.intro (blk4 (Z1.out.below hW Z1.out.lt)) (And.intro ((hW.cell (p := ad.add (n * 4)) (by omega)).trans m0) (And.intro ((hW.cell (p := ⟨(ad.add (n * 4)).block, (ad.add (n * 4)).off + 1, none⟩) (by show (ad.add (n * 4)).block < _; omega)).trans m1) (And.intro ((hW.cell (p := ⟨(ad.add (n * 4)).block, (ad.add (n * 4)).off + 2, none⟩) (by show (ad.add (n * 4)).block < _; omega)).trans m2) ((hW.cell (p := ⟨(ad.add (n * 4)).block, (ad.add (n * 4)).off + 3, none⟩) (by show (ad.add (n * 4)).block < _; omega)).trans m3)))))
    clear hbk' hsz
    go_region_law (first
      | ((try go_simp); go_at_call 65; (with_reducible refine (KL.out _).mono ?_); rintro e w4 ⟨rfl, b4⟩)
      | fail)
    all_goals
      go_wp2_with fail
      go_ret
      exact ⟨rfl, B0.out.trans ((by first | exact b4 | exact b4.drew | exact bdrew b4 | exact (bdrew b4).drew : Below w0.heap.size w0 _).mono B0.out.size)⟩
end Go.Proofs.YtipipjbpjpdcbaaDoor.Al
