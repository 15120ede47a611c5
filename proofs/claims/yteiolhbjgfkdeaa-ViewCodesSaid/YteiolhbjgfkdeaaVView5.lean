/- Package view: effect, Leavers, Joiners, Survivors, Diff. -/
import Derived.Test.YteiolhbjgfkdeaaVView4
namespace Go.Proofs.Yteiolhbjgfkdeaa.V
set_option linter.unusedVariables false
open Go.RowKit
open Go.Proofs.Yteiolhbjgfkdeaa.W

theorem tri_base {w : World} {base base' : Nat} {v1 v2 v3 : Value} {l1 l2 l3 : List Int} (h : Row3 w base' v1 v2 v3 l1 l2 l3) (hb : base ≤ base') : Row3 w base v1 v2 v3 l1 l2 l3 :=
  { h with o1 := own_base h.o1 hb, o2 := own_base h.o2 hb, o3 := own_base h.o3 hb }

set_option maxRecDepth 100000 in
set_option maxHeartbeats 1000000 in
theorem effect_any (num : Int) (l q : List Int) (A C : Option Addr) (c d B : Nat) (w : World) (h : VW w B num l A c) (h' : LS w B q C d) (hB : B ≤ w.heap.size) :
    Calls Try.prog 51 #[vwV num A l.length c, .slice C q.length d] w (SplitPost w (svs num l q) (lvs num l q) (jns num l q)) := by
  have hb0 := (Below.refl w.heap.size w).alloc (Nat.le_refl _) (.cells #[.int .i64 num, .slice A l.length c] 31)
  have hk0 := Lib.hid (Blk.new w 31 #[.int .i64 num, .slice A l.length c])
  have hs0 := Lib.hid (show (w.alloc (.cells #[.int .i64 num, .slice A l.length c] 31)).heap.size = w.heap.size + 1 by simp)
  have CV := Lib.hid (fun W (hW : Below w.heap.size w W) => viewValid_any num l A c w.heap.size W ((h.more hB).below hW) hW.size)
  have CT := Lib.hid (fun W (hW : Below w.heap.size w W) => viewValidC_any C d w.heap.size q W ((h'.more hB).below hW) hW.size)
  have CS := Lib.hid (fun W (hW : Below w.heap.size w W) (hv : (validV num l && validC q) = true) => by
    obtain ⟨_, _, _, h4, h5, _, _, h8, h9, _⟩ := valid_parts hv
    exact split_any A C c d w.heap.size l q W ((h.ls.more hB).below hW) ((h'.more hB).below hW) hW.size h5 h9 (by omega) h8)
  dsimp only [vwV] at *
  clear h h'
  cases h1 : validV num l
  · have ht := Lib.hid (show svs num l q = [] ∧ lvs num l q = [] ∧ jns num l q = [] by unfold svs lvs jns; rw [h1]; simp)
    rw [h1] at CV
    clear CT CS
    go_enter Try.func51, Try.ntmps51
    go_wp2_with (go_at_call 27; (with_reducible refine (CV.out _ hb0).mono ?_); rintro e w1 ⟨rfl, hq1⟩; (have hb1 : Below w.heap.size w w1 := hb0.trans (hq1.mono (by rw [hs0.out]; omega))))
    go_ret3
    obtain ⟨e1, e2, e3⟩ := ht.out
    rw [e1, e2, e3]
    exact ⟨_, _, _, rfl, Row3.nil_ _ _, hb1⟩
  · cases h2 : validC q
    · have ht := Lib.hid (show svs num l q = [] ∧ lvs num l q = [] ∧ jns num l q = [] by unfold svs lvs jns; rw [h1, h2]; simp)
      rw [h1] at CV
      rw [h2] at CT
      clear CS
      go_enter Try.func51, Try.ntmps51
      go_wp2_with (first
        | (go_at_call 27; (with_reducible refine (CV.out _ hb0).mono ?_); rintro e w1 ⟨rfl, hq1⟩; (have hb1 : Below w.heap.size w w1 := hb0.trans (hq1.mono (by rw [hs0.out]; omega))))
        | (go_at_call 14; (with_reducible refine (CT.out _ hb1).mono ?_); rintro e w2 ⟨rfl, hq2⟩; (have hb2 := bstep hb1 hq2)))
      go_ret3
      obtain ⟨e1, e2, e3⟩ := ht.out
      rw [e1, e2, e3]
      exact ⟨_, _, _, rfl, Row3.nil_ _ _, hb2⟩
    · have hv : (validV num l && validC q) = true := by rw [h1, h2]; rfl
      have ht := Lib.hid (show svs num l q = among l q false ∧ lvs num l q = among l q true ∧ jns num l q = among q l false by
        obtain ⟨_, _, _, _, h5, _, _, _, h9, _⟩ := valid_parts hv
        rw [svs_eq hv, lvs_eq hv, jns_eq hv, among_comm h9 h5]
        exact ⟨rfl, rfl, rfl⟩)
      have HV := Lib.hid hv
      rw [h1] at CV
      rw [h2] at CT
      clear hv
      go_enter Try.func51, Try.ntmps51
      go_wp2_with (first
        | (go_at_call 27; (with_reducible refine (CV.out _ hb0).mono ?_); rintro e w1 ⟨rfl, hq1⟩; (have hb1 : Below w.heap.size w w1 := hb0.trans (hq1.mono (by rw [hs0.out]; omega))); (have hk1 := hk0.out.below hq1 (by rw [hs0.out]; omega)))
        | (go_at_call 14; (with_reducible refine (CT.out _ hb1).mono ?_); rintro e w2 ⟨rfl, hq2⟩; (have hb2 := bstep hb1 hq2); (have hk2 := hk1.below hq2 hk1.lt); obtain ⟨q0, q1⟩ := blk2 hk2)
        | (go_at_call 47; (with_reducible refine (CS.out _ hb2 HV.out).mono ?_); rintro e w3 ⟨v1, v2, v3, rfl, ho3, hq3⟩))
      go_ret3
      obtain ⟨e1, e2, e3⟩ := ht.out
      rw [e1, e2, e3]
      exact ⟨_, _, _, rfl, tri_base ho3 hb2.size, bstep hb2 hq3⟩

set_option maxRecDepth 100000 in
theorem viewLeavers_any (num : Int) (l q : List Int) (A C : Option Addr) (c d B : Nat) (w : World) (h : VW w B num l A c) (h' : LS w B q C d) (hB : B ≤ w.heap.size) :
    Calls Try.prog 30 #[vwV num A l.length c, .slice C q.length d] w (OwnI w (lvs num l q)) := by
  have hb0 := (Below.refl w.heap.size w).alloc (Nat.le_refl _) (.cells #[.int .i64 num, .slice A l.length c] 31)
  have CE := Lib.hid (fun W (hW : Below w.heap.size w W) => effect_any num l q A C c d w.heap.size W ((h.more hB).below hW) ((h'.more hB).below hW) hW.size)
  dsimp only [vwV] at *
  clear h h'
  go_enter Try.func30, Try.ntmps30
  go_wp2_with (go_at_call 51; (with_reducible refine (CE.out _ hb0).mono ?_); rintro e w1 ⟨v1, v2, v3, rfl, ht1, hq1⟩)
  go_ret
  exact ⟨_, rfl, own_base ht1.o2 hb0.size, bstep hb0 hq1⟩
set_option maxRecDepth 100000 in
theorem viewJoiners_any (num : Int) (l q : List Int) (A C : Option Addr) (c d B : Nat) (w : World) (h : VW w B num l A c) (h' : LS w B q C d) (hB : B ≤ w.heap.size) :
    Calls Try.prog 32 #[vwV num A l.length c, .slice C q.length d] w (OwnI w (jns num l q)) := by
  have hb0 := (Below.refl w.heap.size w).alloc (Nat.le_refl _) (.cells #[.int .i64 num, .slice A l.length c] 31)
  have CE := Lib.hid (fun W (hW : Below w.heap.size w W) => effect_any num l q A C c d w.heap.size W ((h.more hB).below hW) ((h'.more hB).below hW) hW.size)
  dsimp only [vwV] at *
  clear h h'
  go_enter Try.func32, Try.ntmps32
  go_wp2_with (go_at_call 51; (with_reducible refine (CE.out _ hb0).mono ?_); rintro e w1 ⟨v1, v2, v3, rfl, ht1, hq1⟩)
  go_ret
  exact ⟨_, rfl, own_base ht1.o3 hb0.size, bstep hb0 hq1⟩
set_option maxRecDepth 100000 in
theorem viewSurvivors_any (num : Int) (l q : List Int) (A C : Option Addr) (c d B : Nat) (w : World) (h : VW w B num l A c) (h' : LS w B q C d) (hB : B ≤ w.heap.size) :
    Calls Try.prog 34 #[vwV num A l.length c, .slice C q.length d] w (OwnI w (svs num l q)) := by
  have hb0 := (Below.refl w.heap.size w).alloc (Nat.le_refl _) (.cells #[.int .i64 num, .slice A l.length c] 31)
  have CE := Lib.hid (fun W (hW : Below w.heap.size w W) => effect_any num l q A C c d w.heap.size W ((h.more hB).below hW) ((h'.more hB).below hW) hW.size)
  dsimp only [vwV] at *
  clear h h'
  go_enter Try.func34, Try.ntmps34
  go_wp2_with (go_at_call 51; (with_reducible refine (CE.out _ hb0).mono ?_); rintro e w1 ⟨v1, v2, v3, rfl, ht1, hq1⟩)
  go_ret
  exact ⟨_, rfl, own_base ht1.o1 hb0.size, bstep hb0 hq1⟩
end Go.Proofs.Yteiolhbjgfkdeaa.V
