/- The reference of layer 3: Valid, Among, Leavers, Joiners, Survivors, Insert. -/
import Derived.Test.YteiolhbjgfkdeaaVRef1
namespace Go.Proofs.Yteiolhbjgfkdeaa.V
set_option linter.unusedVariables false
open Go.RowKit
open Go.Proofs.Yteiolhbjgfkdeaa.W

/-- A view as the program holds it. -/
def vwV (num : Int) (A : Option Addr) (n c : Nat) : Value := .agg #[.int .i64 num, .slice A n c]
structure VW (w : World) (B : Nat) (num : Int) (l : List Int) (A : Option Addr) (c : Nat) : Prop where
  num64 : In64 num
  rd : Reads w B 1 A l.length (l.map intV)
  l40 : l.length ≤ 1099511627776
  el : ∀ x ∈ l, In64 x
  cap : l.length ≤ c
theorem VW.below {w W : World} {B : Nat} {num : Int} {l : List Int} {A : Option Addr} {c : Nat} (h : VW w B num l A c) (hb : Below B w W) : VW W B num l A c := { h with rd := h.rd.below hb }
theorem VW.more {w : World} {B B' : Nat} {num : Int} {l : List Int} {A : Option Addr} {c : Nat} (h : VW w B num l A c) (hb : B ≤ B') : VW w B' num l A c := { h with rd := h.rd.more hb }
structure LS (w : World) (B : Nat) (l : List Int) (A : Option Addr) (c : Nat) : Prop where
  rd : Reads w B 1 A l.length (l.map intV)
  l40 : l.length ≤ 1099511627776
  el : ∀ x ∈ l, In64 x
  cap : l.length ≤ c
theorem LS.below {w W : World} {B : Nat} {l : List Int} {A : Option Addr} {c : Nat} (h : LS w B l A c) (hb : Below B w W) : LS W B l A c := { h with rd := h.rd.below hb }
theorem LS.more {w : World} {B B' : Nat} {l : List Int} {A : Option Addr} {c : Nat} (h : LS w B l A c) (hb : B ≤ B') : LS w B' l A c := { h with rd := h.rd.more hb }
theorem VW.ls {w : World} {B : Nat} {num : Int} {l : List Int} {A : Option Addr} {c : Nat} (h : VW w B num l A c) : LS w B l A c := ⟨h.rd, h.l40, h.el, h.cap⟩
theorem below_drewN' {B : Nat} {a w : World} (h : Below B a w) (n : Nat) : Below B a (w.drewN n) := ⟨h.os, h.tape, h.output, h.size, h.block⟩
/-- A Boolean, and nothing of what was there written. -/
def PB (w : World) (b : Bool) (e : Ending) (w' : World) : Prop := e = .returned (.bool b) ∧ Below w.heap.size w w'
theorem GivesB.pb {w : World} {b : Bool} {e : Ending} {w' : World} (h : GivesB w b e w') : PB w b e w' := by
  obtain ⟨h1, k, rfl⟩ := h
  exact ⟨h1, below_drewN' (Below.refl _ _) k⟩
/-- A list of the call's own. -/
def OwnI (w : World) (l : List Int) (e : Ending) (w' : World) : Prop := ∃ v, e = .returned v ∧ w'.ownsRow w.heap.size 3 1 v l.length (l.map intV) ∧ Below w.heap.size w w'
/-- .. written out. -/
def OutI (w : World) (l : List Int) (k : Nat) (e : Ending) (w' : World) : Prop := ∃ A c, e = .returned (.slice A k c) ∧ k ≤ c ∧ w'.ownsRow w.heap.size 3 1 (.slice A k c) k (l.map intV) ∧ Reads w' w'.heap.size 1 A k (l.map intV) ∧ Below w.heap.size w w'
theorem OwnI.to {w : World} {l : List Int} {e : Ending} {w' : World} (h : OwnI w l e w') (l' : List Int) (k : Nat) (hl : l = l') (hk : l'.length = k) : OutI w l' k e w' := by
  subst hl hk
  obtain ⟨v, rfl, ho, hb⟩ := h
  obtain ⟨A, c, hv, hc, hr⟩ := SliceOf.of_own (xs := l.map intV) (base := w.heap.size) (e := 3) (by rw [List.length_map]; exact ho)
  rw [List.length_map] at hv hc hr
  subst hv
  exact ⟨A, c, rfl, hc, ho, hr, hb⟩
theorem blk2 {W : World} {g : Nat} {t : TypeId} {a b : Value} (h : Blk W g t #[a, b]) : W.cell? ⟨g, 0, none⟩ = some a ∧ W.cell? ⟨g, 1, none⟩ = some b := ⟨h.cell 0, h.cell 1⟩
set_option maxRecDepth 100000 in
set_option maxHeartbeats 400000 in
theorem refValid_any (num : Int) (l : List Int) (A : Option Addr) (c B : Nat) (w : World) (h : VW w B num l A c) (hB : B ≤ w.heap.size) :
    Calls Try.prog 28 #[vwV num A l.length c] w (PB w (validV num l)) := by
  have hb0 := (Below.refl w.heap.size w).alloc (Nat.le_refl _) (.cells #[.int .i64 num, .slice A l.length c] 31)
  have CM := Lib.hid (fun W (hW : Below w.heap.size w W) => refValidM_any A c w.heap.size l W ((h.rd.more hB).below hW) h.l40 h.el)
  obtain ⟨n1, n2⟩ := h.num64
  dsimp only [vwV]
  by_cases h1 : 0 ≤ num
  · by_cases h2 : num ≤ 1099511627776
    · have ht := Lib.hid (show validV num l = validM l by simp [validV, h1, h2])
      clear h
      go_enter Try.func28, Try.ntmps28
      go_wp2_with (go_at_call 13; (with_reducible refine (CM.out _ hb0).mono ?_); rintro e w1 ⟨rfl, q, rfl⟩)
      go_ret
      exact ⟨retB' ht.out, below_drewN' hb0 _⟩
    · have ht := Lib.hid (show validV num l = false by simp [validV, h1, h2])
      clear h CM
      go_enter Try.func28, Try.ntmps28
      go_wp2_with fail
      go_ret
      exact ⟨retB' ht.out, hb0⟩
  · have ht := Lib.hid (show validV num l = false by simp [validV, h1])
    clear h CM
    go_enter Try.func28, Try.ntmps28
    go_wp2_with fail
    go_ret
    exact ⟨retB' ht.out, hb0⟩
theorem among_snoc {l m : List Int} {b : Bool} {k : Nat} {x : Int} (h : l[k]? = some x) : among (l.take (k + 1)) m b = among (l.take k) m b ++ if hasB m x == b then [x] else [] := by
  unfold among
  rw [List.take_add_one, h, List.filter_append]
  simp only [Option.toList_some, List.filter_cons, List.filter_nil]
theorem among_le (l m : List Int) (b : Bool) : (among l m b).length ≤ l.length := List.length_filter_le _ _
set_option maxRecDepth 100000 in
set_option maxHeartbeats 1000000 in
theorem refAmong_any (L M : Option Addr) (c d B : Nat) (l m : List Int) (b : Bool) (w : World) (h : LS w B l L c) (h' : LS w B m M d) (hB : B ≤ w.heap.size) :
    Calls Try.prog 52 #[.slice L l.length c, .slice M m.length d, .bool b] w (OwnI w (among l m b)) := by
  obtain ⟨i0, hi, hz0, hz1, hz2⟩ := info_parts intInfo
  have CC := Lib.hid (fun x W (hW : Below w.heap.size w W) => refContains_any M d w.heap.size m x W ((h'.rd.more hB).below hW) h'.l40)
  have hL := Lib.hid (fun W (hW : Below w.heap.size w W) => (h.rd.more hB).below hW)
  have hl40 := h.l40
  have hb0 := Below.refl w.heap.size w
  clear h h'
  go_enter Try.func52, Try.ntmps52
  go_wp2
  go_loopw [7, 8] (fun out i wr => ∃ k : Nat, k ≤ l.length ∧ i = .int .i64 k ∧ wr.ownsRow w.heap.size 3 1 out (among (l.take k) m b).length ((among (l.take k) m b).map intV) ∧ Below w.heap.size w wr) (fun _ i _ => l.length - (intOf i).toNat)
  case atStart => exact ⟨0, Nat.zero_le _, rfl, World.ownsRow_nil _ _ _ _, hb0⟩
  case round =>
    obtain ⟨k, hk, rfl, hown, hbel⟩ := hrel
    obtain ⟨wr', rfl⟩ : ∃ x, x = wr := ⟨_, rfl⟩
    by_cases hlt : k < l.length
    · obtain ⟨ad, u, rfl, _, hx, hcell⟩ := (hL.out _ hbel).at_ hlt
      obtain ⟨x, hxk⟩ : ∃ x, l[k]? = some x := ⟨_, List.getElem?_eq_getElem hlt⟩
      have hux : u = .int .i64 x := by simp [hxk, intV] at hx; exact hx.symm
      rw [hux] at hcell
      have hsn := among_snoc (m := m) (b := b) hxk
      have hlen : (among (l.take k) m b).length ≤ 1099511627776 := Nat.le_trans (among_le _ _ _) (by rw [List.length_take]; omega)
      have HC := Lib.hid (CC.out x wr' hbel)
      have hlt2 : (k : Int) < (l.length : Int) := by omega
      have hbs := hbel.size
      generalize among (l.take k) m b = P at *
      clear hx hux hxk
      cases hcb : hasB m x == b
      · have hfin := Lib.hid (show among (l.take (k + 1)) m b = P by rw [hsn, hcb]; simp)
        clear hsn
        generalize hasB m x = y at *
        go_wp2_with (go_at_call 17; (with_reducible refine HC.out.mono ?_); rintro e w1 ⟨rfl, rfl⟩)
        go_roundw
        case rel => exact ⟨k + 1, by omega, by go_num, by rw [hfin.out]; exact hown, hbel⟩
        case measure => simp [intOf]; omega
      · have hfin := Lib.hid (show among (l.take (k + 1)) m b = P ++ [x] by rw [hsn, hcb]; simp)
        clear hsn
        generalize hasB m x = y at *
        go_wp2_with (first
          | (go_at_call 17; (with_reducible refine HC.out.mono ?_); rintro e w1 ⟨rfl, rfl⟩)
          | (at_builtin; refine wpList_append_own _ rfl (.tmp 23) (.tmp 28) 22 rfl w.heap.size 3 i0 _ 1 8 Try.underlying22 hi hz0 hz1 hz2 rfl (by decide) _ _ _ rfl (hown.alloc _) ⟨wr'.heap.size, 0, none⟩ 1 1 [intV x] rfl rfl ?c1 ?c2 ?c3 ?c4 ?c5 ?_))
        case c1 => intro q u hq; match q, hq with | 0, hq => simp at hq; subst hq; simp [Addr.add, intV]
        case c2 => intro u hu; simp at hu; subst hu; rfl
        case c3 => unfold maxLen; omega
        case c4 => omega
        case c5 => simp; omega
        intro v' w1 hown' hgrow _
        have hbel' : Below w.heap.size w w1 := (hbel.alloc hbs _).grown hgrow (by simp; omega) (fun q hq => (hown.lt q hq).1)
        have hown2 : w1.ownsRow w.heap.size 3 1 v' (P ++ [x]).length ((P ++ [x]).map intV) := by simpa using hown'
        clear hown' hgrow hown
        go_wp2
        go_roundw
        case rel => exact ⟨k + 1, by omega, by go_num, by rw [hfin.out]; exact hown2, hbel'⟩
        case measure => simp [intOf]; omega
    · have ht := Lib.hid (show among (l.take k) m b = among l m b by rw [List.take_of_length_le (by omega)])
      have hlt2 : ¬ (k : Int) < (l.length : Int) := by omega
      go_wp2
      go_ret
      exact ⟨_, rfl, by rw [← ht.out]; exact hown, hbel⟩
set_option maxRecDepth 100000 in
set_option maxHeartbeats 1000000 in
theorem refLeavers_any (num : Int) (l q : List Int) (A C : Option Addr) (c d B : Nat) (w : World) (h : VW w B num l A c) (h' : LS w B q C d) (hB : B ≤ w.heap.size) :
    Calls Try.prog 31 #[vwV num A l.length c, .slice C q.length d] w (OwnI w (lvs num l q)) := by
  have hb0 := (Below.refl w.heap.size w).alloc (Nat.le_refl _) (.cells #[.int .i64 num, .slice A l.length c] 31)
  have hk0 := Lib.hid (Blk.new w 31 #[.int .i64 num, .slice A l.length c])
  have hs0 := Lib.hid (show (w.alloc (.cells #[.int .i64 num, .slice A l.length c] 31)).heap.size = w.heap.size + 1 by simp)
  have CV := Lib.hid (fun W (hW : Below w.heap.size w W) => refValid_any num l A c w.heap.size W ((h.more hB).below hW) hW.size)
  have CT := Lib.hid (fun W (hW : Below w.heap.size w W) => (refValidC_any C d w.heap.size q W ((h'.rd.more hB).below hW) h'.l40 h'.el).mono fun _ _ h => h.pb)
  have CA := Lib.hid (fun W (hW : Below w.heap.size w W) => refAmong_any C A d c w.heap.size q l true W ((h'.more hB).below hW) ((h.ls.more hB).below hW) hW.size)
  dsimp only [vwV] at *
  clear h h'
  cases h1 : validV num l
  · have ht := Lib.hid (show lvs num l q = [] by unfold lvs; rw [h1]; simp)
    rw [h1] at CV
    clear CT CA
    go_enter Try.func31, Try.ntmps31
    go_wp2_with (go_at_call 28; (with_reducible refine (CV.out _ hb0).mono ?_); rintro e w1 ⟨rfl, hq1⟩; (have hb1 : Below w.heap.size w w1 := hb0.trans (hq1.mono (by rw [hs0.out]; omega))))
    go_ret
    exact ⟨_, rfl, by rw [ht.out]; exact World.ownsRow_nil _ _ _ _, hb1⟩
  · cases h2 : validC q
    · have ht := Lib.hid (show lvs num l q = [] by unfold lvs; rw [h1, h2]; simp)
      rw [h1] at CV
      rw [h2] at CT
      clear CA
      go_enter Try.func31, Try.ntmps31
      go_wp2_with (first
        | (go_at_call 28; (with_reducible refine (CV.out _ hb0).mono ?_); rintro e w1 ⟨rfl, hq1⟩; (have hb1 : Below w.heap.size w w1 := hb0.trans (hq1.mono (by rw [hs0.out]; omega))))
        | (go_at_call 15; (with_reducible refine (CT.out _ hb1).mono ?_); rintro e w2 ⟨rfl, hq2⟩; (have hb2 := bstep hb1 hq2)))
      go_ret
      exact ⟨_, rfl, by rw [ht.out]; exact World.ownsRow_nil _ _ _ _, hb2⟩
    · have ht := Lib.hid (show lvs num l q = among q l true by unfold lvs; rw [h1, h2]; simp)
      rw [h1] at CV
      rw [h2] at CT
      go_enter Try.func31, Try.ntmps31
      go_wp2_with (first
        | (go_at_call 28; (with_reducible refine (CV.out _ hb0).mono ?_); rintro e w1 ⟨rfl, hq1⟩; (have hb1 : Below w.heap.size w w1 := hb0.trans (hq1.mono (by rw [hs0.out]; omega))); (have hk1 := hk0.out.below hq1 (by rw [hs0.out]; omega)))
        | (go_at_call 15; (with_reducible refine (CT.out _ hb1).mono ?_); rintro e w2 ⟨rfl, hq2⟩; (have hb2 := bstep hb1 hq2); (have hk2 := hk1.below hq2 hk1.lt); obtain ⟨q0, q1⟩ := blk2 hk2)
        | (go_at_call 52; (with_reducible refine (CA.out _ hb2).mono ?_); rintro e w3 ⟨v3, rfl, ho3, hq3⟩))
      go_ret
      exact ⟨_, rfl, by rw [ht.out]; exact own_base ho3 hb2.size, bstep hb2 hq3⟩
set_option maxRecDepth 100000 in
set_option maxHeartbeats 1000000 in
theorem refJoiners_any (num : Int) (l q : List Int) (A C : Option Addr) (c d B : Nat) (w : World) (h : VW w B num l A c) (h' : LS w B q C d) (hB : B ≤ w.heap.size) :
    Calls Try.prog 33 #[vwV num A l.length c, .slice C q.length d] w (OwnI w (jns num l q)) := by
  have hb0 := (Below.refl w.heap.size w).alloc (Nat.le_refl _) (.cells #[.int .i64 num, .slice A l.length c] 31)
  have hk0 := Lib.hid (Blk.new w 31 #[.int .i64 num, .slice A l.length c])
  have hs0 := Lib.hid (show (w.alloc (.cells #[.int .i64 num, .slice A l.length c] 31)).heap.size = w.heap.size + 1 by simp)
  have CV := Lib.hid (fun W (hW : Below w.heap.size w W) => refValid_any num l A c w.heap.size W ((h.more hB).below hW) hW.size)
  have CT := Lib.hid (fun W (hW : Below w.heap.size w W) => (refValidC_any C d w.heap.size q W ((h'.rd.more hB).below hW) h'.l40 h'.el).mono fun _ _ h => h.pb)
  have CA := Lib.hid (fun W (hW : Below w.heap.size w W) => refAmong_any C A d c w.heap.size q l false W ((h'.more hB).below hW) ((h.ls.more hB).below hW) hW.size)
  dsimp only [vwV] at *
  clear h h'
  cases h1 : validV num l
  · have ht := Lib.hid (show jns num l q = [] by unfold jns; rw [h1]; simp)
    rw [h1] at CV
    clear CT CA
    go_enter Try.func33, Try.ntmps33
    go_wp2_with (go_at_call 28; (with_reducible refine (CV.out _ hb0).mono ?_); rintro e w1 ⟨rfl, hq1⟩; (have hb1 : Below w.heap.size w w1 := hb0.trans (hq1.mono (by rw [hs0.out]; omega))))
    go_ret
    exact ⟨_, rfl, by rw [ht.out]; exact World.ownsRow_nil _ _ _ _, hb1⟩
  · cases h2 : validC q
    · have ht := Lib.hid (show jns num l q = [] by unfold jns; rw [h1, h2]; simp)
      rw [h1] at CV
      rw [h2] at CT
      clear CA
      go_enter Try.func33, Try.ntmps33
      go_wp2_with (first
        | (go_at_call 28; (with_reducible refine (CV.out _ hb0).mono ?_); rintro e w1 ⟨rfl, hq1⟩; (have hb1 : Below w.heap.size w w1 := hb0.trans (hq1.mono (by rw [hs0.out]; omega))))
        | (go_at_call 15; (with_reducible refine (CT.out _ hb1).mono ?_); rintro e w2 ⟨rfl, hq2⟩; (have hb2 := bstep hb1 hq2)))
      go_ret
      exact ⟨_, rfl, by rw [ht.out]; exact World.ownsRow_nil _ _ _ _, hb2⟩
    · have ht := Lib.hid (show jns num l q = among q l false by unfold jns; rw [h1, h2]; simp)
      rw [h1] at CV
      rw [h2] at CT
      go_enter Try.func33, Try.ntmps33
      go_wp2_with (first
        | (go_at_call 28; (with_reducible refine (CV.out _ hb0).mono ?_); rintro e w1 ⟨rfl, hq1⟩; (have hb1 : Below w.heap.size w w1 := hb0.trans (hq1.mono (by rw [hs0.out]; omega))); (have hk1 := hk0.out.below hq1 (by rw [hs0.out]; omega)))
        | (go_at_call 15; (with_reducible refine (CT.out _ hb1).mono ?_); rintro e w2 ⟨rfl, hq2⟩; (have hb2 := bstep hb1 hq2); (have hk2 := hk1.below hq2 hk1.lt); obtain ⟨q0, q1⟩ := blk2 hk2)
        | (go_at_call 52; (with_reducible refine (CA.out _ hb2).mono ?_); rintro e w3 ⟨v3, rfl, ho3, hq3⟩))
      go_ret
      exact ⟨_, rfl, by rw [ht.out]; exact own_base ho3 hb2.size, bstep hb2 hq3⟩
set_option maxRecDepth 100000 in
set_option maxHeartbeats 1000000 in
theorem refSurvivors_any (num : Int) (l q : List Int) (A C : Option Addr) (c d B : Nat) (w : World) (h : VW w B num l A c) (h' : LS w B q C d) (hB : B ≤ w.heap.size) :
    Calls Try.prog 35 #[vwV num A l.length c, .slice C q.length d] w (OwnI w (svs num l q)) := by
  have hb0 := (Below.refl w.heap.size w).alloc (Nat.le_refl _) (.cells #[.int .i64 num, .slice A l.length c] 31)
  have hk0 := Lib.hid (Blk.new w 31 #[.int .i64 num, .slice A l.length c])
  have hs0 := Lib.hid (show (w.alloc (.cells #[.int .i64 num, .slice A l.length c] 31)).heap.size = w.heap.size + 1 by simp)
  have CV := Lib.hid (fun W (hW : Below w.heap.size w W) => refValid_any num l A c w.heap.size W ((h.more hB).below hW) hW.size)
  have CT := Lib.hid (fun W (hW : Below w.heap.size w W) => (refValidC_any C d w.heap.size q W ((h'.rd.more hB).below hW) h'.l40 h'.el).mono fun _ _ h => h.pb)
  have CA := Lib.hid (fun W (hW : Below w.heap.size w W) => refAmong_any A C c d w.heap.size l q false W ((h.ls.more hB).below hW) ((h'.more hB).below hW) hW.size)
  dsimp only [vwV] at *
  clear h h'
  cases h1 : validV num l
  · have ht := Lib.hid (show svs num l q = [] by unfold svs; rw [h1]; simp)
    rw [h1] at CV
    clear CT CA
    go_enter Try.func35, Try.ntmps35
    go_wp2_with (go_at_call 28; (with_reducible refine (CV.out _ hb0).mono ?_); rintro e w1 ⟨rfl, hq1⟩; (have hb1 : Below w.heap.size w w1 := hb0.trans (hq1.mono (by rw [hs0.out]; omega))))
    go_ret
    exact ⟨_, rfl, by rw [ht.out]; exact World.ownsRow_nil _ _ _ _, hb1⟩
  · cases h2 : validC q
    · have ht := Lib.hid (show svs num l q = [] by unfold svs; rw [h1, h2]; simp)
      rw [h1] at CV
      rw [h2] at CT
      clear CA
      go_enter Try.func35, Try.ntmps35
      go_wp2_with (first
        | (go_at_call 28; (with_reducible refine (CV.out _ hb0).mono ?_); rintro e w1 ⟨rfl, hq1⟩; (have hb1 : Below w.heap.size w w1 := hb0.trans (hq1.mono (by rw [hs0.out]; omega))))
        | (go_at_call 15; (with_reducible refine (CT.out _ hb1).mono ?_); rintro e w2 ⟨rfl, hq2⟩; (have hb2 := bstep hb1 hq2)))
      go_ret
      exact ⟨_, rfl, by rw [ht.out]; exact World.ownsRow_nil _ _ _ _, hb2⟩
    · have ht := Lib.hid (show svs num l q = among l q false by unfold svs; rw [h1, h2]; simp)
      rw [h1] at CV
      rw [h2] at CT
      go_enter Try.func35, Try.ntmps35
      go_wp2_with (first
        | (go_at_call 28; (with_reducible refine (CV.out _ hb0).mono ?_); rintro e w1 ⟨rfl, hq1⟩; (have hb1 : Below w.heap.size w w1 := hb0.trans (hq1.mono (by rw [hs0.out]; omega))); (have hk1 := hk0.out.below hq1 (by rw [hs0.out]; omega)))
        | (go_at_call 15; (with_reducible refine (CT.out _ hb1).mono ?_); rintro e w2 ⟨rfl, hq2⟩; (have hb2 := bstep hb1 hq2); (have hk2 := hk1.below hq2 hk1.lt); obtain ⟨q0, q1⟩ := blk2 hk2)
        | (go_at_call 52; (with_reducible refine (CA.out _ hb2).mono ?_); rintro e w3 ⟨v3, rfl, ho3, hq3⟩))
      go_ret
      exact ⟨_, rfl, by rw [ht.out]; exact own_base ho3 hb2.size, bstep hb2 hq3⟩
end Go.Proofs.Yteiolhbjgfkdeaa.V
