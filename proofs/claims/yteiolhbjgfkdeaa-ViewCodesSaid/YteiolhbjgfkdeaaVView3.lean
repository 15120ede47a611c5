/- Package view: split, the labelled loop. -/
import Derived.Test.YteiolhbjgfkdeaaVView2
import Derived.Deep.LoopGhost
namespace Go.Proofs.Yteiolhbjgfkdeaa.V
set_option linter.unusedVariables false
open Go.RowKit
open Go.Proofs.Yteiolhbjgfkdeaa.W

def SplitPost (w : World) (L M R : List Int) (e : Ending) (w' : World) : Prop :=
  ∃ v1 v2 v3, e = .returned (.tuple #[v1, v2, v3]) ∧ Row3 w' w.heap.size v1 v2 v3 L M R ∧ Below w.heap.size w w'
theorem drop_at' {l : List Int} {k : Nat} {x : Int} (h : l[k]? = some x) : l.drop k = x :: l.drop (k + 1) := by
  obtain ⟨hk, rfl⟩ := List.getElem?_eq_some_iff.1 h
  exact List.drop_eq_getElem_cons hk
/-- Where the inner loop stops, its list is through or its next element is greater. -/
theorem stop_at {b : List Int} {n : Nat} {x y : Int} (h : b[n]? = some y) (hx : x < y) : b.drop n = [] ∨ ∃ z t, b.drop n = z :: t ∧ x < z := .inr ⟨y, _, drop_at' h, hx⟩

set_option maxRecDepth 1000000 in
set_option maxHeartbeats 2000000 in
theorem split_any (A C : Option Addr) (c d B : Nat) (a b : List Int) (w : World) (h : LS w B a A c) (h' : LS w B b C d) (hB : B ≤ w.heap.size) (ha : Asc a) (hb : Asc b) (hal : a.length ≤ 32) (hbl : b.length ≤ 32) :
    Calls Try.prog 47 #[.slice A a.length c, .slice C b.length d] w (SplitPost w (among a b false) (among a b true) (among b a false)) := by
  have RA := Lib.hid (fun W (hW : Below w.heap.size w W) => (h.rd.more hB).below hW)
  have RB := Lib.hid (fun W (hW : Below w.heap.size w W) => (h'.rd.more hB).below hW)
  have CB := Lib.hid h'.cap
  have HA := Lib.hid ha
  have HB := Lib.hid hb
  obtain ⟨na, hna⟩ : ∃ n, n = a.length := ⟨_, rfl⟩
  obtain ⟨nb, hnb⟩ : ∃ n, n = b.length := ⟨_, rfl⟩
  have HNA := Lib.hid hna
  have HNB := Lib.hid hnb
  rw [← hna] at hal RA ⊢
  rw [← hnb] at hbl RB CB ⊢
  clear h h' ha hb hna hnb
  go_enter Try.func47, Try.ntmps47
  go_wp2
  go_step3
  go_wp2
  go_step3
  go_wp2
  go_loopg [4, 5, 6, 7, 13] na (fun g s4 s5 s6 s7 s13 wr => ∃ (k n : Nat) (L M R : List Int), k + g = na ∧ n ≤ nb ∧ s7 = .int .i64 n ∧ s13 = .int .i64 k ∧ Hid (Came a b L M R (a.drop k) (b.drop n)) ∧ L.length ≤ k ∧ M.length ≤ k ∧ R.length ≤ n ∧ Hid (Row3 wr w.heap.size s4 s5 s6 L M R) ∧ Below w.heap.size w wr)
  case atStart => exact ⟨0, 0, [], [], [], by omega, Nat.zero_le _, rfl, rfl, Came.start a b, Nat.le_refl _, Nat.le_refl _, Nat.le_refl _, Row3.nil_ _ _, Below.refl _ _⟩
  case round =>
    obtain ⟨k, n, L, M, R, hkg, hn, rfl, rfl, HC, hL, hM, hR, HT, hbel⟩ := hrel
    obtain ⟨wo, rfl⟩ : ∃ wo : World, wo = wr := ⟨_, rfl⟩
    have hbs := hbel.size
    cases gk with
    | zero =>
      have hkz : ¬ ((k : Int) < (na : Int)) := by omega
      obtain ⟨A', hs', hrr⟩ := slice_fromI (w := wo) (B := w.heap.size) (l := b) (c := d) (A := C) (k := n) (ki := (n : Int)) (by have := RB.out wo hbel; rw [HNB.out] at this; exact this) (by have := CB.out; have := HNB.out; omega) (by have := HNB.out; omega) rfl
      rw [← HNB.out] at hs' hrr
      have HD := Lib.hid (Came.done (a := a) (b := b) (L := L) (M := M) (R := R) (rb := b.drop n) (by
        have := HC.out
        rwa [show a.drop k = [] from List.drop_eq_nil_of_le (by have := HNA.out; omega)] at this) HA.out HB.out)
      have hdl : (b.drop n).length ≤ 32 := by rw [List.length_drop]; have := HNB.out; omega
      have HRR := Lib.hid hrr
      clear hrr
      go_wp2_with (at_builtin; refine wp_append_tri _ rfl (.tmp 53) (.tmp 56) rfl w.heap.size _ _ _ R L M (b.drop n) _ _ _ _ rfl HT.out.turn.turn rfl HRR.out (by omega) hbs ?_; intro v' w' ht2 hb2)
      try rw [Exit.noGoto_ret]
      go_ret3
      obtain ⟨e1, e2, e3⟩ := HD.out
      rw [← e1, ← e2, ← e3]
      exact ⟨_, _, _, rfl, ht2.turn, hbel.trans hb2⟩
    | succ g =>
      have hkz : (k : Int) < (na : Int) := by omega
      obtain ⟨ad, u, rfl, _, hx, hcell⟩ := (RA.out wo hbel).at_ (k := k) (by omega)
      obtain ⟨x, hxk⟩ : ∃ x, a[k]? = some x := ⟨_, List.getElem?_eq_getElem (by have := HNA.out; omega)⟩
      have hux : u = .int .i64 x := by simp [hxk, intV] at hx; exact hx.symm
      rw [hux] at hcell
      have HC2 := Lib.hid (show Came a b L M R (x :: a.drop (k + 1)) (b.drop n) by rw [← drop_at' hxk]; exact HC.out)
      clear hx hux hxk
      obtain ⟨v4, rfl⟩ : ∃ v, v = u4 := ⟨_, rfl⟩
      obtain ⟨v5, rfl⟩ : ∃ v, v = u5 := ⟨_, rfl⟩
      obtain ⟨v6, rfl⟩ : ∃ v, v = u6 := ⟨_, rfl⟩
      go_wp2_with fail
      go_loopg [5, 6, 7] (nb - n) (fun g2 s5 s6 s7 wy => ∃ (m : Nat) (R2 : List Int), m + g2 = nb ∧ s7 = .int .i64 m ∧ s5 = v5 ∧ Hid (Came a b L M R2 (x :: a.drop (k + 1)) (b.drop m)) ∧ R2.length ≤ m ∧ Hid (Row3 wy w.heap.size v4 v5 s6 L M R2) ∧ Below w.heap.size w wy)
      case atStart => exact ⟨n, R, by omega, rfl, rfl, HC2, hR, HT, hbel⟩
      case round =>
        obtain ⟨m, R2, hm, rfl, rfl, HC3, hR2, HT2, hb2⟩ := hrel
        obtain ⟨wi, rfl⟩ : ∃ wi : World, wi = wr := ⟨_, rfl⟩
        clear HC2 HT HC hbel hcell hbs
        have hbs := hb2.size
        cases gk with
        | zero =>
          have hmz : ¬ ((m : Int) < (nb : Int)) := by omega
          have HF := Lib.hid (Came.left (a := a) (b := b) HC3.out (.inl (List.drop_eq_nil_of_le (by have := HNB.out; omega))))
          go_wp2_with (at_builtin; refine wp_append_tri _ rfl (.tmp 46) (.tmp 48) rfl w.heap.size _ _ _ L M R2 [x] _ _ _ _ rfl (HT2.out.alloc _) rfl (reads_one _ _) (by simp; omega) (by simp; omega) ?_; intro v' w' ht2 hb3)
          go_roundg g
          case measure => omega
          case rel => exact ⟨k + 1, m, L ++ [x], M, R2, by omega, by omega, rfl, by go_num, HF.out, by simp; omega, by omega, by omega, ht2, (hb2.alloc hbs _).trans hb3⟩
        | succ g2 =>
          have hmz : (m : Int) < (nb : Int) := by omega
          obtain ⟨bd, u', rfl, hbd, hx', hcell'⟩ := (RB.out wi hb2).at_ (k := m) (by omega)
          obtain ⟨y, hyk⟩ : ∃ y, b[m]? = some y := ⟨_, List.getElem?_eq_getElem (by have := HNB.out; omega)⟩
          have huy : u' = .int .i64 y := by simp [hyk, intV] at hx'; exact hx'.symm
          rw [huy] at hcell'
          have HY := Lib.hid hyk
          clear hx' huy hyk
          by_cases hyx : y ≤ x
          · by_cases he : y = x
            · subst he
              have HF := Lib.hid (show Came a b L (M ++ [y]) R2 (a.drop (k + 1)) (b.drop (m + 1)) by
                have := HC3.out
                rw [drop_at' HY.out] at this
                exact this.both)
              go_wp2_with (at_builtin; refine wp_append_tri _ rfl (.tmp 38) (.tmp 40) rfl w.heap.size _ _ _ M R2 L [y] _ _ _ _ rfl (HT2.out.turn.alloc _) rfl (reads_one _ _) (by simp; omega) (by simp; omega) ?_; intro v' w' ht2 hb3)
              go_roundg g
              case measure => omega
              case rel => exact ⟨k + 1, m + 1, L, M ++ [y], R2, by omega, by omega, by go_num, by go_num, HF.out, by omega, by simp; omega, by omega, ht2.turn.turn, (hb2.alloc hbs _).trans hb3⟩
            · have fe : (y == x) = false := beqF he
              have HF := Lib.hid (show Came a b L M (R2 ++ [y]) (x :: a.drop (k + 1)) (b.drop (m + 1)) by
                have := HC3.out
                rw [drop_at' HY.out] at this
                exact this.right (by omega))
              clear he
              go_wp2_with (at_builtin; refine wp_append_tri _ rfl (.tmp 42) (.tmp 44) rfl w.heap.size _ _ _ R2 L M [y] _ _ _ _ rfl (HT2.out.turn.turn.alloc _) rfl (reads_one _ _) (by simp; omega) (by simp; omega) ?_; intro v' w' ht2 hb3)
              go_roundg g2
              case measure => omega
              case rel => exact ⟨m + 1, R2 ++ [y], by omega, by go_num, rfl, HF.out, by simp; omega, ht2.turn, (hb2.alloc hbs _).trans hb3⟩
          · have HF := Lib.hid (Came.left (a := a) (b := b) HC3.out (stop_at HY.out (by omega)))
            go_wp2_with (at_builtin; refine wp_append_tri _ rfl (.tmp 46) (.tmp 48) rfl w.heap.size _ _ _ L M R2 [x] _ _ _ _ rfl (HT2.out.alloc _) rfl (reads_one _ _) (by simp; omega) (by simp; omega) ?_; intro v' w' ht2 hb3)
            go_roundg g
            case measure => omega
            case rel => exact ⟨k + 1, m, L ++ [x], M, R2, by omega, by omega, rfl, by go_num, HF.out, by simp; omega, by omega, by omega, ht2, (hb2.alloc hbs _).trans hb3⟩
/-- .. written out, the lengths under names. -/
def SplitOut (w : World) (L M R : List Int) (i j k : Nat) (e : Ending) (w' : World) : Prop :=
  ∃ A1 c1 A2 c2 A3 c3, e = .returned (.tuple #[.slice A1 i c1, .slice A2 j c2, .slice A3 k c3]) ∧ (i ≤ c1 ∧ j ≤ c2 ∧ k ≤ c3) ∧
    Hid (Row3 w' w.heap.size (.slice A1 i c1) (.slice A2 j c2) (.slice A3 k c3) L M R) ∧ (Reads w' w'.heap.size 1 A1 i (L.map intV) ∧ Reads w' w'.heap.size 1 A2 j (M.map intV) ∧ Reads w' w'.heap.size 1 A3 k (R.map intV)) ∧ Below w.heap.size w w'
theorem SplitPost.to {w w' : World} {L M R : List Int} {e : Ending} (h : SplitPost w L M R e w') : SplitOut w L M R L.length M.length R.length e w' := by
  obtain ⟨v1, v2, v3, rfl, ht, hb⟩ := h
  obtain ⟨A1, c1, h1, d1, r1⟩ := SliceOf.of_own (xs := L.map intV) (base := w.heap.size) (e := 3) (by rw [List.length_map]; exact ht.o1)
  obtain ⟨A2, c2, h2, d2, r2⟩ := SliceOf.of_own (xs := M.map intV) (base := w.heap.size) (e := 3) (by rw [List.length_map]; exact ht.o2)
  obtain ⟨A3, c3, h3, d3, r3⟩ := SliceOf.of_own (xs := R.map intV) (base := w.heap.size) (e := 3) (by rw [List.length_map]; exact ht.o3)
  rw [List.length_map] at h1 d1 r1 h2 d2 r2 h3 d3 r3
  subst h1 h2 h3
  exact ⟨A1, c1, A2, c2, A3, c3, rfl, ⟨d1, d2, d3⟩, ht, ⟨r1, r2, r3⟩, hb⟩

/-- Integers appended to a row of the call's own, wherever they lie. -/
theorem wp_append_ints {ops : Array Oper} {rest : List Oper} {o : Oper} {a : Act} {Q : Exit → Act → World → Prop} (W : World) (hgd : o.guard = none) (s x : Operand)
    (ho : o.op = .call { callee := .builtin .append, args := #[s, x], argTypes := #[22, 22] }) (base : Nat) (v : Value) (l news : List Int) (B m c : Nat) (A : Option Addr) (hs : a.eval s = v)
    (hown : W.ownsRow base 3 1 v l.length (l.map intV)) (hx : a.eval x = .slice A m c) (hr : Reads W B 1 A m (news.map intV)) (hl : l.length + news.length ≤ 1099511627776) (hbase : base ≤ W.heap.size)
    (h : ∀ v' w', w'.ownsRow base 3 1 v' (l ++ news).length ((l ++ news).map intV) → Below base W w' → wpList Try.prog ops Q rest (a.put o.dst v') w') : wpList Try.prog ops Q (o :: rest) a W := by
  refine wp_append_tri W hgd s x ho base v (.slice none 0 0) (.slice none 0 0) l [] [] news B m c A hs ⟨hown, World.ownsRow_nil _ _ _ _, World.ownsRow_nil _ _ _ _, ?_, ?_, .inl rfl⟩ hx hr hl hbase fun v' w' ht hb => h v' w' ht.o1 hb
  · exact (Apt.symm (.inl rfl))
  · exact (Apt.symm (.inl rfl))
end Go.Proofs.Yteiolhbjgfkdeaa.V
