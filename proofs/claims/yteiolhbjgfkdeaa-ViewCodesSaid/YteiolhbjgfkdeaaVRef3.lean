/- The reference of layer 3: Insert, Next, Diff, Same. -/
import Derived.Test.YteiolhbjgfkdeaaVRef2
namespace Go.Proofs.Yteiolhbjgfkdeaa.V
set_option linter.unusedVariables false
open Go.RowKit
open Go.Proofs.Yteiolhbjgfkdeaa.W

/-- One integer appended to a row of the call's own. -/
theorem wp_append_int {ops : Array Oper} {rest : List Oper} {o : Oper} {a : Act} {Q : Exit → Act → World → Prop} (W : World) (hgd : o.guard = none) (s x : Operand)
    (ho : o.op = .call { callee := .builtin .append, args := #[s, x], argTypes := #[22, 22] }) (base : Nat) (v : Value) (l : List Int) (z : Int) (g : Nat) (hs : a.eval s = v)
    (hown : W.ownsRow base 3 1 v l.length (l.map intV)) (hx : a.eval x = .slice (some ⟨g, 0, none⟩) 1 1) (hcell : W.cell? ⟨g, 0, none⟩ = some (.int .i64 z))
    (hl : l.length ≤ 4398046521104) (hbase : base ≤ W.heap.size)
    (h : ∀ v' w', w'.ownsRow base 3 1 v' (l ++ [z]).length ((l ++ [z]).map intV) → Below base W w' → wpList Try.prog ops Q rest (a.put o.dst v') w') : wpList Try.prog ops Q (o :: rest) a W := by
  obtain ⟨i0, hi, hz0, hz1, hz2⟩ := info_parts intInfo
  refine wpList_append_own W hgd s x 22 ho base 3 i0 _ 1 8 Try.underlying22 hi hz0 hz1 hz2 rfl (by decide) v _ _ hs hown ⟨g, 0, none⟩ 1 1 [intV z] hx rfl ?_ ?_ ?_ ?_ hbase ?_
  · intro q u hq
    match q, hq with
    | 0, hq => simp at hq; subst hq; simpa [Addr.add, intV] using hcell
  · intro u hu; simp at hu; subst hu; rfl
  · unfold maxLen; omega
  · omega
  · intro v' w' h1 h2 _
    refine h v' w' ?_ ((Below.refl _ _).grown h2 hbase fun q hq => (hown.lt q hq).1)
    simpa using h1
theorem ins_nil (id : Int) : ins id [] = [id] := rfl
set_option maxRecDepth 100000 in
set_option maxHeartbeats 1000000 in
theorem refInsert_any (L : Option Addr) (c : Nat) (l : List Int) (id : Int) (w : World) (hr : Reads w w.heap.size 1 L l.length (l.map intV)) (hl : l.length ≤ 1099511627776) :
    Calls Try.prog 49 #[.slice L l.length c, .int .i64 id] w (OwnI w (ins id l)) := by
  have hL := Lib.hid (fun W (hW : Below w.heap.size w W) => hr.below hW)
  have hb0 := Below.refl w.heap.size w
  clear hr
  go_enter Try.func49, Try.ntmps49
  go_wp2
  go_loopw [5, 6, 7] (fun out put i wr => ∃ (k : Nat) (b : Bool) (P : List Int), k ≤ l.length ∧ i = .int .i64 k ∧ put = .bool b ∧ P.length ≤ k + b.toNat ∧ wr.ownsRow w.heap.size 3 1 out P.length (P.map intV) ∧ Below w.heap.size w wr ∧ ins id l = if b then P ++ l.drop k else P ++ ins id (l.drop k)) (fun _ _ i _ => l.length - (intOf i).toNat)
  case atStart => exact ⟨0, false, [], Nat.zero_le _, rfl, rfl, by simp, World.ownsRow_nil _ _ _ _, hb0, by simp⟩
  case round =>
    obtain ⟨k, b, P, hk, rfl, rfl, hPk, hown, hbel, hres⟩ := hrel
    obtain ⟨wr', rfl⟩ : ∃ x, x = wr := ⟨_, rfl⟩
    have hbs := hbel.size
    have hPk2 : P.length ≤ k + 1 := by cases b <;> simp at hPk <;> omega
    by_cases hlt : k < l.length
    · obtain ⟨ad, u, rfl, _, hx, hcell⟩ := (hL.out _ hbel).at_ hlt
      have hux : u = .int .i64 l[k] := by simp [hlt, intV] at hx; exact hx.symm
      rw [hux] at hcell
      have hdk : l.drop k = l[k] :: l.drop (k + 1) := List.drop_eq_getElem_cons hlt
      generalize l[k] = x at *
      rw [hdk] at hres
      have HR := Lib.hid hres
      have hlt2 : (k : Int) < (l.length : Int) := by omega
      have hcl : ad.block < w.heap.size := by obtain ⟨ad', hA, hb, _⟩ := (hL.out _ hbel).2 (by omega); cases hA; exact hb
      clear hres hdk hx hux
      cases b
      · simp only [Bool.toNat_false, Nat.add_zero] at hPk
        by_cases hlx : id < x
        · have ht := Lib.hid (show ins id l = (P ++ [id] ++ [x]) ++ l.drop (k + 1) by rw [HR.out]; simp [ins, hlx])
          go_wp2_with (first
            | (at_builtin; refine wp_append_int _ rfl (.tmp 24) (.tmp 26) rfl w.heap.size _ P id _ rfl (hown.alloc _) rfl (cell_new1 _ _ _) (by omega) (by simp; omega) ?_; intro v2 w2 ho2 hq2; (have hb2 : Below w.heap.size w w2 := (hbel.alloc hbs _).trans hq2); (have hcell2 : w2.cell? (ad.add k) = some (.int .i64 x) := (hq2.cell (p := ad.add k) (by rw [block_of_add]; exact hcl)).trans ((World.cell?_alloc_lt _ _ _ (by rw [block_of_add]; omega)).trans hcell)))
            | (at_builtin; refine wp_append_int _ rfl (.tmp 28) (.tmp 33) rfl w.heap.size _ (P ++ [id]) x _ rfl (ho2.alloc _) rfl (cell_new1 _ _ _) (by simp; omega) (by have := hb2.size; simp; omega) ?_; intro v3 w3 ho3 hq3; (have hb3 : Below w.heap.size w w3 := (hb2.alloc hb2.size _).trans hq3)))
          go_roundw
          case rel => exact ⟨k + 1, true, P ++ [id] ++ [x], by omega, by go_num, rfl, by simp; omega, ho3, hb3, ht.out⟩
          case measure => simp [intOf]; omega
        · have ht := Lib.hid (show ins id l = (P ++ [x]) ++ ins id (l.drop (k + 1)) by rw [HR.out]; simp [ins, hlx])
          go_wp2_with (at_builtin; refine wp_append_int _ rfl (.tmp 28) (.tmp 33) rfl w.heap.size _ P x _ rfl (hown.alloc _) rfl (cell_new1 _ _ _) (by omega) (by simp; omega) ?_; intro v3 w3 ho3 hq3; (have hb3 : Below w.heap.size w w3 := (hbel.alloc hbs _).trans hq3))
          go_roundw
          case rel => exact ⟨k + 1, false, P ++ [x], by omega, by go_num, rfl, by simp; omega, ho3, hb3, ht.out⟩
          case measure => simp [intOf]; omega
      · have ht := Lib.hid (show ins id l = (P ++ [x]) ++ l.drop (k + 1) by rw [HR.out]; simp)
        go_wp2_with (at_builtin; refine wp_append_int _ rfl (.tmp 28) (.tmp 33) rfl w.heap.size _ P x _ rfl (hown.alloc _) rfl (cell_new1 _ _ _) (by omega) (by simp; omega) ?_; intro v3 w3 ho3 hq3; (have hb3 : Below w.heap.size w w3 := (hbel.alloc hbs _).trans hq3))
        go_roundw
        case rel => exact ⟨k + 1, true, P ++ [x], by omega, by go_num, rfl, by simp; omega, ho3, hb3, ht.out⟩
        case measure => simp [intOf]; omega
    · rw [List.drop_eq_nil_of_le (by omega)] at hres
      have HR := Lib.hid hres
      have hlt2 : ¬ (k : Int) < (l.length : Int) := by omega
      clear hres
      cases b
      · have ht := Lib.hid (show ins id l = P ++ [id] by rw [HR.out]; simp [ins])
        go_wp2_with (at_builtin; refine wp_append_int _ rfl (.tmp 37) (.tmp 39) rfl w.heap.size _ P id _ rfl (hown.alloc _) rfl (cell_new1 _ _ _) (by omega) (by simp; omega) ?_; intro v3 w3 ho3 hq3; (have hb3 : Below w.heap.size w w3 := (hbel.alloc hbs _).trans hq3))
        go_ret
        exact ⟨_, rfl, by rw [ht.out]; exact ho3, hb3⟩
      · have ht := Lib.hid (show ins id l = P by rw [HR.out]; simp)
        go_wp2
        go_ret
        exact ⟨_, rfl, by rw [ht.out]; exact hown, hbel⟩
def sameW (n1 : Int) (a : List Int) (n2 : Int) (b : List Int) : Bool := n1 == n2 && decide (a = b)
set_option maxRecDepth 100000 in
set_option maxHeartbeats 400000 in
theorem refSame_any (n1 n2 : Int) (l l' : List Int) (A A' : Option Addr) (c c' B : Nat) (w : World) (h : VW w B n1 l A c) (h' : VW w B n2 l' A' c') (hB : B ≤ w.heap.size) :
    Calls Try.prog 26 #[vwV n1 A l.length c, vwV n2 A' l'.length c'] w (PB w (sameW n1 l n2 l')) := by
  have hb0 := ((Below.refl w.heap.size w).alloc (Nat.le_refl _) (.cells #[.int .i64 n1, .slice A l.length c] 31)).alloc (by simp) (.cells #[.int .i64 n2, .slice A' l'.length c'] 31)
  have HS := Lib.hid (fun W (hW : Below w.heap.size w W) => refSameInts_any A A' c c' w.heap.size w.heap.size l l' W ((h.rd.more hB).below hW) ((h'.rd.more hB).below hW) h.l40 h'.l40)
  dsimp only [vwV] at *
  clear h h'
  by_cases hn : n1 = n2
  · have fn : (n1 == n2) = true := beqT hn
    have ht := Lib.hid (show sameW n1 l n2 l' = decide (l = l') by simp [sameW, fn])
    clear hn
    go_enter Try.func26, Try.ntmps26
    go_wp2_with (go_at_call 50; (with_reducible refine (HS.out _ hb0).mono ?_); rintro e w1 ⟨rfl, q, rfl⟩)
    all_goals
      go_ret
      exact ⟨by rw [ht.out]; first | rfl | simp_all, below_drewN' hb0 _⟩
  · have fn : (n1 == n2) = false := beqF hn
    have ht := Lib.hid (show sameW n1 l n2 l' = false by simp [sameW, fn])
    clear hn HS
    go_enter Try.func26, Try.ntmps26
    go_wp2_with fail
    go_ret
    exact ⟨retB' ht.out, hb0⟩
end Go.Proofs.Yteiolhbjgfkdeaa.V
