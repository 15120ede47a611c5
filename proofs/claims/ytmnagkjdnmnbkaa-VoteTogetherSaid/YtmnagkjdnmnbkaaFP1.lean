/- Package fastvote: Same (slices.Equal), applicable, compareMember (cmp.Compare), slices.Clone. -/
import Derived.Test.YtmnagkjdnmnbkaaFLaw0
import Derived.BigQuiet
import Derived.Deep.RegionHeld3
import Derived.Lib.SliceRun
namespace Go.Proofs.Ytmnagkjdnmnbkaa.Fv
set_option linter.unusedVariables false
set_option linter.unusedSimpArgs false
open Go.RowKit
open Go.Proofs.Ytmnagkjdnmnbkaa.W
open Go.Proofs.Ytmnagkjdnmnbkaa.V

set_option maxRecDepth 100000 in
set_option maxHeartbeats 2000000 in
theorem eqInts_any (A A' : Option Addr) (c c' B B' : Nat) (xs ys : List Int) (w : World) (ha : Reads w B 1 A xs.length (xs.map intV)) (hb : Reads w B' 1 A' ys.length (ys.map intV)) (hl : xs.length ≤ 1099511627776) (hl' : ys.length ≤ 1099511627776) :
    Calls Try.prog 35 #[.slice A xs.length c, .slice A' ys.length c'] w fun e w' => e = .returned (.bool (decide (xs = ys))) ∧ ∃ k, w' = w.drewN k := by
  by_cases hlen : xs.length = ys.length
  · have hz : ((xs.length : Int) != (ys.length : Int)) = false := bneF (by omega)
    have HL := Lib.hid hlen
    obtain ⟨n, hn⟩ : ∃ n, n = ys.length := ⟨_, rfl⟩
    rw [hlen] at ha hl hz ⊢
    rw [← hn] at ha hb hl hl' hz ⊢
    have HN := Lib.hid hn
    clear hlen hn
    go_enter Try.func35, Try.ntmps35
    go_wp2
    go_loopg [5, 13] n (fun gk _ s13 wr => ∃ k m : Nat, k + gk = n ∧ s13 = .int .i64 k ∧ wr = w.drewN m ∧ Hid (xs.take k = ys.take k))
    case atStart => exact ⟨0, 0, by omega, rfl, rfl, (show xs.take 0 = ys.take 0 by simp)⟩
    case round =>
      obtain ⟨k, m, hk, rfl, rfl, HTK⟩ := hrel
      cases gk with
      | succ gi =>
        have hlt : k < n := by omega
        obtain ⟨ad, u, rfl, _, hx, hc⟩ := ha.at_ hlt
        obtain ⟨bd, u', rfl, _, hx', hc'⟩ := hb.at_ hlt
        obtain ⟨x, hxk⟩ : ∃ x, xs[k]? = some x := ⟨_, List.getElem?_eq_getElem (by have := HL.out; have := HN.out; omega)⟩
        obtain ⟨y, hyk⟩ : ∃ y, ys[k]? = some y := ⟨_, List.getElem?_eq_getElem (by have := HN.out; omega)⟩
        have e1 : u = intV x := by simp [hxk] at hx; exact hx.symm
        have e2 : u' = intV y := by simp [hyk] at hx'; exact hx'.symm
        rw [e1] at hc
        rw [e2] at hc'
        have HXK := Lib.hid hxk
        have HYK := Lib.hid hyk
        have hlt2 : (k : Int) < (n : Int) := by omega
        clear e1 e2 hx hx' hxk hyk
        dsimp only [intV] at hc hc'
        by_cases hxy : x = y
        · subst hxy
          have HT2 := Lib.hid (take_eq_of HTK.out HXK.out HYK.out rfl)
          go_wp2_with fail
          go_quiet (fail)
          go_wp2_with fail
          go_roundg gi
          case measure => omega
          case rel => exact ⟨k + 1, _, by omega, by go_num, rfl, HT2.out⟩
        · have hz2 : (x != y) = true := bneT hxy
          have HNE := Lib.hid (ne_of_get HXK.out HYK.out hxy)
          have hd := Lib.hid (show decide (xs = ys) = false by simpa using HNE.out)
          clear hxy
          go_wp2_with fail
          go_quiet (fail)
          go_wp2_with fail
          go_ret
          rw [hd.out]
          exact ⟨rfl, _, World.drewN_drewN _ _ _⟩
      | zero =>
        have hlt2 : ¬ (k : Int) < (n : Int) := by omega
        have hd := Lib.hid (show decide (xs = ys) = true by
          have h1 := HL.out
          have h2 := HN.out
          have h3 := HTK.out
          rw [List.take_of_length_le (by omega), List.take_of_length_le (by omega)] at h3
          simpa using h3)
        go_wp2
        go_ret
        rw [hd.out]
        exact ⟨rfl, _, rfl⟩
  · have hz : ((xs.length : Int) != (ys.length : Int)) = true := bneT (by omega)
    have hd := Lib.hid (show decide (xs = ys) = false by
      rw [decide_eq_false_iff_not]; intro h; exact hlen (by rw [h]))
    clear hlen
    go_enter Try.func35, Try.ntmps35
    go_wp2
    go_ret
    rw [hd.out]
    exact ⟨rfl, 0, rfl⟩
set_option maxRecDepth 100000 in
set_option maxHeartbeats 2000000 in
theorem fvSame_any (A A' : Option Addr) (c c' B B' n m : Nat) (xs ys : List Int) (w : World) (hn : n = xs.length) (hm : m = ys.length) (ha : Reads w B 1 A n (xs.map intV)) (hb : Reads w B' 1 A' m (ys.map intV)) (hl : n ≤ 1099511627776) (hl' : m ≤ 1099511627776) :
    Calls Try.prog 14 #[.slice A n c, .slice A' m c'] w fun e w' => e = .returned (.bool (decide (xs = ys))) ∧ ∃ k, w' = w.drewN k := by
  have K := Lib.hid (show Calls Try.prog 35 #[.slice A n c, .slice A' m c'] w (fun e w' => e = .returned (.bool (decide (xs = ys))) ∧ ∃ k, w' = w.drewN k) by
    subst hn hm
    exact eqInts_any A A' c c' B B' xs ys w ha hb hl hl')
  clear ha hb hn hm
  generalize decide (xs = ys) = t at *
  go_enter Try.func14, Try.ntmps14
  go_wp2_with (go_at_call 35; (with_reducible refine K.out.mono ?_); rintro e w1 ⟨rfl, q, rfl⟩)
  go_ret
  exact ⟨rfl, q, rfl⟩

set_option maxRecDepth 1000000 in
set_option maxHeartbeats 4000000 in
theorem fvApplicable_any (num : Int) (l q : List Int) (A C : Option Addr) (c d B : Nat) (w : World) (h : VW w B num l A c) (h' : LS w B q C d) (hB : B ≤ w.heap.size) :
    Calls Try.prog 24 #[.agg #[.int .i64 num, .slice A l.length c], .slice C q.length d] w (PB w (applF num l q)) := by
  have hb0 := (Below.refl w.heap.size w).alloc (Nat.le_refl _) (.cells #[.int .i64 num, .slice A l.length c] 24)
  have hz := Blk.new w 24 #[.int .i64 num, .slice A l.length c]
  have KN := Lib.hid (fun W (hW : Below w.heap.size w W) => viewNext_any num l q A C c d w.heap.size W ((h.more hB).below hW) ((h'.more hB).below hW) hW.size)
  dsimp only [vwV] at KN
  unfold applF
  obtain ⟨⟨⟨nn, nl⟩, er⟩, hnx⟩ : ∃ r, next num l q = r := ⟨_, rfl⟩
  have KX := Lib.hid (fun W (hW : Below w.heap.size w W) => (KN.out W hW).mono fun _ _ h => next_n h nn nl.length er (by rw [hnx]) (by rw [hnx]) (by rw [hnx]))
  rw [hnx]
  have B0 := Lib.hid hb0
  have Z1 := Lib.hid hz
  clear hb0 hz KN h h' hnx
  generalize l.length = n at *
  generalize q.length = m at *
  generalize nl.length = k at *
  show Calls Try.prog 24 _ w (PB w (decide (er = 0)))
  have he : ((er : Int) == 0) = decide (er = 0) := by by_cases h : er = 0 <;> simp [h]
  go_enter Try.func24, Try.ntmps24
  go_upto_region 1 with fail
  generalize w.alloc (.cells #[.int .i64 num, .slice A n c] 24) = w0 at *
  have p0 := blk2 Z1.out
  go_wp2_with (first
    | (go_at_call 40; (with_reducible refine (KX.out _ B0.out).mono ?_); rintro e w4 ⟨A4, c4, rfl, q4⟩)
    | fail)
  go_ret
  exact ⟨by rw [← he]; rfl, below2 B0.out (q4.alloc q4.size _)⟩

/-- What cmp.Compare gives of two ints. -/
def cmpI (x y : Int) : Int := if x < y then -1 else if y < x then 1 else 0
theorem cmpI_lt {x y : Int} : cmpI x y < 0 ↔ x < y := by unfold cmpI; split <;> (try split) <;> simp_all <;> omega
theorem cmpI_eq {x y : Int} : cmpI x y = 0 ↔ x = y := by unfold cmpI; split <;> (try split) <;> simp_all <;> omega
set_option maxRecDepth 1000000 in
set_option maxHeartbeats 2000000 in
theorem cmpI_any (x y : Int) (w : World) : Calls Try.prog 42 #[.int .i64 x, .int .i64 y] w fun e w' => e = .returned (.int .i64 (cmpI x y)) ∧ w = w' := by
  have HT := Lib.hid (show cmpI x y = if x < y then -1 else if y < x then 1 else 0 from rfl)
  generalize cmpI x y = t at *
  rcases Int.lt_trichotomy x y with h | h | h
  · have ht := Lib.hid (show t = -1 by rw [HT.out, if_pos h])
    clear HT
    go_enter Try.func42, Try.ntmps42
    go_wp2_with (go_in)
    go_ret
    exact ⟨by rw [ht.out]; rfl, rfl⟩
  · have ht := Lib.hid (show t = 0 by rw [HT.out]; simp [h])
    subst h
    clear HT
    go_enter Try.func42, Try.ntmps42
    go_wp2_with (go_in)
    go_ret
    exact ⟨by rw [ht.out]; rfl, rfl⟩
  · have h2 : ¬ x < y := by omega
    have ht := Lib.hid (show t = 1 by rw [HT.out, if_neg h2, if_pos h])
    clear HT
    go_enter Try.func42, Try.ntmps42
    go_wp2_with (go_in)
    go_ret
    exact ⟨by rw [ht.out]; rfl, rfl⟩
set_option maxRecDepth 1000000 in
set_option maxHeartbeats 2000000 in
theorem cmpM_any (xm m : Int) (xp : Option Addr) (xn xc : Nat) (w : World) :
    Calls Try.prog 27 #[.agg #[.int .i64 xm, .slice xp xn xc], .int .i64 m] w fun e w' => e = .returned (.int .i64 (cmpI xm m)) ∧ Below w.heap.size w w' := by
  have HB := Lib.hid ((Below.refl w.heap.size w).alloc (Nat.le_refl _) (.cells #[.int .i64 xm, .slice xp xn xc] 27))
  have Z := Lib.hid (Blk.new w 27 #[.int .i64 xm, .slice xp xn xc])
  have KC := Lib.hid (fun W => cmpI_any xm m W)
  generalize cmpI xm m = t at *
  go_enter Try.func27, Try.ntmps27
  go_upto_region 1 with fail
  generalize w.alloc (.cells #[.int .i64 xm, .slice xp xn xc] 27) = w0 at *
  have p0 := blk2 Z.out
  go_wp2_with (go_at_call 42; (with_reducible refine (KC.out _).mono ?_); rintro e w1 ⟨rfl, rfl⟩)
  go_ret
  exact ⟨rfl, HB.out⟩

/-- Integers appended to a row of the call's own, wherever they lie. -/
theorem wp_append_intsO {ops : Array Oper} {rest : List Oper} {o : Oper} {a : Act} {Q : Exit → Act → World → Prop} (W : World) (hgd : o.guard = none) (s x : Operand)
    (ho : o.op = .call { callee := .builtin .append, args := #[s, x], argTypes := #[22, 22] }) (base : Nat) (v : Value) (l news : List Int) (B m c : Nat) (A : Option Addr) (hs : a.eval s = v)
    (hown : W.ownsRow base 3 1 v l.length (l.map intV)) (hx : a.eval x = .slice A m c) (hr : Reads W B 1 A m (news.map intV)) (hl : l.length + news.length ≤ 1099511627776) (hbase : base ≤ W.heap.size)
    (h : ∀ v' w', w'.ownsRow base 3 1 v' (l ++ news).length ((l ++ news).map intV) → Below base W w' → wpList Try.prog ops Q rest (a.put o.dst v') w') : wpList Try.prog ops Q (o :: rest) a W := by
  refine wp_append_tri W hgd s x ho base v (.slice none 0 0) (.slice none 0 0) l [] [] news B m c A hs ⟨hown, World.ownsRow_nil _ _ _ _, World.ownsRow_nil _ _ _ _, ?_, ?_, .inl rfl⟩ hx hr hl hbase fun v' w' ht hb => h v' w' ht.o1 hb
  · exact (Apt.symm (.inl rfl))
  · exact (Apt.symm (.inl rfl))
/-- A copy of a list that is not empty: a list that can be read. -/
def OutLS (w : World) (l : List Int) (n : Nat) (e : Ending) (w' : World) : Prop := ∃ A c, e = .returned (.slice A n c) ∧ LS w' w'.heap.size l A c ∧ (∀ ad, A = some ad → w.heap.size ≤ ad.block) ∧ Below w.heap.size w w'
theorem own_openI {W : World} {B : Nat} {v : Value} {l : List Int} (h : W.ownsRow B 3 1 v l.length (l.map intV)) : ∃ A c, v = .slice A l.length c ∧ l.length ≤ c ∧ Reads W W.heap.size 1 A l.length (l.map intV) ∧ ∀ ad, A = some ad → B ≤ ad.block := by
  rcases h.2 with ⟨rfl, h0⟩ | ⟨g, cap, cur, rfl, hg, _, h1, _⟩
  · have : l = [] := List.eq_nil_of_length_eq_zero h0
    subst this
    exact ⟨none, 0, rfl, Nat.le_refl _, Reads.none_, fun ad e => by cases e⟩
  · exact ⟨_, cap, rfl, h1, Reads.of_own h, fun ad e => by cases e; exact hg⟩
set_option maxRecDepth 1000000 in
set_option maxHeartbeats 2000000 in
theorem clone_any (L : Option Addr) (c B n : Nat) (l : List Int) (w : World) (hn : n = l.length) (h : LS w B l L c) (hB : B ≤ w.heap.size) (h1 : 1 ≤ n) :
    Calls Try.prog 29 #[.slice L n c] w (OutLS w l n) := by
  obtain ⟨ad, u, rfl, _, _, _⟩ := h.rd.at_ (k := 0) (by omega)
  have HR := Lib.hid (fun o => (h.rd.more hB).below ((Below.refl w.heap.size w).alloc (Nat.le_refl _) o))
  have hl40 := h.l40
  have HI := Lib.hid h.el
  have HN := Lib.hid hn
  rw [← hn] at HR hl40
  clear h hn
  have q22 : ∀ (W : World) (a : Option Addr) (n c n' c' : Nat), (binOp .eql 22 (.slice a n c) (.slice none n' c')).run Try.prog W = .ok (.bool a.isNone) W := fun W a n c n' c' => Lib.run_eql_slice_nil W _ _ a n c n' c' Try.underlying22
  go_enter Try.func29, Try.ntmps29
  go_wp2_with (at_builtin; go_loud (refine wp_append_intsO _ rfl (.tmp 5) (.tmp 6) rfl w.heap.size _ [] l _ _ _ _ rfl (World.ownsRow_made w #[] 0 (Nat.le_refl _) (by decide) rfl) rfl (HR.out _) (by have := HN.out; simp; omega) (by simp) ?_; intro v2 w2 ho2 hb2))
  go_ret
  obtain ⟨A2, c2, e2, h3, h2, h5⟩ := own_openI (l := l) ho2
  exact ⟨A2, c2, by rw [e2, HN.out]; rfl, ⟨h2, by rw [← HN.out]; exact hl40, HI.out, h3⟩, h5, ((Below.refl w.heap.size w).alloc (Nat.le_refl _) _).trans hb2⟩
end Go.Proofs.Ytmnagkjdnmnbkaa.Fv
