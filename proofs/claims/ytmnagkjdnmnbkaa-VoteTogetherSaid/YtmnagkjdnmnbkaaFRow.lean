/- Rows of ballots: each has a list of its own. -/
import Derived.Test.YtmnagkjdnmnbkaaFSpec
import Derived.BigQuiet
import Derived.Deep.RegionHeld3
import Derived.Deep.RegionLawGrows
namespace Go.Proofs.Ytmnagkjdnmnbkaa.Fv
set_option linter.unusedVariables false
open Go.RowKit
open Go.Proofs.Ytmnagkjdnmnbkaa.W
open Go.Proofs.Ytmnagkjdnmnbkaa.V

theorem below2 {w a b : World} (h : Below w.heap.size w a) (q : Below a.heap.size a b) : Below w.heap.size w b := h.trans (q.mono h.size)
theorem bdrew {w w' : World} (h : Below w.drew.heap.size w.drew w') : Below w.heap.size w w' := ⟨h.os, h.tape, h.output, h.size, h.block⟩
theorem add_pos {a : Addr} {j : Nat} (h : 0 < j) : a.add j = ⟨a.block, a.off + j, none⟩ := by unfold Addr.add; rw [if_neg (by omega)]
/-- A ballot as it lies in memory. -/
structure Pbl where
  mem : Int
  ptr : Option Addr
  cap : Nat
  cut : List Int
def Pbl.bal (p : Pbl) : Bal := ⟨p.mem, p.cut⟩
def balC (p : Pbl) : List Value := [.int .i64 p.mem, .slice p.ptr p.cut.length p.cap]
def balsC (ps : List Pbl) : List Value := ps.flatMap balC
theorem len_balsC (es : List Pbl) : (balsC es).length = es.length * 2 := by
  induction es with
  | nil => rfl
  | cons e t ih => show (balC e ++ balsC t).length = _; rw [List.length_append, ih]; simp [balC]; omega
theorem balsC_app (a b : List Pbl) : balsC (a ++ b) = balsC a ++ balsC b := by unfold balsC; rw [List.flatMap_append]
theorem balsC_one (e : Pbl) : balsC [e] = balC e := by unfold balsC; simp
theorem balsC_get {es : List Pbl} {k j : Nat} {e : Pbl} (h : es[k]? = some e) (hj : j < 2) : (balsC es)[k * 2 + j]? = (balC e)[j]? := by
  induction es generalizing k with
  | nil => cases h
  | cons x t ih =>
    show (balC x ++ balsC t)[k * 2 + j]? = _
    cases k with
    | zero =>
      simp at h
      subst h
      rw [List.getElem?_append_left (by simp [balC]; omega)]
      simp
    | succ k =>
      rw [List.getElem?_append_right (by simp [balC]; omega)]
      rw [show (k + 1) * 2 + j - (balC x).length = k * 2 + j by simp [balC]; omega]
      exact ih (by simpa using h)
theorem balsC_cell (es : List Pbl) : ∀ u ∈ balsC es, u.oneCell' = true := by
  intro u hu
  obtain ⟨e, _, he⟩ := List.mem_flatMap.1 hu
  unfold balC at he
  simp at he
  rcases he with rfl | rfl <;> rfl
theorem balInfo : (Try.prog.info? 27).map (fun i => (i.zero, i.size, i.bytes)) = some (some (.agg #[.int .i64 0, .slice none 0 0]), 2, 32) := by kernel_rfl
/-- The list of a ballot can be read. -/
structure PG (w : World) (B : Nat) (p : Pbl) : Prop where
  ls : LS w B p.cut p.ptr p.cap
  m64 : In64 p.mem
theorem PG.below {w W : World} {B : Nat} {p : Pbl} (h : PG w B p) (hb : Below B w W) : PG W B p := ⟨h.ls.below hb, h.m64⟩
theorem PG.more {w : World} {B B' : Nat} {p : Pbl} (h : PG w B p) (hb : B ≤ B') : PG w B' p := ⟨h.ls.more hb, h.m64⟩
theorem PG.step {w W : World} {p : Pbl} (h : PG w w.heap.size p) (hb : Below w.heap.size w W) : PG W W.heap.size p := (h.below hb).more hb.size
/-- A box that came in. -/
structure BS (w : World) (B : Nat) (s : List Pbl) (A : Option Addr) (c : Nat) : Prop where
  rd : Reads w B 2 A s.length (balsC s)
  l40 : s.length ≤ 1099511627776
  el : ∀ p ∈ s, PG w B p
  cap : s.length ≤ c
theorem BS.below {w W : World} {B : Nat} {s : List Pbl} {A : Option Addr} {c : Nat} (h : BS w B s A c) (hb : Below B w W) : BS W B s A c := ⟨h.rd.below hb, h.l40, fun p hp => (h.el p hp).below hb, h.cap⟩
theorem BS.more {w : World} {B B' : Nat} {s : List Pbl} {A : Option Addr} {c : Nat} (h : BS w B s A c) (hb : B ≤ B') : BS w B' s A c := ⟨h.rd.more hb, h.l40, fun p hp => (h.el p hp).more hb, h.cap⟩
theorem BS.step {w W : World} {s : List Pbl} {A : Option Addr} {c : Nat} (h : BS w w.heap.size s A c) (hb : Below w.heap.size w W) : BS W W.heap.size s A c := (h.below hb).more hb.size
theorem BS.nil {W : World} {B c : Nat} : BS W B [] none c := ⟨Reads.none_, by show 0 ≤ _; omega, fun x hx => (by cases hx), Nat.zero_le _⟩
/-- The cells of an element. -/
theorem bal_at {w : World} {B n : Nat} {A : Option Addr} {es : List Pbl} {k : Nat} {x : Pbl} (h : Reads w B 2 A n (balsC es)) (hx : es[k]? = some x) :
    ∃ ad, A = some ad ∧ ad.block < B ∧ (ad.add (k * 2)).block = ad.block ∧ w.cell? (ad.add (k * 2)) = some (.int .i64 x.mem) ∧ w.cell? ⟨(ad.add (k * 2)).block, (ad.add (k * 2)).off + 1, none⟩ = some (.slice x.ptr x.cut.length x.cap) := by
  have hl := h.1
  rw [len_balsC] at hl
  have hk := (List.getElem?_eq_some_iff.1 hx).1
  obtain ⟨ad, hA, hb, hc⟩ := h.2 (by omega)
  have hj : ∀ j, 0 < j → j < 2 → w.cell? ⟨(ad.add (k * 2)).block, (ad.add (k * 2)).off + j, none⟩ = (balC x)[j]? := fun j h0 h4 => by
    rw [← add_pos h0, add_of_add]
    have h1 := balsC_get (j := j) hx h4
    cases hu : (balsC es)[k * 2 + j]? with
    | none =>
      exfalso
      rw [List.getElem?_eq_none_iff, len_balsC] at hu
      omega
    | some u => rw [hc _ _ hu, ← h1, hu]
  exact ⟨ad, hA, hb, block_of_add _ _, hc _ _ (balsC_get (j := 0) hx (by omega)), hj 1 (by omega) (by omega)⟩
theorem bal_at2 {w : World} {B n : Nat} {ad : Addr} {es : List Pbl} {k : Nat} {x : Pbl} (h : Reads w B 2 (some ad) n (balsC es)) (hx : es[k]? = some x) :
    w.cell? (ad.add (k * 2)) = some (.int .i64 x.mem) ∧ w.cell? ⟨(ad.add (k * 2)).block, (ad.add (k * 2)).off + 1, none⟩ = some (.slice x.ptr x.cut.length x.cap) := by
  obtain ⟨ad', e, _, _, h1, h2⟩ := bal_at h hx
  cases e
  exact ⟨h1, h2⟩
/-- One ballot appended to a row of the call's own. -/
theorem step_append_bal {ops : Array Oper} {o : Oper} {a : Act} {K : Act → World → Prop} {Q : Exit → Act → World → Prop} {E : Prop} (W : World) (hgd : o.guard = none) (s x : Operand)
    (ho : o.op = .call { callee := .builtin .append, args := #[s, x], argTypes := #[25, 25] }) (base : Nat) (v : Value) (es : List Pbl) (e : Pbl) (B c : Nat) (A : Option Addr) (hs : a.eval s = v)
    (hown : W.ownsRow base 27 2 v es.length (balsC es)) (hx : a.eval x = .slice A 1 c) (hr : Reads W B 2 A 1 (balC e))
    (hl : es.length ≤ 1099511627775) (hbase : base ≤ W.heap.size)
    (h : ∀ v' w', w'.ownsRow base 27 2 v' (es ++ [e]).length (balsC (es ++ [e])) → Below base W w' → K (a.put o.dst v') w') :
    if Region.wanted o (yielded ops a.tmps) = true then Oper.wp Try.prog o a W K Q else E := by
  obtain ⟨i0, hi, hz0, hz1, hz2⟩ := info_parts balInfo
  refine step_append_any W hgd s x 25 ho base 27 i0 _ 2 32 Try.underlying25 hi hz0 hz1 hz2 rfl (by decide) v _ _ hs hown B A 1 c _ hx hr (by rw [← balsC_one]; exact balsC_cell _) ?_ ?_ hbase ?_
  · unfold maxLen; omega
  · omega
  · intro v' w' h1 h2 _
    refine h v' w' ?_ ((Below.refl _ _).grown h2 hbase fun q hq => (hown.lt q hq).1)
    rw [balsC_app, balsC_one, List.length_append]
    exact h1
theorem wp_append_bal {ops : Array Oper} {rest : List Oper} {o : Oper} {a : Act} {Q : Exit → Act → World → Prop} (W : World) (hgd : o.guard = none) (s x : Operand)
    (ho : o.op = .call { callee := .builtin .append, args := #[s, x], argTypes := #[25, 25] }) (base : Nat) (v : Value) (es : List Pbl) (e : Pbl) (B c : Nat) (A : Option Addr) (hs : a.eval s = v)
    (hown : W.ownsRow base 27 2 v es.length (balsC es)) (hx : a.eval x = .slice A 1 c) (hr : Reads W B 2 A 1 (balC e))
    (hl : es.length ≤ 1099511627775) (hbase : base ≤ W.heap.size)
    (h : ∀ v' w', w'.ownsRow base 27 2 v' (es ++ [e]).length (balsC (es ++ [e])) → Below base W w' → wpList Try.prog ops Q rest (a.put o.dst v') w') : wpList Try.prog ops Q (o :: rest) a W := by
  obtain ⟨i0, hi, hz0, hz1, hz2⟩ := info_parts balInfo
  refine wpList_append_any W hgd s x 25 ho base 27 i0 _ 2 32 Try.underlying25 hi hz0 hz1 hz2 rfl (by decide) v _ _ hs hown B A 1 c _ hx hr (by rw [← balsC_one]; exact balsC_cell _) ?_ ?_ hbase ?_
  · unfold maxLen; omega
  · omega
  · intro v' w' h1 h2 _
    refine h v' w' ?_ ((Below.refl _ _).grown h2 hbase fun q hq => (hown.lt q hq).1)
    rw [balsC_app, balsC_one, List.length_append]
    exact h1
/-- A block read as a row of one element. -/
theorem reads_blk (w : World) (cs : Array Value) (t : TypeId) : Reads (w.alloc (.cells cs t)) (w.heap.size + 1) cs.size (some ⟨w.heap.size, 0, none⟩) 1 cs.toList := by
  refine ⟨by simp, fun _ => ⟨_, rfl, Nat.lt_succ_self _, fun j u hu => ?_⟩⟩
  have hb := (Blk.new w t cs).cell j
  have hadd : (⟨w.heap.size, 0, none⟩ : Addr).add j = ⟨w.heap.size, j, none⟩ := by unfold Addr.add; split <;> simp_all
  rw [hadd, hb, ← hu]
  simp
theorem two_blk (w : World) (t t' : TypeId) (x y : Array Value) : Blk ((w.alloc (.cells x t)).alloc (.cells y t')) w.heap.size t x ∧ Blk ((w.alloc (.cells x t)).alloc (.cells y t')) (w.heap.size + 1) t' y := by
  refine ⟨(Blk.new w t x).alloc _, ?_⟩
  have h := Blk.new (w.alloc (.cells x t)) t' y
  rwa [show (w.alloc (.cells x t)).heap.size = w.heap.size + 1 by simp] at h
theorem boxes2 (w : World) (x y : Array Value) (t t' : TypeId) : Below w.heap.size w ((w.alloc (.cells x t)).alloc (.cells y t')) := ((Below.refl w.heap.size w).alloc (Nat.le_refl _) _).alloc (by simp) _
theorem own_openB {W : World} {B : Nat} {v : Value} {s : List Pbl} (h : W.ownsRow B 27 2 v s.length (balsC s)) : ∃ A c, v = .slice A s.length c ∧ s.length ≤ c ∧ Reads W W.heap.size 2 A s.length (balsC s) := by
  rcases h.2 with ⟨rfl, h0⟩ | ⟨g, cap, cur, rfl, _, _, h1, _⟩
  · have : s = [] := List.eq_nil_of_length_eq_zero h0
    subst this
    exact ⟨none, 0, rfl, Nat.le_refl _, Reads.none_⟩
  · exact ⟨_, cap, rfl, h1, Reads.of_own h⟩
theorem BS.of_own {W : World} {B : Nat} {v : Value} {s : List Pbl} (h : W.ownsRow B 27 2 v s.length (balsC s)) (hl : s.length ≤ 1099511627776) (hel : ∀ p ∈ s, PG W W.heap.size p) : ∃ A c, v = .slice A s.length c ∧ BS W W.heap.size s A c := by
  obtain ⟨A, c, rfl, h1, h2⟩ := own_openB h
  exact ⟨A, c, rfl, h2, hl, hel, h1⟩
/-- What comes back: a box with an error; a list with a word. -/
def OutBx (w : World) (R : List Bal) (n err : Nat) (e : Ending) (w' : World) : Prop := ∃ A c ps, e = .returned (.tuple #[.slice A n c, .int .i64 (err : Int)]) ∧ n = ps.length ∧ ps.map Pbl.bal = R ∧ BS w' w'.heap.size ps A c ∧ Below w.heap.size w w'
def OutWn (w : World) (R : List Int) (n : Nat) (b : Bool) (e : Ending) (w' : World) : Prop := ∃ A c, e = .returned (.tuple #[.slice A n c, .bool b]) ∧ n = R.length ∧ LS w' w'.heap.size R A c ∧ Below w.heap.size w w'
def OutNx (w : World) (num : Int) (k err : Nat) (e : Ending) (w' : World) : Prop := ∃ A c, e = .returned (.tuple #[.agg #[.int .i64 num, .slice A k c], .int .i64 (err : Int)]) ∧ Below w.heap.size w w'
theorem next_n {w w' : World} {r : (Int × List Int) × Nat} {e : Ending} (h : NextPost w r e w') (num : Int) (k err : Nat) (h1 : num = r.1.1) (h2 : k = r.1.2.length) (h3 : err = r.2) : OutNx w num k err e w' := by
  subst h1 h2 h3
  obtain ⟨A, c, h4, h5, h6, h7⟩ := h
  exact ⟨A, c, h4, h7⟩
end Go.Proofs.Ytmnagkjdnmnbkaa.Fv
