/- awake: the checks on fixed values all hold. -/
import Derived.Test.YteiolhbjgfkdeaaWLaw0
import Derived.Lib.SlBytesConst
namespace Go.Proofs.Yteiolhbjgfkdeaa.W
set_option linter.unusedVariables false
open Go.RowKit
open Go.Lib (byteCells byteCells_length byteCells_append byteCells_snoc)

theorem uint_at {A : Option Addr} {c B n : Nat} {bs : List UInt8} {w : World} (hr : Reads w B 1 A n (byteCells bs)) (hn : bs.length ≤ 1099511627776) (v k e : Int) (h : ((rdU bs).1 : Int) = v ∧ ((rdU bs).2.1 : Int) = k ∧ ((rdU bs).2.2 : Int) = e) :
    Calls Try.prog 53 #[.slice A n c] w fun e' w' => e' = .returned (.tuple #[.int .u64 v, .int .i64 k, .int .i64 e]) ∧ w = w' := by
  obtain rfl := hr.len
  obtain ⟨rfl, rfl, rfl⟩ := h
  exact uint_any A c B bs w hr hn
/-- An encoder's result, written out. -/
def OwnS (base : Nat) (w : World) (l : List UInt8) (n : Nat) (en : Ending) (w' : World) : Prop :=
  ∃ A c, en = .returned (.slice A n c) ∧ n ≤ c ∧ w'.ownsRow base 5 1 (.slice A n c) n (byteCells l) ∧ Reads w' w'.heap.size 1 A n (byteCells l) ∧ Below base w w'
theorem OwnPost.to {base : Nat} {w : World} {l : List UInt8} {en : Ending} {w' : World} (h : OwnPost base w l en w') (l' : List UInt8) (n : Nat) (hl : l = l') (hn : l'.length = n) : OwnS base w l' n en w' := by
  subst hl hn
  obtain ⟨v, rfl, ho, hb⟩ := h
  obtain ⟨A, c, hv, hc, hr⟩ := SliceOf.of_own (base := base) (e := 5) (by rw [byteCells_length]; exact ho)
  rw [byteCells_length] at hv hc hr
  subst hv
  exact ⟨A, c, rfl, hc, ho, hr, hb⟩
/-- wire.Value's result, written out. -/
def ValS (w : World) (v : GV) (i l : Nat) (n err : Int) (en : Ending) (w' : World) : Prop :=
  ∃ I ci L cl, en = .returned (.tuple #[.agg #[.int .i64 v.kind, .int .i64 v.n, .string ⟨v.s.toArray⟩, .slice I i ci, .slice L l cl], .int .i64 n, .int .i64 err]) ∧ i ≤ ci ∧ l ≤ cl ∧ Reads w' w'.heap.size 1 I i (v.i.map intV) ∧ Reads w' w'.heap.size 1 L l (v.l.map strV) ∧ Below w.heap.size w w'
theorem ValPost.to {w : World} {v : GV} {n err : Nat} {en : Ending} {w' : World} (h : ValPost w v n err en w') (v' : GV) (i l : Nat) (ni ei : Int) (hv : v = v') (hi : v'.i.length = i) (hl : v'.l.length = l) (hn : (n : Int) = ni) (he : (err : Int) = ei) : ValS w v' i l ni ei en w' := by
  subst hv hi hl hn he
  obtain ⟨vi, vl, rfl, ⟨I, ci, rfl, h1, h2⟩, ⟨L, cl, rfl, h3, h4⟩, hb⟩ := h
  rw [List.length_map] at h1 h2 h3 h4
  exact ⟨I, ci, L, cl, by rw [List.length_map, List.length_map]; rfl, h1, h3, h2, h4, hb⟩
def OpenS (w : World) (k : Int) (l : List UInt8) (m : Nat) (n err : Int) (en : Ending) (w' : World) : Prop :=
  ∃ A c, en = .returned (.tuple #[.int .i64 k, .slice A m c, .int .i64 n, .int .i64 err]) ∧ m ≤ c ∧ Reads w' w'.heap.size 1 A m (byteCells l) ∧ Below w.heap.size w w'
theorem OpenPost.to {w : World} {k : Int} {l : List UInt8} {n err : Nat} {en : Ending} {w' : World} (h : OpenPost w k l n err en w') (k' : Int) (l' : List UInt8) (m : Nat) (ni ei : Int) (hk : k = k') (hl : l = l') (hm : l'.length = m) (hn : (n : Int) = ni) (he : (err : Int) = ei) : OpenS w k' l' m ni ei en w' := by
  subst hk hl hm hn he
  obtain ⟨A, c, rfl, hc, ho, hb⟩ := h
  refine ⟨A, c, rfl, hc, ?_, hb⟩
  have := Reads.of_own (A := A) (n := l.length) (c := c) ho
  exact this
def SealS (w : World) (l : List UInt8) (m : Nat) (err : Int) (en : Ending) (w' : World) : Prop :=
  ∃ A c, en = .returned (.tuple #[.slice A m c, .int .i64 err]) ∧ m ≤ c ∧ w'.ownsRow w.heap.size 5 1 (.slice A m c) m (byteCells l) ∧ Reads w' w'.heap.size 1 A m (byteCells l) ∧ Below w.heap.size w w'
theorem SealPost.to {w : World} {l : List UInt8} {err : Nat} {en : Ending} {w' : World} (h : SealPost w l err en w') (l' : List UInt8) (m : Nat) (ei : Int) (hl : l = l') (hm : l'.length = m) (he : (err : Int) = ei) : SealS w l' m ei en w' := by
  subst hl hm he
  obtain ⟨A, c, rfl, hc, ho, hb⟩ := h
  exact ⟨A, c, rfl, hc, ho, Reads.of_own ho, hb⟩
theorem ev1 : ((rdU [172, 2, 9]).1 : Int) = 300 ∧ ((rdU [172, 2, 9]).2.1 : Int) = 2 ∧ ((rdU [172, 2, 9]).2.2 : Int) = 0 := by decide
theorem ev2 : ((rdU [128, 0]).1 : Int) = 0 ∧ ((rdU [128, 0]).2.1 : Int) = 0 ∧ ((rdU [128, 0]).2.2 : Int) = 3 := by decide
theorem ev3 : [] ++ enS [97, 98] = [2, 97, 98] := by simp [enS, enU, Go.Lib.uvarint_small]
theorem ev4 : (rdS [2, 97, 98] 2).1 = [97, 98] ∧ ((rdS [2, 97, 98] 2).2.1 : Int) = 3 ∧ ((rdS [2, 97, 98] 2).2.2 : Int) = 0 := by decide
theorem ev5 : [] ++ enV ⟨5, 0, [], [], [[113]]⟩ = [5, 1, 1, 113] := by simp [enV, enSs, enS, enU, Go.Lib.uvarint_small]
theorem ev6 : rdV [5, 1, 1, 113] = (⟨5, 0, [], [], [[113]]⟩, 4, 0) := by rfl
theorem ev7 : sealB 7 [98, 111, 100, 121] = [65, 71, 7, 4, 98, 111, 100, 121] := by simp [sealB, enU, Go.Lib.uvarint_small]
theorem ev8 : crc [49, 50, 51, 52, 53, 54, 55, 56, 57] = 3421780262#32 := by decide +kernel
theorem ev9 : [5] ++ enI (-1) = [5, 1] := by simp [enI, Go.Lib.zigzag, Go.Lib.uvarint_small]
theorem reads_new' (W : World) (cs : Array Value) (bs : List UInt8) (n : Nat) (h : cs.toList = byteCells bs) (hn : bs.length = n) : Reads (W.alloc (.cells cs 5)) (W.heap.size + 1) 1 (some ⟨W.heap.size, 0, none⟩) n (byteCells bs) := hn ▸ reads_new W cs bs h
theorem reads_mark (W : World) (g : Nat) (hg : g = W.heap.size) (cs : Array Value) (fr : Nat × Nat) (bs : List UInt8) (n : Nat) (h : cs.toList = byteCells bs) (hn : bs.length = n) : Reads (W.alloc (.cells cs 5 fr)) (W.alloc (.cells cs 5 fr)).heap.size 1 (some ⟨g, 0, none⟩) n (byteCells bs) := by
  subst hg hn
  refine ⟨by rw [byteCells_length, Nat.mul_one], fun _ => ⟨_, rfl, by simp, fun j u hu => ?_⟩⟩
  have e : (⟨W.heap.size, 0, none⟩ : Addr).add j = ⟨W.heap.size, j, none⟩ := by unfold Addr.add; split <;> simp_all
  rw [e, World.cell?_alloc_mark W cs 5 fr j, ← hu, ← h]
  simp
theorem reads_str (W : World) (q : List UInt8) : Reads (W.alloc (.cells #[strV q] 9)) (W.heap.size + 1) 1 (some ⟨W.heap.size, 0, none⟩) 1 [strV q] := by
  refine ⟨rfl, fun _ => ⟨_, rfl, Nat.lt_succ_self _, fun j u hu => ?_⟩⟩
  match j, hu with
  | 0, hu => simp at hu; subst hu; have := cell_new1 W 9 (strV q); simp [Addr.add]
def body4 : List UInt8 := [98, 111, 100, 121]
def head8 : List UInt8 := [65, 71, 7, 4, 98, 111, 100, 121]
def frame12 : List UInt8 := head8 ++ low4 (crc head8)
theorem ev10 : rdSeal 7 body4 = (frame12, 0) := by
  unfold rdSeal body4
  rw [if_neg (by decide), ev7]; rfl
theorem ev11 : rdOpen frame12 = (7, body4, 12, 0) := by
  have h := rdOpen_back (k := 7) (body := body4) (by decide) (by decide) (by decide) []
  unfold body4 at h ⊢
  rw [ev7, List.append_nil] at h
  exact h
def gvQ : GV := ⟨5, 0, [], [], [[113]]⟩
theorem arg_q (W : World) (g : Nat) (hg : g = W.heap.size) : GVarg (W.alloc (.cells #[strV [113]] 9)) (W.alloc (.cells #[strV [113]] 9)).heap.size gvQ none (some ⟨g, 0, none⟩) 0 1 := by
  subst hg
  refine ⟨Reads.none_, (reads_str W [113]).more (by simp), Nat.le_refl _, Nat.le_refl _, ⟨by decide, by decide⟩, ⟨by decide, by decide⟩, by simp [gvQ], by decide, by decide, by decide, ?_⟩
  intro s hs
  simp [gvQ] at hs
  subst hs
  decide
end Go.Proofs.Yteiolhbjgfkdeaa.W
