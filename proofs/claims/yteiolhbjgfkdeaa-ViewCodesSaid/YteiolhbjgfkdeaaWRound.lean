/- The walk of WireRoundTrip: it returns true, whatever comes in. -/
import Derived.Test.YteiolhbjgfkdeaaWSmall
namespace Go.Proofs.Yteiolhbjgfkdeaa.W
set_option linter.unusedVariables false
open Go.RowKit
open Go.Lib (byteCells byteCells_length byteCells_append byteCells_snoc)

theorem sameV_refl (v : GV) : sameV v v = true := by simp [sameV]
def box (v : GV) (I L : Option Addr) (ci cl : Nat) : Array Value := #[.int .i64 v.kind, .int .i64 v.n, .string ⟨v.s.toArray⟩, .slice I v.i.length ci, .slice L v.l.length cl]
/- YES -/

theorem bstep {a b c : World} (h : Below a.heap.size a b) (hq : Below b.heap.size b c) : Below a.heap.size a c := h.trans (hq.mono h.size)
theorem int_at {A : Option Addr} {c B n : Nat} {bs : List UInt8} {w : World} (hr : Reads w B 1 A n (byteCells bs)) (hn : bs.length ≤ 1099511627776) (v : Int) (k e : Nat) (h : rdI bs = (v, k, e)) :
    Calls Try.prog 63 #[.slice A n c] w fun e' w' => e' = .returned (.tuple #[.int .i64 v, .int .i64 k, .int .i64 e]) ∧ w = w' := by
  obtain rfl := hr.len
  have h1 := int_any A c B bs w hr hn
  rw [h] at h1
  exact h1
theorem uint_at' {A : Option Addr} {c B n : Nat} {bs : List UInt8} {w : World} (hr : Reads w B 1 A n (byteCells bs)) (hn : bs.length ≤ 1099511627776) (v k e : Nat) (h : rdU bs = (v, k, e)) :
    Calls Try.prog 53 #[.slice A n c] w fun e' w' => e' = .returned (.tuple #[.int .u64 v, .int .i64 k, .int .i64 e]) ∧ w = w' := by
  obtain rfl := hr.len
  have h1 := uint_any A c B bs w hr hn
  rw [h] at h1
  exact h1
theorem appendUint_at {A : Option Addr} {c n x : Nat} {bs : List UInt8} {w : World} (hr : Reads w w.heap.size 1 A n (byteCells bs)) (hl : bs.length ≤ 1099511627776) (hx : x < 18446744073709551616) (m : Nat) (hm : (bs ++ enU x).length = m) :
    Calls Try.prog 58 #[.slice A n c, .int .u64 x] w (OwnS w.heap.size w (bs ++ enU x) m) := by
  obtain rfl := hr.len
  exact (AppendUint_any A c bs x w hr hl hx).mono fun _ _ h => h.to _ m rfl hm
/-- How long the encoding of a small value can be. -/
theorem enIs_len {l : List Int} (h : ∀ x ∈ l, In64 x) : (l.flatMap enI).length ≤ 10 * l.length := by
  induction l with
  | nil => simp
  | cons x l ih =>
    have := ih (fun y hy => h y (by simp [hy]))
    have := enI_len (h x (by simp))
    rw [List.flatMap_cons, List.length_append, List.length_cons]; omega
theorem enSs_len {l : List (List UInt8)} (h : ∀ s ∈ l, s.length ≤ 64) : (l.flatMap enS).length ≤ 74 * l.length := by
  induction l with
  | nil => simp
  | cons x l ih =>
    have := ih (fun y hy => h y (by simp [hy]))
    have h1 := h x (by simp)
    have := enU_len (x := x.length) (by omega)
    have : (enS x).length = (enU x.length).length + x.length := List.length_append
    rw [List.flatMap_cons, List.length_append, List.length_cons]; omega
theorem enV_small {v : GV} (h : v.ok = true) (hi : ∀ x ∈ v.i, In64 x) (hn : In64 v.n) : (enV v).length ≤ 2000 := by
  obtain ⟨k, n, s, i, l⟩ := v
  dsimp only at hi hn
  rcases (GV.ok_iff _).1 h with h | h | h | h | h | h <;> dsimp only at h
  · obtain ⟨rfl, rfl, rfl, rfl, rfl⟩ := h; simp [enV]
  · obtain ⟨rfl, rfl, rfl, rfl⟩ := h
    have := enI_len hn
    simp [enV]; omega
  · obtain ⟨rfl, _, rfl, rfl, rfl⟩ := h; simp [enV]
  · obtain ⟨rfl, hs, rfl, rfl, rfl⟩ := h
    have := enU_len (x := s.length) (by omega)
    simp [enV, enS]; omega
  · obtain ⟨rfl, hl, rfl, rfl, rfl⟩ := h
    have := enU_len (x := i.length) (by omega)
    have := enIs_len hi
    have e : (enV ⟨4, 0, [], i, []⟩).length = 1 + ((enU i.length).length + (i.flatMap enI).length) := by
      show (_ :: (enU i.length ++ i.flatMap enI)).length = _
      rw [List.length_cons, List.length_append]; omega
    omega
  · obtain ⟨rfl, hl, ht, rfl, rfl, rfl⟩ := h
    have := enU_len (x := l.length) (by omega)
    have := enSs_len (tooL_no ht)
    have e : (enV ⟨5, 0, [], [], l⟩).length = 1 + ((enU l.length).length + (l.flatMap enS).length) := by
      show (_ :: (enU l.length ++ l.flatMap enS)).length = _
      rw [List.length_cons, List.length_append]; omega
    omega
end Go.Proofs.Yteiolhbjgfkdeaa.W
