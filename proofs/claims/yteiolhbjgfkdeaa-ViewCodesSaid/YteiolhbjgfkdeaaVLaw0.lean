/- Layer 3: what the walks share. -/
import Derived.Test.YteiolhbjgfkdeaaVAwake
namespace Go.Proofs.Yteiolhbjgfkdeaa.V
set_option linter.unusedVariables false
open Go.RowKit
open Go.Proofs.Yteiolhbjgfkdeaa.W

/-- A list as it comes in: of whatever size. -/
structure LR (w : World) (B : Nat) (l : List Int) (A : Option Addr) (c : Nat) : Prop where
  rd : Reads w B 1 A l.length (l.map intV)
  l63 : l.length ≤ 9223372036854775807
  el : ∀ x ∈ l, In64 x
  cap : l.length ≤ c
theorem LR.ls {w : World} {B : Nat} {l : List Int} {A : Option Addr} {c : Nat} (h : LR w B l A c) (hs : l.length ≤ 100) : LS w B l A c := ⟨h.rd, by omega, h.el, h.cap⟩
theorem LR.up {w W : World} {l : List Int} {A : Option Addr} {c : Nat} (h : LR w w.heap.size l A c) (hq : Below w.heap.size w W) : LR W W.heap.size l A c := { h with rd := (h.rd.below hq).more hq.size }
theorem LR.new {w : World} {l : List Int} {A : Option Addr} {c : Nat} (h : LR w w.heap.size l A c) (o : Obj) : LR (w.alloc o) (w.alloc o).heap.size l A c := h.up ((Below.refl _ _).alloc (Nat.le_refl _) o)
/-- Small, of two rows and of three. -/
theorem sl_lit (W : World) (cs : Array Value) (l : List (Option Addr × Nat × Nat)) (n : Nat) (h : cs.toList = l.map slV) (hn : l.length = n) :
    Reads (W.alloc (.cells cs 22)) (W.alloc (.cells cs 22)).heap.size 1 (some ⟨W.heap.size, 0, none⟩) n (l.map slV) := by
  subst hn
  refine ⟨by simp, fun _ => ⟨_, rfl, by simp, fun j u hu => ?_⟩⟩
  have e : (⟨W.heap.size, 0, none⟩ : Addr).add j = ⟨W.heap.size, j, none⟩ := by unfold Addr.add; split <;> simp_all
  rw [e, World.cell?_alloc_mark W cs 22 (0, 0) j, ← hu, ← h]
  simp
theorem small2_at (W : World) (A C : Option Addr) (n m c d : Nat) (h1 : n ≤ 9223372036854775807) (h2 : m ≤ 9223372036854775807) (b : Bool) (hb : (decide (n ≤ 100) && decide (m ≤ 100)) = b) :
    Calls Try.prog 11 #[.slice (some ⟨W.heap.size, 0, none⟩) 2 2] (W.alloc (.cells #[.slice A n c, .slice C m d] 22)) fun e w' => e = .returned (.bool b) ∧ W.alloc (.cells #[.slice A n c, .slice C m d] 22) = w' := by
  subst hb
  have h := small3_any (some ⟨W.heap.size, 0, none⟩) 2 _ [(A, n, c), (C, m, d)] _ (sl_lit W #[.slice A n c, .slice C m d] [(A, n, c), (C, m, d)] 2 rfl rfl) (by simp) (by simp [h1, h2])
  simpa [smallB] using h
theorem small3_at (W : World) (A C E : Option Addr) (n m k c d f : Nat) (h1 : n ≤ 9223372036854775807) (h2 : m ≤ 9223372036854775807) (h3 : k ≤ 9223372036854775807) (b : Bool) (hb : (decide (n ≤ 100) && (decide (m ≤ 100) && decide (k ≤ 100))) = b) :
    Calls Try.prog 11 #[.slice (some ⟨W.heap.size, 0, none⟩) 3 3] (W.alloc (.cells #[.slice A n c, .slice C m d, .slice E k f] 22)) fun e w' => e = .returned (.bool b) ∧ W.alloc (.cells #[.slice A n c, .slice C m d, .slice E k f] 22) = w' := by
  subst hb
  have h := small3_any (some ⟨W.heap.size, 0, none⟩) 3 _ [(A, n, c), (C, m, d), (E, k, f)] _ (sl_lit W #[.slice A n c, .slice C m d, .slice E k f] [(A, n, c), (C, m, d), (E, k, f)] 3 rfl rfl) (by simp) (by simp [h1, h2, h3])
  simpa [smallB] using h
theorem small1_at (W : World) (A : Option Addr) (n c : Nat) (h1 : n ≤ 9223372036854775807) (b : Bool) (hb : decide (n ≤ 100) = b) :
    Calls Try.prog 11 #[.slice (some ⟨W.heap.size, 0, none⟩) 1 1] (W.alloc (.cells #[.slice A n c] 22)) fun e w' => e = .returned (.bool b) ∧ W.alloc (.cells #[.slice A n c] 22) = w' := by
  subst hb
  have h := small3_any (some ⟨W.heap.size, 0, none⟩) 1 _ [(A, n, c)] _ (sl_lit W #[.slice A n c] [(A, n, c)] 1 rfl rfl) (by simp) (by simp [h1])
  simpa [smallB] using h
theorem in_ids {l : List Int} (h : IDs l) : ∀ x ∈ l, In64 x := fun x hx => by have := h x hx; exact ⟨by omega, by omega⟩
end Go.Proofs.Yteiolhbjgfkdeaa.V
