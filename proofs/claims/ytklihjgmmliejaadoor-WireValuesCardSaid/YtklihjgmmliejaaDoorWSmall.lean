/- Small. -/
import Derived.Test.YtklihjgmmliejaaDoorWSame
namespace Go.Proofs.YtklihjgmmliejaaDoor.W
set_option linter.unusedVariables false
open Go.RowKit
open Go.Lib (byteCells byteCells_length byteCells_append byteCells_snoc)

theorem retB {a b : Bool} (h : b = a) : Ending.returned (.bool a) = Ending.returned (.bool b) := by rw [h]
def bigL (l : List (List UInt8)) : Bool := l.any fun s => decide (200 < s.length)
def smallV (v : GV) : Bool := decide (v.s.length ≤ 500) && decide (v.i.length ≤ 100) && decide (v.l.length ≤ 100) && !(bigL v.l)

/-- A value as it comes in: of whatever size. -/
structure GVraw (w : World) (B : Nat) (v : GV) (I L : Option Addr) (ci cl : Nat) : Prop where
  ri : Reads w B 1 I v.i.length (v.i.map intV)
  rl : Reads w B 1 L v.l.length (v.l.map strV)
  hci : v.i.length ≤ ci
  hcl : v.l.length ≤ cl
  k64 : In64 v.kind
  n64 : In64 v.n
  i64 : ∀ x ∈ v.i, In64 x
  s40 : v.s.length ≤ 9223372036854775807
  i40 : v.i.length ≤ 9223372036854775807
  l40 : v.l.length ≤ 9223372036854775807
  e40 : ∀ s ∈ v.l, s.length ≤ 9223372036854775807
theorem GVraw.below {w W : World} {B : Nat} {v : GV} {I L : Option Addr} {ci cl : Nat} (h : GVraw w B v I L ci cl) (hb : Below B w W) : GVraw W B v I L ci cl :=
  { h with ri := h.ri.below hb, rl := h.rl.below hb }
theorem GVraw.arg {w : World} {B : Nat} {v : GV} {I L : Option Addr} {ci cl : Nat} (h : GVraw w B v I L ci cl) (hs : smallV v = true) : GVarg w B v I L ci cl := by
  simp only [smallV, Bool.and_eq_true, decide_eq_true_eq, Bool.not_eq_true', bigL, List.any_eq_false] at hs
  obtain ⟨⟨⟨h1, h2⟩, h3⟩, h4⟩ := hs
  exact { ri := h.ri, rl := h.rl, hci := h.hci, hcl := h.hcl, k64 := h.k64, n64 := h.n64, i64 := h.i64, s40 := by omega, i40 := by omega, l40 := by omega,
          e40 := fun s hs => by have := h4 s hs; simp at this; omega }
theorem Blk.box5 {W : World} {g : Nat} {t : TypeId} {a b c d e : Value} (h : Blk W g t #[a, b, c, d, e]) :
    W.cell? ⟨g, 0, none⟩ = some a ∧ W.cell? ⟨g, 1, none⟩ = some b ∧ W.cell? ⟨g, 2, none⟩ = some c ∧ W.cell? ⟨g, 3, none⟩ = some d ∧ W.cell? ⟨g, 4, none⟩ = some e :=
  ⟨h.cell 0, h.cell 1, h.cell 2, h.cell 3, h.cell 4⟩
theorem Blk.step {w w1 w2 : World} {g : Nat} {t : TypeId} {cs : Array Value} (hB : Blk w1 g t cs) (hb : Below w.heap.size w w1) (hq : Below w1.heap.size w1 w2) : Below w.heap.size w w2 ∧ Blk w2 g t cs :=
  ⟨hb.trans (hq.mono hb.size), hB.below hq hB.lt⟩

set_option maxRecDepth 100000 in
set_option maxHeartbeats 1000000 in
theorem small_any (v : GV) (I L : Option Addr) (ci cl B : Nat) (w : World) (h : GVraw w B v I L ci cl) (hB : B ≤ w.heap.size) :
    Calls Tryd.prog 38 #[gvV v I L ci cl] w fun e w' => e = .returned (.bool (smallV v)) ∧ Below w.heap.size w w' := by
  have hb0 := Below.refl w.heap.size w
  have hrl := (h.rl.more hB).alloc (Nat.le_refl _) (.cells #[.int .i64 v.kind, .int .i64 v.n, .string ⟨v.s.toArray⟩, .slice I v.i.length ci, .slice L v.l.length cl] 55)
  have s40 := h.s40
  have i40 := h.i40
  have l40 := h.l40
  have e40 := Lib.hid h.e40
  obtain ⟨k, n, s, i, l⟩ := v
  dsimp only [gvV, strV] at *
  clear h
  by_cases h1 : 500 < s.length
  · have hr := Lib.hid (show smallV ⟨k, n, s, i, l⟩ = false by simp [smallV]; omega)
    have h1' : (500 : Int) < (s.length : Int) := by omega
    go_enter Tryd.func38, Tryd.ntmps38
    go_wp2_with fail
    go_ret
    exact ⟨retB hr.out, hb0.alloc (Nat.le_refl _) _⟩
  by_cases h2 : 100 < i.length
  · have hr := Lib.hid (show smallV ⟨k, n, s, i, l⟩ = false by simp [smallV]; omega)
    have h1' : ¬ (500 : Int) < (s.length : Int) := by omega
    have h2' : (100 : Int) < (i.length : Int) := by omega
    go_enter Tryd.func38, Tryd.ntmps38
    go_wp2_with fail
    go_ret
    exact ⟨retB hr.out, hb0.alloc (Nat.le_refl _) _⟩
  by_cases h3 : 100 < l.length
  · have hr := Lib.hid (show smallV ⟨k, n, s, i, l⟩ = false by simp [smallV]; omega)
    have h1' : ¬ (500 : Int) < (s.length : Int) := by omega
    have h2' : ¬ (100 : Int) < (i.length : Int) := by omega
    have h3' : (100 : Int) < (l.length : Int) := by omega
    go_enter Tryd.func38, Tryd.ntmps38
    go_wp2_with fail
    go_ret
    exact ⟨retB hr.out, hb0.alloc (Nat.le_refl _) _⟩
  have HS := Lib.hid (show smallV ⟨k, n, s, i, l⟩ = !(bigL l) by
    have e1 : decide (s.length ≤ 500) = true := by simp; omega
    have e2 : decide (i.length ≤ 100) = true := by simp; omega
    have e3 : decide (l.length ≤ 100) = true := by simp; omega
    simp [smallV, e1, e2, e3])
  have h1' : ¬ (500 : Int) < (s.length : Int) := by omega
  have h2' : ¬ (100 : Int) < (i.length : Int) := by omega
  have h3' : ¬ (100 : Int) < (l.length : Int) := by omega
  clear h1 h2 h3
  go_enter Tryd.func38, Tryd.ntmps38
  go_wp2_with fail
  go_loop [3] (fun j => ∃ q : Nat, q ≤ l.length ∧ j = .int .i64 q ∧ bigL l = bigL (l.drop q)) (fun j => l.length - (intOf j).toNat)
  case atStart => exact ⟨0, Nat.zero_le _, rfl, rfl⟩
  case round =>
    obtain ⟨q, hq, rfl, hd⟩ := hrel
    by_cases hlt : q < l.length
    · obtain ⟨ad, u, rfl, _, hx, hcell⟩ := hrl.at_ hlt
      have hux : u = .string ⟨(l[q]).toArray⟩ := by simp [hlt, strV] at hx; exact hx.symm
      rw [hux] at hcell
      have hdk : l.drop q = l[q] :: l.drop (q + 1) := List.drop_eq_getElem_cons hlt
      have hxs := e40.out l[q] (List.getElem_mem hlt)
      generalize l[q] = x at *
      rw [hdk] at hd
      have HD := Lib.hid hd
      clear hd hdk hx hux
      have hlt2 : (q : Int) < (l.length : Int) := by omega
      by_cases hb : 200 < x.length
      · have ht := Lib.hid (show bigL l = true by rw [HD.out]; simp [bigL, hb])
        have hb2 : (200 : Int) < (x.length : Int) := by omega
        go_wp2_with fail
        go_ret
        exact ⟨retB (HS.out.trans (by rw [ht.out]; rfl)), hb0.alloc (Nat.le_refl _) _⟩
      · have ht := Lib.hid (show bigL l = bigL (l.drop (q + 1)) by rw [HD.out]; simp [bigL, hb])
        have hb2 : ¬ (200 : Int) < (x.length : Int) := by omega
        go_wp2_with fail
        go_round
        case rel => exact ⟨q + 1, by omega, by go_num, ht.out⟩
        case measure => simp [intOf]; omega
    · have ht := Lib.hid (show bigL l = false by rw [hd, List.drop_eq_nil_of_le (by omega)]; rfl)
      clear hd
      have hlt2 : ¬ (q : Int) < (l.length : Int) := by omega
      go_wp2
      go_ret
      exact ⟨retB (HS.out.trans (by rw [ht.out]; rfl)), hb0.alloc (Nat.le_refl _) _⟩
end Go.Proofs.YtklihjgmmliejaaDoor.W
