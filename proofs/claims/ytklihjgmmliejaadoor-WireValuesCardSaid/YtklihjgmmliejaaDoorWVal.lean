/- wire.Value. -/
import Derived.Test.YtklihjgmmliejaaDoorWList
namespace Go.Proofs.YtklihjgmmliejaaDoor.W
set_option linter.unusedVariables false
open Go.RowKit
open Go.Lib (byteCells byteCells_length unzigzag)

/-- v is a slice that reads as the cells xs. -/
def SliceOf (w : World) (v : Value) (xs : List Value) : Prop := ∃ A c, v = .slice A xs.length c ∧ xs.length ≤ c ∧ Reads w w.heap.size 1 A xs.length xs
theorem SliceOf.nil_ (w : World) : SliceOf w (.slice none 0 0) [] := ⟨none, 0, rfl, Nat.le_refl _, Reads.none_⟩
theorem SliceOf.of_own {w : World} {base : Nat} {e : TypeId} {v : Value} {xs : List Value} (h : w.ownsRow base e 1 v xs.length xs) : SliceOf w v xs := by
  rcases h.2 with ⟨rfl, h0⟩ | ⟨g, cap, cur, rfl, _, _, hc, _⟩
  · obtain rfl := List.eq_nil_of_length_eq_zero h0
    exact SliceOf.nil_ w
  · exact ⟨_, _, rfl, hc, Reads.of_own h⟩
theorem SliceOf.below {w w' : World} {v : Value} {xs : List Value} (h : SliceOf w v xs) (hb : Below w.heap.size w w') : SliceOf w' v xs := by
  obtain ⟨A, c, rfl, hc, hr⟩ := h
  exact ⟨A, c, rfl, hc, (hr.below hb).more hb.size⟩
/-- What 's[k:]' gives. -/
theorem slice_from {w : World} {B n c k : Nat} {ki : Int} {A : Option Addr} {bs : List UInt8} (h : Reads w B 1 A n (byteCells bs)) (hn : n ≤ c) (hk : k ≤ n) (hki : ki = (k : Int)) :
    ∃ A', (∀ (W : World), (Instr.slice 22 (.slice A n c) (some (.int .i64 ki)) none none).run Tryd.prog W = .ok (.slice A' (n - k) (c - k)) W) ∧ Reads w B 1 A' (n - k) (byteCells (bs.drop k)) := by
  subst hki
  refine ⟨if c = k then A else A.map (·.add (k * 1)), fun W => ?_, ?_⟩
  · rw [run_slice_l W 22 A n c (by simp [go_sem]) .i64 k (by omega) (by omega)]
    simp [go_sem]
  · have := h.cut hk hn
    simpa [byteCells] using this
theorem rdLoop_used {α : Type} {el : List UInt8 → α × Nat × Nat} (hel : ∀ b x j, el b = (x, j, 0) → j ≤ b.length) {b : List UInt8} : ∀ (k : Nat) (out : List α) (n : Nat) (l : List α) (m : Nat), n ≤ b.length → rdLoop el b k out n = (l, m, 0) → m ≤ b.length
  | 0, out, n, l, m, hn, h => by simp [rdLoop] at h; omega
  | k + 1, out, n, l, m, hn, h => by
    rw [rdLoop] at h
    split at h
    · rename_i he; simp at h; exact absurd h.2.2 he
    · rename_i he
      have := hel (b.drop n) (el (b.drop n)).1 (el (b.drop n)).2.1 (by
        have : (el (b.drop n)).2.2 = 0 := by omega
        rw [← this])
      exact rdLoop_used hel k _ _ l m (by simp at this; omega) h
theorem rdL_used {α : Type} {el : List UInt8 → α × Nat × Nat} (hel : ∀ b x j, el b = (x, j, 0) → j ≤ b.length) {b : List UInt8} {max : Int} {l : List α} {m : Nat} (h : rdL el b max = (l, m, 0)) : m ≤ b.length := by
  unfold rdL at h
  split at h
  · rename_i he; simp at h; exact absurd h.2.2 he
  · rename_i he
    have h0 : (rdLen b max).2.2 = 0 := by omega
    obtain ⟨g1, _, _⟩ := rdLen_ok (b := b) (max := max) (k := (rdLen b max).1) (n := (rdLen b max).2.1) (by rw [← h0])
    exact rdLoop_used hel _ _ _ l m (rdU_used g1).2.2.2 h
theorem rdIs_used {b : List UInt8} {max : Int} {l : List Int} {m : Nat} (h : rdIs b max = (l, m, 0)) : m ≤ b.length := rdL_used (fun _ _ _ h => (rdI_used h).2.2.2) h
theorem rdSs_used {b : List UInt8} {max : Int} {l : List (List UInt8)} {m : Nat} (h : rdSs b max = (l, m, 0)) : m ≤ b.length := rdL_used (fun _ _ _ h => (rdS_used h).2.2) h
theorem rdLoop_nil {α : Type} {el : List UInt8 → α × Nat × Nat} {b : List UInt8} : ∀ (k : Nat) (out : List α) (n : Nat) (l : List α) (m e : Nat), rdLoop el b k out n = (l, m, e) → e ≠ 0 → l = []
  | 0, out, n, l, m, e, h, he => by simp [rdLoop] at h; omega
  | k + 1, out, n, l, m, e, h, he => by
    rw [rdLoop] at h
    split at h
    · simp at h; exact h.1
    · exact rdLoop_nil k _ _ l m e h he
theorem rdL_nil {α : Type} {el : List UInt8 → α × Nat × Nat} {b : List UInt8} {max : Int} {l : List α} {m e : Nat} (h : rdL el b max = (l, m, e)) (he : e ≠ 0) : l = [] := by
  unfold rdL at h
  split at h
  · simp at h; exact h.1
  · exact rdLoop_nil _ _ _ l m e h he
theorem rdIs_nil {b : List UInt8} {max : Int} {l : List Int} {m e : Nat} (h : rdIs b max = (l, m, e)) (he : e ≠ 0) : l = [] := rdL_nil h he
theorem rdSs_nil {b : List UInt8} {max : Int} {l : List (List UInt8)} {m e : Nat} (h : rdSs b max = (l, m, e)) (he : e ≠ 0) : l = [] := rdL_nil h he
theorem below_set0 {B : Nat} {a w : World} (h : Below B a w) (j : Nat) (u : Value) : Below B a (w.setCell ⟨B, j, none⟩ u) := h.setCell (Nat.le_refl _) u
theorem own_set0 {B : Nat} {w : World} {e : TypeId} {size : Nat} {v : Value} {n : Nat} {xs : List Value} (h : w.ownsRow (B + 1) e size v n xs) (j : Nat) (u : Value) : (w.setCell ⟨B, j, none⟩ u).ownsRow (B + 1) e size v n xs :=
  ownsRow_setCell_below h (Nat.lt_succ_self _) u
def ListPost2 (w : World) (e : TypeId) (xs : List Value) (m : Nat) (n err : Nat) (en : Ending) (w' : World) : Prop :=
  ∃ A c, en = .returned (.tuple #[.slice A m c, .int .i64 n, .int .i64 err]) ∧ m = xs.length ∧ w'.ownsRow w.heap.size e 1 (.slice A m c) xs.length xs ∧ Below w.heap.size w w'
theorem ListPost.two {w : World} {e : TypeId} {xs : List Value} {m n err : Nat} {en : Ending} {w' : World} (h : ListPost w e xs n err en w') (hm : m = xs.length) : ListPost2 w e xs m n err en w' := by
  subst hm
  obtain ⟨v, rfl, hown, hb⟩ := h
  obtain ⟨A, c, rfl, hc, hr⟩ := SliceOf.of_own hown
  exact ⟨A, c, rfl, rfl, hown, hb⟩
/-- What wire.Value and its like leave. -/
def valV (v : GV) (vi vl : Value) : Value := .agg #[.int .i64 v.kind, .int .i64 v.n, strV v.s, vi, vl]
def ValPost (w : World) (v : GV) (n err : Nat) (en : Ending) (w' : World) : Prop :=
  ∃ vi vl, en = .returned (.tuple #[valV v vi vl, .int .i64 n, .int .i64 err]) ∧ SliceOf w' vi (v.i.map intV) ∧ SliceOf w' vl (v.l.map strV) ∧ Below w.heap.size w w'


set_option maxRecDepth 100000 in
set_option maxHeartbeats 1000000 in
theorem value_k1 (ad : Addr) (A' : Option Addr) (c n : Nat) (z : UInt8) (t : List UInt8) (w : World) (hc0 : w.cell? ad = some (.int .u8 (z.toNat : Int)))
    (hsl : ∀ (W : World), (Instr.slice 22 (.slice (some ad) n c) (some (.int .i64 1)) none none).run Tryd.prog W = .ok (.slice A' (n - 1) (c - 1)) W)
    (hrt : Reads w w.heap.size 1 A' (n - 1) (byteCells t)) (hcap : n ≤ c) (h1 : 1 ≤ n) (hn : n ≤ 1099511627776) (had : ad.block < w.heap.size) (hk : z.toNat = 1) :
    Calls Tryd.prog 39 #[.slice (some ad) n c] w (ValPost w (rdV (z :: t)).1 (rdV (z :: t)).2.1 (rdV (z :: t)).2.2) := by
  have hlb : ((n : Int) == 0) = false := beqF (by omega)
  have hl1 : (0 : Int) < (n : Int) := by omega
  have hb0 := (Below.refl w.heap.size w).alloc (Nat.le_refl _)
  have htl : t.length = n - 1 := by have := hrt.len; omega
  have HRV := Lib.hid (show rdV (z :: t) = if (rdVb z.toNat t).2.2 ≠ 0 then (zeroGV 0, 0, (rdVb z.toNat t).2.2) else ((rdVb z.toNat t).1, 1 + (rdVb z.toNat t).2.1, 0) from rfl)
  obtain ⟨⟨x, j, e⟩, hx⟩ : ∃ r, rdI t = r := ⟨_, rfl⟩
  have hcall := fun W (h : Below w.heap.size w W) => int_any A' (c - 1) w.heap.size t W (htl ▸ hrt.below h) (by omega)
  rw [htl, hx] at hcall
  have HC := Lib.hid hcall
  have hrb : rdVb z.toNat t = ({ zeroGV 1 with n := x }, j, e) := by rw [hk]; simp [rdVb, hx]
  by_cases he : e = 0
  · subst he
    have HR := Lib.hid (show rdV (z :: t) = ({ zeroGV 1 with n := x }, 1 + j, 0) by rw [HRV.out, hrb]; simp)
    have hj : j ≤ t.length := (rdI_used hx).2.2.2
    have HTL := Lib.hid htl
    have hj2 : j ≤ n := by omega
    clear hcall hrb hx htl
    go_enter Tryd.func39, Tryd.ntmps39
    go_wp2_with (go_at_call 16; refine (HC.out _ (hb0 _)).mono ?_; rintro e w' ⟨rfl, rfl⟩)
    refine bodyPost_ret (v := .tuple #[valV ({ zeroGV 1 with n := x }) (.slice none 0 0) (.slice none 0 0), .int .i64 (1 + (j : Int)), .int .i64 0]) (by simp [results, Tryd.results39, go_sem, valV, strV, zeroGV]) rfl ⟨.slice none 0 0, .slice none 0 0, ?_, ?_, ?_, ?_⟩
    · rw [HR.out]; rfl
    · rw [HR.out]; exact SliceOf.nil_ _
    · rw [HR.out]; exact SliceOf.nil_ _
    · exact hb0 _
  · have HR := Lib.hid (show rdV (z :: t) = (zeroGV 0, 0, e) by rw [HRV.out, hrb]; simp [he])
    have hb : ((e : Int) != 0) = true := bneT (by omega)
    clear hcall hrb hx htl he
    go_enter Tryd.func39, Tryd.ntmps39
    go_wp2_with (go_at_call 16; refine (HC.out _ (hb0 _)).mono ?_; rintro e w' ⟨rfl, rfl⟩)
    refine bodyPost_ret (v := .tuple #[valV (zeroGV 0) (.slice none 0 0) (.slice none 0 0), .int .i64 0, .int .i64 e]) (by simp [results, Tryd.results39, go_sem, valV, strV, zeroGV]) rfl ⟨.slice none 0 0, .slice none 0 0, ?_, ?_, ?_, ?_⟩
    · rw [HR.out]; rfl
    · rw [HR.out]; exact SliceOf.nil_ _
    · rw [HR.out]; exact SliceOf.nil_ _
    · exact hb0 _

set_option maxRecDepth 100000 in
set_option maxHeartbeats 1000000 in
theorem value_k2 (ad : Addr) (A' : Option Addr) (c n : Nat) (z : UInt8) (t : List UInt8) (w : World) (hc0 : w.cell? ad = some (.int .u8 (z.toNat : Int)))
    (hsl : ∀ (W : World), (Instr.slice 22 (.slice (some ad) n c) (some (.int .i64 1)) none none).run Tryd.prog W = .ok (.slice A' (n - 1) (c - 1)) W)
    (hrt : Reads w w.heap.size 1 A' (n - 1) (byteCells t)) (hcap : n ≤ c) (h1 : 1 ≤ n) (hn : n ≤ 1099511627776) (had : ad.block < w.heap.size) (hk : z.toNat = 2) :
    Calls Tryd.prog 39 #[.slice (some ad) n c] w (ValPost w (rdV (z :: t)).1 (rdV (z :: t)).2.1 (rdV (z :: t)).2.2) := by
  have hlb : ((n : Int) == 0) = false := beqF (by omega)
  have hl1 : (0 : Int) < (n : Int) := by omega
  have hb0 := (Below.refl w.heap.size w).alloc (Nat.le_refl _)
  have htl : t.length = n - 1 := by have := hrt.len; omega
  have HRV := Lib.hid (show rdV (z :: t) = if (rdVb z.toNat t).2.2 ≠ 0 then (zeroGV 0, 0, (rdVb z.toNat t).2.2) else ((rdVb z.toNat t).1, 1 + (rdVb z.toNat t).2.1, 0) from rfl)
  obtain ⟨⟨x, j, e⟩, hx⟩ : ∃ r, rdB t = r := ⟨_, rfl⟩
  have hcall := fun W (h : Below w.heap.size w W) => truth_any A' (c - 1) w.heap.size t W (htl ▸ hrt.below h) (by omega)
  rw [htl, hx] at hcall
  have HC := Lib.hid hcall
  have hrb : rdVb z.toNat t = ({ zeroGV 2 with n := x }, j, e) := by rw [hk]; simp [rdVb, hx]
  by_cases he : e = 0
  · subst he
    have HR := Lib.hid (show rdV (z :: t) = ({ zeroGV 2 with n := x }, 1 + j, 0) by rw [HRV.out, hrb]; simp)
    have hj : j ≤ t.length := by cases t with | nil => simp [rdB] at hx | cons a b => simp [rdB] at hx; split at hx <;> simp_all
    have HTL := Lib.hid htl
    have hj2 : j ≤ n := by omega
    clear hcall hrb hx htl
    go_enter Tryd.func39, Tryd.ntmps39
    go_wp2_with (go_at_call 63; refine (HC.out _ (hb0 _)).mono ?_; rintro e w' ⟨rfl, rfl⟩)
    refine bodyPost_ret (v := .tuple #[valV ({ zeroGV 2 with n := x }) (.slice none 0 0) (.slice none 0 0), .int .i64 (1 + (j : Int)), .int .i64 0]) (by simp [results, Tryd.results39, go_sem, valV, strV, zeroGV]) rfl ⟨.slice none 0 0, .slice none 0 0, ?_, ?_, ?_, ?_⟩
    · rw [HR.out]; rfl
    · rw [HR.out]; exact SliceOf.nil_ _
    · rw [HR.out]; exact SliceOf.nil_ _
    · exact hb0 _
  · have HR := Lib.hid (show rdV (z :: t) = (zeroGV 0, 0, e) by rw [HRV.out, hrb]; simp [he])
    have hb : ((e : Int) != 0) = true := bneT (by omega)
    clear hcall hrb hx htl he
    go_enter Tryd.func39, Tryd.ntmps39
    go_wp2_with (go_at_call 63; refine (HC.out _ (hb0 _)).mono ?_; rintro e w' ⟨rfl, rfl⟩)
    refine bodyPost_ret (v := .tuple #[valV (zeroGV 0) (.slice none 0 0) (.slice none 0 0), .int .i64 0, .int .i64 e]) (by simp [results, Tryd.results39, go_sem, valV, strV, zeroGV]) rfl ⟨.slice none 0 0, .slice none 0 0, ?_, ?_, ?_, ?_⟩
    · rw [HR.out]; rfl
    · rw [HR.out]; exact SliceOf.nil_ _
    · rw [HR.out]; exact SliceOf.nil_ _
    · exact hb0 _

set_option maxRecDepth 100000 in
set_option maxHeartbeats 1000000 in
theorem value_k3 (ad : Addr) (A' : Option Addr) (c n : Nat) (z : UInt8) (t : List UInt8) (w : World) (hc0 : w.cell? ad = some (.int .u8 (z.toNat : Int)))
    (hsl : ∀ (W : World), (Instr.slice 22 (.slice (some ad) n c) (some (.int .i64 1)) none none).run Tryd.prog W = .ok (.slice A' (n - 1) (c - 1)) W)
    (hrt : Reads w w.heap.size 1 A' (n - 1) (byteCells t)) (hcap : n ≤ c) (h1 : 1 ≤ n) (hn : n ≤ 1099511627776) (had : ad.block < w.heap.size) (hk : z.toNat = 3) :
    Calls Tryd.prog 39 #[.slice (some ad) n c] w (ValPost w (rdV (z :: t)).1 (rdV (z :: t)).2.1 (rdV (z :: t)).2.2) := by
  have hlb : ((n : Int) == 0) = false := beqF (by omega)
  have hl1 : (0 : Int) < (n : Int) := by omega
  have hb0 := (Below.refl w.heap.size w).alloc (Nat.le_refl _)
  have htl : t.length = n - 1 := by have := hrt.len; omega
  have HRV := Lib.hid (show rdV (z :: t) = if (rdVb z.toNat t).2.2 ≠ 0 then (zeroGV 0, 0, (rdVb z.toNat t).2.2) else ((rdVb z.toNat t).1, 1 + (rdVb z.toNat t).2.1, 0) from rfl)
  obtain ⟨⟨x, j, e⟩, hx⟩ : ∃ r, rdS t 64 = r := ⟨_, rfl⟩
  have hcall := fun W (h : Below w.heap.size w W) => string_any A' (c - 1) w.heap.size t 64 W (htl ▸ hrt.below h) (by omega) (by omega) ⟨by omega, by omega⟩
  rw [htl, hx] at hcall
  have HC := Lib.hid hcall
  have hrb : rdVb z.toNat t = ({ zeroGV 3 with s := x }, j, e) := by rw [hk]; simp [rdVb, hx]
  by_cases he : e = 0
  · subst he
    have HR := Lib.hid (show rdV (z :: t) = ({ zeroGV 3 with s := x }, 1 + j, 0) by rw [HRV.out, hrb]; simp)
    have hj : j ≤ t.length := (rdS_used hx).2.2
    have HTL := Lib.hid htl
    have hj2 : j ≤ n := by omega
    clear hcall hrb hx htl
    go_enter Tryd.func39, Tryd.ntmps39
    go_wp2_with (go_at_call 24; refine (HC.out _ (hb0 _)).mono ?_; rintro e w' ⟨rfl, rfl⟩)
    refine bodyPost_ret (v := .tuple #[valV ({ zeroGV 3 with s := x }) (.slice none 0 0) (.slice none 0 0), .int .i64 (1 + (j : Int)), .int .i64 0]) (by simp [results, Tryd.results39, go_sem, valV, strV, zeroGV]) rfl ⟨.slice none 0 0, .slice none 0 0, ?_, ?_, ?_, ?_⟩
    · rw [HR.out]; rfl
    · rw [HR.out]; exact SliceOf.nil_ _
    · rw [HR.out]; exact SliceOf.nil_ _
    · exact hb0 _
  · have HR := Lib.hid (show rdV (z :: t) = (zeroGV 0, 0, e) by rw [HRV.out, hrb]; simp [he])
    have hb : ((e : Int) != 0) = true := bneT (by omega)
    clear hcall hrb hx htl he
    go_enter Tryd.func39, Tryd.ntmps39
    go_wp2_with (go_at_call 24; refine (HC.out _ (hb0 _)).mono ?_; rintro e w' ⟨rfl, rfl⟩)
    refine bodyPost_ret (v := .tuple #[valV (zeroGV 0) (.slice none 0 0) (.slice none 0 0), .int .i64 0, .int .i64 e]) (by simp [results, Tryd.results39, go_sem, valV, strV, zeroGV]) rfl ⟨.slice none 0 0, .slice none 0 0, ?_, ?_, ?_, ?_⟩
    · rw [HR.out]; rfl
    · rw [HR.out]; exact SliceOf.nil_ _
    · rw [HR.out]; exact SliceOf.nil_ _
    · exact hb0 _

set_option maxRecDepth 100000 in
set_option maxHeartbeats 1000000 in
theorem value_k4 (ad : Addr) (A' : Option Addr) (c n : Nat) (z : UInt8) (t : List UInt8) (w : World) (hc0 : w.cell? ad = some (.int .u8 (z.toNat : Int)))
    (hsl : ∀ (W : World), (Instr.slice 22 (.slice (some ad) n c) (some (.int .i64 1)) none none).run Tryd.prog W = .ok (.slice A' (n - 1) (c - 1)) W)
    (hrt : Reads w w.heap.size 1 A' (n - 1) (byteCells t)) (hcap : n ≤ c) (h1 : 1 ≤ n) (hn : n ≤ 1099511627776) (had : ad.block < w.heap.size) (hk : z.toNat = 4) :
    Calls Tryd.prog 39 #[.slice (some ad) n c] w (ValPost w (rdV (z :: t)).1 (rdV (z :: t)).2.1 (rdV (z :: t)).2.2) := by
  have hlb : ((n : Int) == 0) = false := beqF (by omega)
  have hl1 : (0 : Int) < (n : Int) := by omega
  have hb0 := (Below.refl w.heap.size w).alloc (Nat.le_refl _)
  have htl : t.length = n - 1 := by have := hrt.len; omega
  have HRV := Lib.hid (show rdV (z :: t) = if (rdVb z.toNat t).2.2 ≠ 0 then (zeroGV 0, 0, (rdVb z.toNat t).2.2) else ((rdVb z.toNat t).1, 1 + (rdVb z.toNat t).2.1, 0) from rfl)
  obtain ⟨⟨x, j, e⟩, hx⟩ : ∃ r, rdIs t 16 = r := ⟨_, rfl⟩
  have hcall := fun W (h : Below w.heap.size w W) => (IntList_any A' (c - 1) t 16 W (htl ▸ (hrt.below h).more h.size) (by omega) (by omega) ⟨by omega, by omega⟩).mono fun _ _ h => h.two (m := (rdIs t 16).1.length) (by simp)
  rw [htl, hx] at hcall
  have HC := Lib.hid hcall
  have hrb : rdVb z.toNat t = ({ zeroGV 4 with i := x }, j, e) := by rw [hk]; simp [rdVb, hx]
  by_cases he : e = 0
  · subst he
    have HR := Lib.hid (show rdV (z :: t) = ({ zeroGV 4 with i := x }, 1 + j, 0) by rw [HRV.out, hrb]; simp)
    have hj : j ≤ t.length := rdIs_used hx
    have HTL := Lib.hid htl
    have hj2 : j ≤ n := by omega
    clear hcall hrb hx htl
    go_enter Tryd.func39, Tryd.ntmps39
    go_wp2_with (go_at_call 26; refine (HC.out _ (hb0 _)).mono ?_; rintro e w1 ⟨A2, c2, rfl, hm2, hown, hbel⟩; have HM2 := Lib.hid hm2; clear hm2; have hB := (Blk.new w 55 _).below hbel (by simp); have q0 : w1.cell? ⟨w.heap.size, 0, none⟩ = some (.int .i64 4) := hB.cell 0; have q1 : w1.cell? ⟨w.heap.size, 1, none⟩ = some (.int .i64 0) := hB.cell 1; have q2 : w1.cell? ⟨w.heap.size, 2, none⟩ = some (.string ⟨#[]⟩) := hB.cell 2; have q3 : w1.cell? ⟨w.heap.size, 3, none⟩ = some (.slice none 0 0) := hB.cell 3; have q4 : w1.cell? ⟨w.heap.size, 4, none⟩ = some (.slice none 0 0) := hB.cell 4; have f0 := hB.frozen 0; have f1 := hB.frozen 1; have f2 := hB.frozen 2; have f3 := hB.frozen 3; have f4 := hB.frozen 4; have hsz := hB.lt)
    have hbw : Below w.heap.size w w1 := (hb0 _).trans (hbel.mono (by simp))
    have ho1 : w1.ownsRow (w.heap.size + 1) 3 1 (.slice A2 x.length c2) (x.map intV).length (x.map intV) := by simpa using hown
    refine bodyPost_ret (v := .tuple #[valV ({ zeroGV 4 with i := x }) (.slice A2 x.length c2) (.slice none 0 0), .int .i64 (1 + (j : Int)), .int .i64 0]) (by simp [results, Tryd.results39, go_sem, valV, strV, zeroGV, q0, q1, q2, q3, q4]) rfl ⟨.slice A2 x.length c2, .slice none 0 0, ?_, ?_, ?_, ?_⟩
    · rw [HR.out]; rfl
    · rw [HR.out]; exact SliceOf.of_own (base := w.heap.size + 1) (e := 3) (by ((repeat (with_reducible refine own_set0 ?_ _ _)); exact ho1))
    · rw [HR.out]; exact SliceOf.nil_ _
    · repeat (with_reducible refine below_set0 ?_ _ _)
      exact hbw
  · have HR := Lib.hid (show rdV (z :: t) = (zeroGV 0, 0, e) by rw [HRV.out, hrb]; simp [he])
    have hb : ((e : Int) != 0) = true := bneT (by omega)
    have hx0 : x = [] := by have := rdIs_nil hx he; exact this
    subst hx0
    clear hcall hrb hx htl he
    go_enter Tryd.func39, Tryd.ntmps39
    go_wp2_with (go_at_call 26; refine (HC.out _ (hb0 _)).mono ?_; rintro e w1 ⟨A2, c2, rfl, hm2, hown, hbel⟩; have HM2 := Lib.hid hm2; clear hm2; have hB := (Blk.new w 55 _).below hbel (by simp); have q0 : w1.cell? ⟨w.heap.size, 0, none⟩ = some (.int .i64 4) := hB.cell 0; have q1 : w1.cell? ⟨w.heap.size, 1, none⟩ = some (.int .i64 0) := hB.cell 1; have q2 : w1.cell? ⟨w.heap.size, 2, none⟩ = some (.string ⟨#[]⟩) := hB.cell 2; have q3 : w1.cell? ⟨w.heap.size, 3, none⟩ = some (.slice none 0 0) := hB.cell 3; have q4 : w1.cell? ⟨w.heap.size, 4, none⟩ = some (.slice none 0 0) := hB.cell 4; have f0 := hB.frozen 0; have f1 := hB.frozen 1; have f2 := hB.frozen 2; have f3 := hB.frozen 3; have f4 := hB.frozen 4; have hsz := hB.lt)
    have hbw : Below w.heap.size w w1 := (hb0 _).trans (hbel.mono (by simp))
    refine bodyPost_ret (v := .tuple #[valV (zeroGV 0) (.slice none 0 0) (.slice none 0 0), .int .i64 0, .int .i64 e]) (by simp [results, Tryd.results39, go_sem, valV, strV, zeroGV, q0, q1, q2, q3, q4]) rfl ⟨.slice none 0 0, .slice none 0 0, ?_, ?_, ?_, ?_⟩
    · rw [HR.out]; rfl
    · rw [HR.out]; exact SliceOf.nil_ _
    · rw [HR.out]; exact SliceOf.nil_ _
    · repeat (with_reducible refine below_set0 ?_ _ _)
      exact hbw

set_option maxRecDepth 100000 in
set_option maxHeartbeats 1000000 in
theorem value_k5 (ad : Addr) (A' : Option Addr) (c n : Nat) (z : UInt8) (t : List UInt8) (w : World) (hc0 : w.cell? ad = some (.int .u8 (z.toNat : Int)))
    (hsl : ∀ (W : World), (Instr.slice 22 (.slice (some ad) n c) (some (.int .i64 1)) none none).run Tryd.prog W = .ok (.slice A' (n - 1) (c - 1)) W)
    (hrt : Reads w w.heap.size 1 A' (n - 1) (byteCells t)) (hcap : n ≤ c) (h1 : 1 ≤ n) (hn : n ≤ 1099511627776) (had : ad.block < w.heap.size) (hk : z.toNat = 5) :
    Calls Tryd.prog 39 #[.slice (some ad) n c] w (ValPost w (rdV (z :: t)).1 (rdV (z :: t)).2.1 (rdV (z :: t)).2.2) := by
  have hlb : ((n : Int) == 0) = false := beqF (by omega)
  have hl1 : (0 : Int) < (n : Int) := by omega
  have hb0 := (Below.refl w.heap.size w).alloc (Nat.le_refl _)
  have htl : t.length = n - 1 := by have := hrt.len; omega
  have HRV := Lib.hid (show rdV (z :: t) = if (rdVb z.toNat t).2.2 ≠ 0 then (zeroGV 0, 0, (rdVb z.toNat t).2.2) else ((rdVb z.toNat t).1, 1 + (rdVb z.toNat t).2.1, 0) from rfl)
  obtain ⟨⟨x, j, e⟩, hx⟩ : ∃ r, rdSs t 16 = r := ⟨_, rfl⟩
  have hcall := fun W (h : Below w.heap.size w W) => (StringList_any A' (c - 1) t 16 W (htl ▸ (hrt.below h).more h.size) (by omega) (by omega) ⟨by omega, by omega⟩).mono fun _ _ h => h.two (m := (rdSs t 16).1.length) (by simp)
  rw [htl, hx] at hcall
  have HC := Lib.hid hcall
  have hrb : rdVb z.toNat t = ({ zeroGV 5 with l := x }, j, e) := by rw [hk]; simp [rdVb, hx]
  by_cases he : e = 0
  · subst he
    have HR := Lib.hid (show rdV (z :: t) = ({ zeroGV 5 with l := x }, 1 + j, 0) by rw [HRV.out, hrb]; simp)
    have hj : j ≤ t.length := rdSs_used hx
    have HTL := Lib.hid htl
    have hj2 : j ≤ n := by omega
    clear hcall hrb hx htl
    go_enter Tryd.func39, Tryd.ntmps39
    go_wp2_with (go_at_call 28; refine (HC.out _ (hb0 _)).mono ?_; rintro e w1 ⟨A2, c2, rfl, hm2, hown, hbel⟩; have HM2 := Lib.hid hm2; clear hm2; have hB := (Blk.new w 55 _).below hbel (by simp); have q0 : w1.cell? ⟨w.heap.size, 0, none⟩ = some (.int .i64 5) := hB.cell 0; have q1 : w1.cell? ⟨w.heap.size, 1, none⟩ = some (.int .i64 0) := hB.cell 1; have q2 : w1.cell? ⟨w.heap.size, 2, none⟩ = some (.string ⟨#[]⟩) := hB.cell 2; have q3 : w1.cell? ⟨w.heap.size, 3, none⟩ = some (.slice none 0 0) := hB.cell 3; have q4 : w1.cell? ⟨w.heap.size, 4, none⟩ = some (.slice none 0 0) := hB.cell 4; have f0 := hB.frozen 0; have f1 := hB.frozen 1; have f2 := hB.frozen 2; have f3 := hB.frozen 3; have f4 := hB.frozen 4; have hsz := hB.lt)
    have hbw : Below w.heap.size w w1 := (hb0 _).trans (hbel.mono (by simp))
    have ho1 : w1.ownsRow (w.heap.size + 1) 9 1 (.slice A2 x.length c2) (x.map strV).length (x.map strV) := by simpa using hown
    refine bodyPost_ret (v := .tuple #[valV ({ zeroGV 5 with l := x }) (.slice none 0 0) (.slice A2 x.length c2), .int .i64 (1 + (j : Int)), .int .i64 0]) (by simp [results, Tryd.results39, go_sem, valV, strV, zeroGV, q0, q1, q2, q3, q4]) rfl ⟨.slice none 0 0, .slice A2 x.length c2, ?_, ?_, ?_, ?_⟩
    · rw [HR.out]; rfl
    · rw [HR.out]; exact SliceOf.nil_ _
    · rw [HR.out]; exact SliceOf.of_own (base := w.heap.size + 1) (e := 9) (by ((repeat (with_reducible refine own_set0 ?_ _ _)); exact ho1))
    · repeat (with_reducible refine below_set0 ?_ _ _)
      exact hbw
  · have HR := Lib.hid (show rdV (z :: t) = (zeroGV 0, 0, e) by rw [HRV.out, hrb]; simp [he])
    have hb : ((e : Int) != 0) = true := bneT (by omega)
    have hx0 : x = [] := by have := rdSs_nil hx he; exact this
    subst hx0
    clear hcall hrb hx htl he
    go_enter Tryd.func39, Tryd.ntmps39
    go_wp2_with (go_at_call 28; refine (HC.out _ (hb0 _)).mono ?_; rintro e w1 ⟨A2, c2, rfl, hm2, hown, hbel⟩; have HM2 := Lib.hid hm2; clear hm2; have hB := (Blk.new w 55 _).below hbel (by simp); have q0 : w1.cell? ⟨w.heap.size, 0, none⟩ = some (.int .i64 5) := hB.cell 0; have q1 : w1.cell? ⟨w.heap.size, 1, none⟩ = some (.int .i64 0) := hB.cell 1; have q2 : w1.cell? ⟨w.heap.size, 2, none⟩ = some (.string ⟨#[]⟩) := hB.cell 2; have q3 : w1.cell? ⟨w.heap.size, 3, none⟩ = some (.slice none 0 0) := hB.cell 3; have q4 : w1.cell? ⟨w.heap.size, 4, none⟩ = some (.slice none 0 0) := hB.cell 4; have f0 := hB.frozen 0; have f1 := hB.frozen 1; have f2 := hB.frozen 2; have f3 := hB.frozen 3; have f4 := hB.frozen 4; have hsz := hB.lt)
    have hbw : Below w.heap.size w w1 := (hb0 _).trans (hbel.mono (by simp))
    refine bodyPost_ret (v := .tuple #[valV (zeroGV 0) (.slice none 0 0) (.slice none 0 0), .int .i64 0, .int .i64 e]) (by simp [results, Tryd.results39, go_sem, valV, strV, zeroGV, q0, q1, q2, q3, q4]) rfl ⟨.slice none 0 0, .slice none 0 0, ?_, ?_, ?_, ?_⟩
    · rw [HR.out]; rfl
    · rw [HR.out]; exact SliceOf.nil_ _
    · rw [HR.out]; exact SliceOf.nil_ _
    · repeat (with_reducible refine below_set0 ?_ _ _)
      exact hbw

set_option maxRecDepth 100000 in
set_option maxHeartbeats 1000000 in
theorem value_k0 (ad : Addr) (A' : Option Addr) (c n : Nat) (z : UInt8) (t : List UInt8) (w : World) (hc0 : w.cell? ad = some (.int .u8 (z.toNat : Int)))
    (hsl : ∀ (W : World), (Instr.slice 22 (.slice (some ad) n c) (some (.int .i64 1)) none none).run Tryd.prog W = .ok (.slice A' (n - 1) (c - 1)) W)
    (hrt : Reads w w.heap.size 1 A' (n - 1) (byteCells t)) (hcap : n ≤ c) (h1 : 1 ≤ n) (hn : n ≤ 1099511627776) (had : ad.block < w.heap.size) (hk : z.toNat = 0) :
    Calls Tryd.prog 39 #[.slice (some ad) n c] w (ValPost w (rdV (z :: t)).1 (rdV (z :: t)).2.1 (rdV (z :: t)).2.2) := by
  have hlb : ((n : Int) == 0) = false := beqF (by omega)
  have hl1 : (0 : Int) < (n : Int) := by omega
  have hb0 := (Below.refl w.heap.size w).alloc (Nat.le_refl _)
  have htl : t.length = n - 1 := by have := hrt.len; omega
  have HRV := Lib.hid (show rdV (z :: t) = if (rdVb z.toNat t).2.2 ≠ 0 then (zeroGV 0, 0, (rdVb z.toNat t).2.2) else ((rdVb z.toNat t).1, 1 + (rdVb z.toNat t).2.1, 0) from rfl)
  have HR := Lib.hid (show rdV (z :: t) = (zeroGV 0, 1, 0) by rw [HRV.out, hk]; simp [rdVb])
  go_enter Tryd.func39, Tryd.ntmps39
  go_wp2_with fail
  refine bodyPost_ret (v := .tuple #[valV (zeroGV 0) (.slice none 0 0) (.slice none 0 0), .int .i64 1, .int .i64 0]) (by simp [results, Tryd.results39, go_sem, valV, strV, zeroGV]) rfl ⟨.slice none 0 0, .slice none 0 0, ?_, ?_, ?_, ?_⟩
  · rw [HR.out]; rfl
  · rw [HR.out]; exact SliceOf.nil_ _
  · rw [HR.out]; exact SliceOf.nil_ _
  · exact hb0 _

set_option maxRecDepth 100000 in
set_option maxHeartbeats 1000000 in
theorem value_k6 (ad : Addr) (A' : Option Addr) (c n : Nat) (z : UInt8) (t : List UInt8) (w : World) (hc0 : w.cell? ad = some (.int .u8 (z.toNat : Int)))
    (hsl : ∀ (W : World), (Instr.slice 22 (.slice (some ad) n c) (some (.int .i64 1)) none none).run Tryd.prog W = .ok (.slice A' (n - 1) (c - 1)) W)
    (hrt : Reads w w.heap.size 1 A' (n - 1) (byteCells t)) (hcap : n ≤ c) (h1 : 1 ≤ n) (hn : n ≤ 1099511627776) (had : ad.block < w.heap.size) (hk : 5 < z.toNat) :
    Calls Tryd.prog 39 #[.slice (some ad) n c] w (ValPost w (rdV (z :: t)).1 (rdV (z :: t)).2.1 (rdV (z :: t)).2.2) := by
  have hlb : ((n : Int) == 0) = false := beqF (by omega)
  have hl1 : (0 : Int) < (n : Int) := by omega
  have hb0 := (Below.refl w.heap.size w).alloc (Nat.le_refl _)
  have htl : t.length = n - 1 := by have := hrt.len; omega
  have HRV := Lib.hid (show rdV (z :: t) = if (rdVb z.toNat t).2.2 ≠ 0 then (zeroGV 0, 0, (rdVb z.toNat t).2.2) else ((rdVb z.toNat t).1, 1 + (rdVb z.toNat t).2.1, 0) from rfl)
  have HR := Lib.hid (show rdV (z :: t) = (zeroGV 0, 0, 3) by
    rw [HRV.out]
    have hrb : rdVb z.toNat t = (zeroGV 0, 0, 3) := by
      unfold rdVb
      rw [if_neg (by omega), if_neg (by omega), if_neg (by omega), if_neg (by omega), if_neg (by omega), if_neg (by omega)]
    rw [hrb]; simp)
  have e0 : ((z.toNat : Int) == 0) = false := beqF (by omega)
  have e1 : ((z.toNat : Int) == 1) = false := beqF (by omega)
  have e2 : ((z.toNat : Int) == 2) = false := beqF (by omega)
  have e3 : ((z.toNat : Int) == 3) = false := beqF (by omega)
  have e4 : ((z.toNat : Int) == 4) = false := beqF (by omega)
  have e5 : ((z.toNat : Int) == 5) = false := beqF (by omega)
  have hz := z.toNat_lt
  go_enter Tryd.func39, Tryd.ntmps39
  go_wp2_with fail
  refine bodyPost_ret (v := .tuple #[valV (zeroGV 0) (.slice none 0 0) (.slice none 0 0), .int .i64 0, .int .i64 3]) (by simp [results, Tryd.results39, go_sem, valV, strV, zeroGV]) rfl ⟨.slice none 0 0, .slice none 0 0, ?_, ?_, ?_, ?_⟩
  · rw [HR.out]; rfl
  · rw [HR.out]; exact SliceOf.nil_ _
  · rw [HR.out]; exact SliceOf.nil_ _
  · exact hb0 _

set_option maxRecDepth 100000 in
set_option maxHeartbeats 400000 in
/-- WHAT wire.Value GIVES. -/
theorem value_any (A : Option Addr) (c : Nat) (bs : List UInt8) (w : World) (hr : Reads w w.heap.size 1 A bs.length (byteCells bs)) (hn : bs.length ≤ 1099511627776) (hcap : bs.length ≤ c) :
    Calls Tryd.prog 39 #[.slice A bs.length c] w (ValPost w (rdV bs).1 (rdV bs).2.1 (rdV bs).2.2) := by
  by_cases h0 : bs.length = 0
  · obtain rfl := List.eq_nil_of_length_eq_zero h0
    have hb0 := (Below.refl w.heap.size w).alloc (Nat.le_refl _)
    go_enter Tryd.func39, Tryd.ntmps39
    go_wp2_with fail
    refine bodyPost_ret (v := .tuple #[valV (zeroGV 0) (.slice none 0 0) (.slice none 0 0), .int .i64 0, .int .i64 2]) (by simp [results, Tryd.results39, go_sem, valV, strV, zeroGV]) rfl ⟨.slice none 0 0, .slice none 0 0, rfl, ?_, ?_, ?_⟩
    · exact SliceOf.nil_ _
    · exact SliceOf.nil_ _
    · exact hb0 _
  · have h1 : 1 ≤ bs.length := by omega
    obtain ⟨ad, z, rfl, had, hc, hd, _, hz⟩ := hr.byte (k := 0) (by omega)
    have hc0 : w.cell? ad = some (.int .u8 (z.toNat : Int)) := by simpa [Addr.add] using hc
    obtain ⟨A', hsl, hrt⟩ := slice_from (k := 1) (ki := 1) hr hcap h1 rfl
    have hbs : bs = z :: bs.drop 1 := by simpa using hd
    generalize ht : bs.drop 1 = t at *
    generalize hn' : bs.length = n at *
    subst hbs
    by_cases k0 : z.toNat = 0
    · exact value_k0 ad A' c n z t w hc0 hsl hrt hcap h1 hn had k0
    by_cases k1 : z.toNat = 1
    · exact value_k1 ad A' c n z t w hc0 hsl hrt hcap h1 hn had k1
    by_cases k2 : z.toNat = 2
    · exact value_k2 ad A' c n z t w hc0 hsl hrt hcap h1 hn had k2
    by_cases k3 : z.toNat = 3
    · exact value_k3 ad A' c n z t w hc0 hsl hrt hcap h1 hn had k3
    by_cases k4 : z.toNat = 4
    · exact value_k4 ad A' c n z t w hc0 hsl hrt hcap h1 hn had k4
    by_cases k5 : z.toNat = 5
    · exact value_k5 ad A' c n z t w hc0 hsl hrt hcap h1 hn had k5
    exact value_k6 ad A' c n z t w hc0 hsl hrt hcap h1 hn had (by omega)
end Go.Proofs.YtklihjgmmliejaaDoor.W
