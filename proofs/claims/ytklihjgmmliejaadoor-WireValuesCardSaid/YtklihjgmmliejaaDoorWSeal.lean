/- wire.Seal. -/
import Derived.Test.YtklihjgmmliejaaDoorWCrc
namespace Go.Proofs.YtklihjgmmliejaaDoor.W
set_option linter.unusedVariables false
open Go.RowKit
open Go.Lib (byteCells byteCells_length byteCells_append byteCells_snoc)

/-- As wp_append_bytes, the result written out. -/
theorem wp_append_slice {ops : Array Oper} {rest : List Oper} {o : Oper} {a : Act} {Q : Exit → Act → World → Prop} (W : World) (hgd : o.guard = none) (s x : Operand)
    (ho : o.op = .call { callee := .builtin .append, args := #[s, x], argTypes := #[22, 22] }) (base : Nat) (v : Value) (l news : List UInt8) (B m c : Nat) (A : Option Addr) (hs : a.eval s = v)
    (hown : W.ownsRow base 5 1 v l.length (byteCells l)) (hx : a.eval x = .slice A m c) (hr : Reads W B 1 A m (byteCells news))
    (hl : l.length + news.length ≤ 8796093022208) (hbase : base ≤ W.heap.size) (n : Nat) (hn : n = (l ++ news).length)
    (h : ∀ A' c' w', w'.ownsRow base 5 1 (.slice A' n c') n (byteCells (l ++ news)) → n ≤ c' → Reads w' w'.heap.size 1 A' n (byteCells (l ++ news)) → Below base W w' → wpList Tryd.prog ops Q rest (a.put o.dst (.slice A' n c')) w') : wpList Tryd.prog ops Q (o :: rest) a W := by
  refine wp_append_bytes W hgd s x ho base v l news B m c A hs hown hx hr hl hbase fun v' w' h1 h2 => ?_
  obtain ⟨A', c', hv, hc, hrd⟩ := SliceOf.of_own (base := base) (e := 5) (by rw [byteCells_length]; exact h1)
  rw [byteCells_length, ← hn] at hv hc hrd
  rw [← hn, hv] at h1
  rw [hv]
  exact h A' c' w' h1 hc hrd h2

theorem checksum_at (A : Option Addr) (c B n : Nat) (bs : List UInt8) (w : World) (hr : Reads w B 1 A n (byteCells bs)) (hn : bs.length ≤ 4398046521104) (ht : Tab w) :
    Calls Tryd.prog 51 #[.slice A n c] w fun e w' => e = .returned (.int .u32 ((crc bs).toNat : Int)) ∧ w = w' := by
  obtain rfl := hr.len
  exact checksum_any A c B bs w hr hn ht

def SealPost (w : World) (l : List UInt8) (err : Nat) (en : Ending) (w' : World) : Prop :=
  ∃ A c, en = .returned (.tuple #[.slice A l.length c, .int .i64 err]) ∧ l.length ≤ c ∧ w'.ownsRow w.heap.size 5 1 (.slice A l.length c) l.length (byteCells l) ∧ Below w.heap.size w w'

theorem enU_ge (x : Nat) : 1 ≤ (enU x).length := enU_pos x
set_option maxRecDepth 100000 in
set_option maxHeartbeats 1000000 in
theorem seal_ok (kind : Int) (A : Option Addr) (c : Nat) (body : List UInt8) (w : World) (hr : Reads w w.heap.size 1 A body.length (byteCells body)) (ht : Tab w) (hk1 : 1 ≤ kind) (hk2 : kind ≤ 255) (hl : body.length ≤ 16777216) :
    Calls Tryd.prog 47 #[.int .i64 kind, .slice A body.length c] w (SealPost w (sealB kind body ++ low4 (crc (sealB kind body))) 0) := by
  obtain ⟨i0, hi, hz0, hz1, hz2⟩ := info_parts u8Info
  have hle := enU_len (x := body.length) (by omega)
  obtain ⟨v0, w1, hmk, hown0, hb1⟩ : ∃ v0 w1, (Instr.makeSlice 22 (.int .i64 0) (.int .i64 (13 + (body.length : Int) + 4))).run Tryd.prog w = .ok v0 w1 ∧ w1.ownsRow w.heap.size 5 1 v0 ([] : List UInt8).length (byteCells []) ∧ Below w.heap.size w w1 := by
    have h := run_make (P := Tryd.prog) w 22 5 i0 _ Tryd.underlying22 hi hz0 .i64 .i64 0 (13 + (body.length : Int) + 4) (by omega) (by omega) (by rw [hz2]; omega) (by omega)
    refine ⟨_, _, h, ?_, (Below.refl _ _).alloc (Nat.le_refl _) _⟩
    rw [show (13 + (body.length : Int) + 4).toNat = body.length + 17 by omega]
    exact World.ownsRow_made w _ (body.length + 17) (Nat.le_refl _) (by unfold maxLen; omega) (by rw [size_madeCells, hz1])
  have HB := Lib.hid (show #[Value.int .u8 65, .int .u8 71, .int .u8 kind].toList = byteCells [65, 71, kind.toNat.toUInt8] by
    unfold byteCells
    simp only [List.map_cons, List.map_nil]
    rw [u8n (a := kind.toNat) (by omega), show ((kind.toNat : Nat) : Int) = kind by omega]
    rfl)
  have HT := Lib.hid ht
  have hs1 := hb1.size
  clear ht
  go_enter Tryd.func47, Tryd.ntmps47
  have HD := Lib.hid (show sealB kind body = ([65, 71, kind.toNat.toUInt8] ++ enU body.length) ++ body by simp [sealB])
  obtain ⟨N, hN⟩ : ∃ N, N = (([65, 71, kind.toNat.toUInt8] ++ enU body.length) ++ body).length := ⟨_, rfl⟩
  have HN := Lib.hid hN
  have hNb : N ≤ 16777300 := by rw [hN]; simp; omega
  clear hN
  have hd1 : ¬ (16777216 : Int) < (body.length : Int) := by omega
  go_wp2_with (first
    | (at_builtin; refine wp_append_bytes _ rfl (.tmp 23) (.tmp 26) rfl w.heap.size v0 [] [65, 71, kind.toNat.toUInt8] _ _ _ _ rfl (hown0.alloc _) rfl (reads_new _ _ [65, 71, kind.toNat.toUInt8] HB.out) (by simp) (by simp; omega) ?_; intro v2 w2 ho2 hb2; have hbw2 : Below w.heap.size w w2 := (hb1.alloc hs1 _).trans hb2)
    | (go_at_call 54; refine (putUint_any v2 [65, 71, kind.toNat.toUInt8] body.length w.heap.size w2 ho2 hbw2.size (by simp) (by omega)).mono ?_; rintro e w3 ⟨v3, rfl, ho3, hb3⟩; have hbw3 : Below w.heap.size w w3 := hbw2.trans hb3)
    | (at_builtin; refine wp_append_slice _ rfl (.tmp 33) (.tmp 34) rfl w.heap.size v3 ([65, 71, kind.toNat.toUInt8] ++ enU body.length) body _ _ _ _ rfl ho3 rfl (hr.below hbw3) (by simp; omega) hbw3.size N HN.out ?_; intro A4 c4 w4 ho4 hc4 hr4 hb4; have hbw4 : Below w.heap.size w w4 := hbw3.trans hb4)
    | (go_at_call 51; refine (checksum_at A4 c4 _ N (([65, 71, kind.toNat.toUInt8] ++ enU body.length) ++ body) w4 hr4 (by rw [← HN.out]; omega) (HT.out.on hbw4)).mono ?_; rintro e w' ⟨rfl, rfl⟩)
    | (go_at_call 68; refine (putSum_any _ (([65, 71, kind.toNat.toUInt8] ++ enU body.length) ++ body) _ w.heap.size w4 (by rw [← HN.out]; exact ho4) hbw4.size (by rw [← HN.out]; omega)).mono ?_; rintro e w5 ⟨v5, rfl, ho5, hb5⟩))
  have hfin := Lib.hid (show w5.ownsRow w.heap.size 5 1 v5 (sealB kind body ++ low4 (crc (sealB kind body))).length (byteCells (sealB kind body ++ low4 (crc (sealB kind body)))) by rw [HD.out]; exact ho5)
  obtain ⟨A6, c6, hv6, hc6, hr6⟩ := SliceOf.of_own (base := w.heap.size) (e := 5) (by rw [byteCells_length]; exact hfin.out)
  rw [byteCells_length] at hv6 hc6
  go_ret2
  refine ⟨A6, c6, ?_, hc6, ?_, hbw4.trans hb5⟩
  · rw [← hv6]; rfl
  · rw [← hv6]; exact hfin.out

set_option maxRecDepth 100000 in
set_option maxHeartbeats 400000 in
theorem seal_bad (kind : Int) (A : Option Addr) (c : Nat) (body : List UInt8) (w : World) (hl : body.length ≤ 1099511627776) (hk : kind < 1 ∨ 255 < kind ∨ 16777216 < body.length) :
    Calls Tryd.prog 47 #[.int .i64 kind, .slice A body.length c] w (SealPost w [] 1) := by
  by_cases h1 : kind < 1
  · clear hk
    go_enter Tryd.func47, Tryd.ntmps47
    go_wp2_with fail
    go_ret2
    exact ⟨none, 0, rfl, Nat.le_refl _, World.ownsRow_nil _ _ _ _, Below.refl _ _⟩
  · by_cases h2 : 255 < kind
    · clear hk
      go_enter Tryd.func47, Tryd.ntmps47
      go_wp2_with fail
      go_ret2
      exact ⟨none, 0, rfl, Nat.le_refl _, World.ownsRow_nil _ _ _ _, Below.refl _ _⟩
    · have h3 : (16777216 : Int) < (body.length : Int) := by omega
      clear hk
      go_enter Tryd.func47, Tryd.ntmps47
      go_wp2_with fail
      go_ret2
      exact ⟨none, 0, rfl, Nat.le_refl _, World.ownsRow_nil _ _ _ _, Below.refl _ _⟩

/-- WHAT wire.Seal GIVES. -/
theorem seal_any (kind : Int) (A : Option Addr) (c : Nat) (body : List UInt8) (w : World) (hr : Reads w w.heap.size 1 A body.length (byteCells body)) (ht : Tab w) (hl : body.length ≤ 1099511627776) :
    Calls Tryd.prog 47 #[.int .i64 kind, .slice A body.length c] w (SealPost w (rdSeal kind body).1 (rdSeal kind body).2) := by
  unfold rdSeal
  by_cases hk : kind < 1 ∨ 255 < kind ∨ 16777216 < body.length
  · rw [if_pos hk]
    exact seal_bad kind A c body w hl hk
  · rw [if_neg hk]
    exact seal_ok kind A c body w hr ht (by omega) (by omega) (by omega)
end Go.Proofs.YtklihjgmmliejaaDoor.W
