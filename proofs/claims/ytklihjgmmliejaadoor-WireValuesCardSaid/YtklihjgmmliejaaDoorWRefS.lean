/- The reference's Low and Seal. -/
import Derived.Test.YtklihjgmmliejaaDoorWRefC
import Derived.Test.YtklihjgmmliejaaDoorWRefE
namespace Go.Proofs.YtklihjgmmliejaaDoor.W
set_option linter.unusedVariables false
open Go.RowKit
open Go.Lib (byteCells byteCells_length byteCells_append byteCells_snoc)

theorem own_below {w w' : World} {base : Nat} {e : TypeId} {size : Nat} {v : Value} {n : Nat} {xs : List Value} (h : w.ownsRow base e size v n xs) (hb : Below w.heap.size w w') : w'.ownsRow base e size v n xs := by
  refine ⟨h.1, ?_⟩
  rcases h.2 with h0 | ⟨g, cap, cur, h1, h2, h3, h4⟩
  · exact .inl h0
  · exact .inr ⟨g, cap, cur, h1, h2, (hb.block g (h.lt g (by rw [h1]; rfl)).2).trans h3, h4⟩
theorem refChecksum_at {A : Option Addr} {c B n : Nat} {bs : List UInt8} {w : World} (hr : Reads w B 1 A n (byteCells bs)) (hn : bs.length ≤ 4398046521104) :
    Calls Tryd.prog 52 #[.slice A n c] w fun e w' => e = .returned (.int .u32 ((crc bs).toNat : Int)) ∧ w = w' := by
  obtain rfl := hr.len
  exact refChecksum_any A c B bs w hr hn
theorem own_new (w : World) (cs : Array Value) (bs : List UInt8) (n : Nat) (h : cs.toList = byteCells bs) (hn : bs.length = n) (hm : n ≤ maxLen) : (w.alloc (.cells cs 5)).ownsRow w.heap.size 5 1 (.slice (some ⟨w.heap.size, 0, none⟩) n n) bs.length (byteCells bs) := by
  have hs : cs.size = n := by rw [← Array.length_toList, h, byteCells_length, hn]
  have := World.ownsRow_lit (base := w.heap.size) (e := 5) (size := 1) w cs n (Nat.le_refl _) hm (by omega)
  rw [h] at this
  rw [hn]
  exact this

set_option maxRecDepth 100000 in
set_option maxHeartbeats 400000 in
theorem refLow_any (s : BitVec 32) (w : World) :
    Calls Tryd.prog 69 #[.int .u32 (s.toNat : Int)] w (OwnPost w.heap.size w (low4 s)) := by
  have hs := s.isLt
  have HB := Lib.hid (show #[Value.int .u8 ((s.toNat : Int) % 256), .int .u8 ((s.toNat : Int) / 256 % 256), .int .u8 ((s.toNat : Int) / 65536 % 256), .int .u8 ((s.toNat : Int) / 16777216)].toList = byteCells (low4 s) by
    unfold low4 byteCells
    simp only [List.map_cons, List.map_nil]
    rw [u8n (a := s.toNat % 256) (by omega), u8n (a := s.toNat / 256 % 256) (by omega), u8n (a := s.toNat / 65536 % 256) (by omega), u8n (a := s.toNat / 16777216 % 256) (by omega), Nat.mod_eq_of_lt (a := s.toNat / 16777216) (by omega)]
    simp)
  go_enter Tryd.func69, Tryd.ntmps69
  go_wp2
  go_ret
  exact ⟨_, rfl, own_new w _ (low4 s) 4 HB.out rfl (by decide), (Below.refl _ _).alloc (Nat.le_refl _) _⟩

set_option maxRecDepth 100000 in
set_option maxHeartbeats 1000000 in
theorem refSeal_ok (kind : Int) (A : Option Addr) (c : Nat) (body : List UInt8) (w : World) (hr : Reads w w.heap.size 1 A body.length (byteCells body)) (hk1 : 1 ≤ kind) (hk2 : kind ≤ 255) (hl : body.length ≤ 16777216) :
    Calls Tryd.prog 48 #[.int .i64 kind, .slice A body.length c] w (SealPost w (sealB kind body ++ low4 (crc (sealB kind body))) 0) := by
  have hle := enU_len (x := body.length) (by omega)
  have HB := Lib.hid (show #[Value.int .u8 65, .int .u8 71, .int .u8 kind].toList = byteCells [65, 71, kind.toNat.toUInt8] by
    unfold byteCells
    simp only [List.map_cons, List.map_nil]
    rw [u8n (a := kind.toNat) (by omega), show ((kind.toNat : Nat) : Int) = kind by omega]
    rfl)
  have O0 := Lib.hid (own_new w #[Value.int .u8 65, .int .u8 71, .int .u8 kind] [65, 71, kind.toNat.toUInt8] 3 HB.out rfl (by decide))
  have hb0 := (Below.refl w.heap.size w).alloc (Nat.le_refl _) (.cells #[Value.int .u8 65, .int .u8 71, .int .u8 kind] 5)
  have CU := Lib.hid (fun W => (refUint_any body.length W (by omega)).mono fun _ _ h => h.to (enU body.length) (enU body.length).length rfl rfl)
  have HD := Lib.hid (show sealB kind body = ([65, 71, kind.toNat.toUInt8] ++ enU body.length) ++ body by simp [sealB])
  obtain ⟨N, hN⟩ : ∃ N, N = (([65, 71, kind.toNat.toUInt8] ++ enU body.length) ++ body).length := ⟨_, rfl⟩
  have HN := Lib.hid hN
  have hNb : N ≤ 16777300 := by rw [hN]; simp; omega
  have hN3 : 3 + (enU body.length).length + body.length = N := by rw [hN]; simp; omega
  clear hN
  have hd1 : ¬ (16777216 : Int) < (body.length : Int) := by omega
  have hsz : (w.alloc (.cells #[Value.int .u8 65, .int .u8 71, .int .u8 kind] 5)).heap.size = w.heap.size + 1 := by simp
  have HSZ := Lib.hid hsz
  clear hsz
  go_enter Tryd.func48, Tryd.ntmps48
  go_wp2_with (first
    | (go_at_call 21; refine (CU.out _).mono ?_; rintro e w2 ⟨A2, c2, rfl, hc2, ho2, hr2, hq2⟩; (have hb2 : Below w.heap.size w w2 := hb0.trans (hq2.mono (by rw [HSZ.out]; omega))); (have O2 := Lib.hid (own_below O0.out hq2)))
    | (at_builtin; refine wp_append_bytes _ rfl (.tmp 20) (.tmp 24) rfl w.heap.size _ [65, 71, kind.toNat.toUInt8] (enU body.length) _ _ _ _ rfl O2.out rfl hr2 (by simp; omega) hb2.size ?_; intro v3 w3 ho3 hq3; (have hb3 : Below w.heap.size w w3 := hb2.trans hq3))
    | (at_builtin; refine wp_append_slice _ rfl (.tmp 26) (.tmp 27) rfl w.heap.size v3 ([65, 71, kind.toNat.toUInt8] ++ enU body.length) body _ _ _ _ rfl ho3 rfl (hr.below hb3) (by simp; omega) hb3.size N HN.out ?_; intro A4 c4 w4 ho4 hc4 hr4 hq4; (have hb4 : Below w.heap.size w w4 := hb3.trans hq4))
    | (go_at_call 52; refine (refChecksum_at (c := c4) hr4 (by rw [← HN.out]; omega)).mono ?_; rintro e w' ⟨rfl, rfl⟩)
    | (go_at_call 69; refine ((refLow_any _ w4).mono fun _ _ h => h.to (low4 (crc (([65, 71, kind.toNat.toUInt8] ++ enU body.length) ++ body))) 4 rfl rfl).mono ?_; rintro e w5 ⟨A5, c5, rfl, hc5, ho5, hr5, hq5⟩; (have hb5 : Below w.heap.size w w5 := bstep hb4 hq5); (have O5 := Lib.hid (own_below ho4 hq5)))
    | (at_builtin; refine wp_append_bytes _ rfl (.tmp 29) (.tmp 32) rfl w.heap.size _ (([65, 71, kind.toNat.toUInt8] ++ enU body.length) ++ body) (low4 (crc (([65, 71, kind.toNat.toUInt8] ++ enU body.length) ++ body))) _ _ _ _ rfl (by rw [← HN.out]; exact O5.out) rfl hr5 (by rw [← HN.out]; show N + 4 ≤ _; omega) hb5.size ?_; intro v6 w6 ho6 hq6; (have hb6 : Below w.heap.size w w6 := hb5.trans hq6)))
  have hfin := Lib.hid (show w6.ownsRow w.heap.size 5 1 v6 (sealB kind body ++ low4 (crc (sealB kind body))).length (byteCells (sealB kind body ++ low4 (crc (sealB kind body)))) by rw [HD.out]; exact ho6)
  obtain ⟨A7, c7, hv7, hc7, hr7⟩ := SliceOf.of_own (base := w.heap.size) (e := 5) (by rw [byteCells_length]; exact hfin.out)
  rw [byteCells_length] at hv7 hc7
  go_ret2
  refine ⟨A7, c7, ?_, hc7, ?_, hb6⟩
  · rw [← hv7]; rfl
  · rw [← hv7]; exact hfin.out

set_option maxRecDepth 100000 in
set_option maxHeartbeats 400000 in
theorem refSeal_bad (kind : Int) (A : Option Addr) (c : Nat) (body : List UInt8) (w : World) (hl : body.length ≤ 1099511627776) (hk : kind < 1 ∨ 255 < kind ∨ 16777216 < body.length) :
    Calls Tryd.prog 48 #[.int .i64 kind, .slice A body.length c] w (SealPost w [] 1) := by
  by_cases h1 : kind < 1
  · clear hk
    go_enter Tryd.func48, Tryd.ntmps48
    go_wp2_with fail
    go_ret2
    exact ⟨none, 0, rfl, Nat.le_refl _, World.ownsRow_nil _ _ _ _, Below.refl _ _⟩
  · by_cases h2 : 255 < kind
    · clear hk
      go_enter Tryd.func48, Tryd.ntmps48
      go_wp2_with fail
      go_ret2
      exact ⟨none, 0, rfl, Nat.le_refl _, World.ownsRow_nil _ _ _ _, Below.refl _ _⟩
    · have h3 : (16777216 : Int) < (body.length : Int) := by omega
      clear hk
      go_enter Tryd.func48, Tryd.ntmps48
      go_wp2_with fail
      go_ret2
      exact ⟨none, 0, rfl, Nat.le_refl _, World.ownsRow_nil _ _ _ _, Below.refl _ _⟩

/-- WHAT the reference's Seal GIVES. -/
theorem refSeal_any (kind : Int) (A : Option Addr) (c : Nat) (body : List UInt8) (w : World) (hr : Reads w w.heap.size 1 A body.length (byteCells body)) (hl : body.length ≤ 1099511627776) :
    Calls Tryd.prog 48 #[.int .i64 kind, .slice A body.length c] w (SealPost w (rdSeal kind body).1 (rdSeal kind body).2) := by
  unfold rdSeal
  by_cases hk : kind < 1 ∨ 255 < kind ∨ 16777216 < body.length
  · rw [if_pos hk]
    exact refSeal_bad kind A c body w hl hk
  · rw [if_neg hk]
    exact refSeal_ok kind A c body w hr (by omega) (by omega) (by omega)
end Go.Proofs.YtklihjgmmliejaaDoor.W
