/- ValidValue and AppendValue. -/
import Derived.Test.YtklihjgmmliejaaDoorWValid
import Derived.Deep.RegionHeld3
import Derived.Deep.DeepCutAuto
import Derived.Deep.RegionWith
import Derived.Deep.RegionLaw
namespace Go.Proofs.YtklihjgmmliejaaDoor.W
set_option linter.unusedVariables false
open Go.RowKit
open Go.Lib (byteCells byteCells_length byteCells_append byteCells_snoc unzigzag zigzag uvarint_small uvarint_big)

set_option maxRecDepth 100000 in
set_option maxHeartbeats 1000000 in
theorem valid_any (v : GV) (I L : Option Addr) (ci cl B : Nat) (w : World) (h : GVarg w B v I L ci cl) (hB : B ≤ w.heap.size) :
    Calls Tryd.prog 42 #[gvV v I L ci cl] w fun e w' => e = .returned (.bool v.ok) ∧ Below w.heap.size w w' := by
  by_cases k0 : v.kind = 0
  · exact valid_k0 v I L ci cl B w h hB k0
  by_cases k1 : v.kind = 1
  · exact valid_k1 v I L ci cl B w h hB k1
  by_cases k2 : v.kind = 2
  · exact valid_k2 v I L ci cl B w h hB k2
  by_cases k3 : v.kind = 3
  · exact valid_k3 v I L ci cl B w h hB k3
  by_cases k4 : v.kind = 4
  · exact valid_k4 v I L ci cl B w h hB k4
  by_cases k5 : v.kind = 5
  · exact valid_k5 v I L ci cl B w h hB k5
  obtain ⟨k, n, s, i, l⟩ := v
  have hok := Lib.hid (show GV.ok ⟨k, n, s, i, l⟩ = false by
    dsimp only at *
    simp [GV.ok, k0, k1, k2, k3, k4, k5])
  have hb0 := (Below.refl w.heap.size w)
  dsimp only [gvV, strV] at *
  have e0 : (k == 0) = false := beqF k0
  have e1 : (k == 1) = false := beqF k1
  have e2 : (k == 2) = false := beqF k2
  have e3 : (k == 3) = false := beqF k3
  have e4 : (k == 4) = false := beqF k4
  have e5 : (k == 5) = false := beqF k5
  clear h
  go_enter Tryd.func42, Tryd.ntmps42
  go_wp2_with fail
  go_ret
  refine ⟨congrArg (fun b => Ending.returned (.bool b)) hok.out.symm, ?_⟩
  repeat (first | exact hb0 | refine Below.alloc ?_ (by simp) _ | refine Below.setCell ?_ (by simp) _)
/- APPEND -/
theorem own_base {w : World} {base base' : Nat} {e : TypeId} {size : Nat} {v : Value} {n : Nat} {xs : List Value} (h : w.ownsRow base' e size v n xs) (hb : base ≤ base') : w.ownsRow base e size v n xs := by
  refine ⟨h.1, ?_⟩
  rcases h.2 with h0 | ⟨g, cap, cur, h1, h2, h3⟩
  · exact .inl h0
  · exact .inr ⟨g, cap, cur, h1, by omega, h3⟩
theorem step_append_byte {ops : Array Oper} {o : Oper} {a : Act} {K : Act → World → Prop} {Q : Exit → Act → World → Prop} {E : Prop} (W : World) (hgd : o.guard = none) (s x : Operand)
    (ho : o.op = .call { callee := .builtin .append, args := #[s, x], argTypes := #[22, 22] }) (base : Nat) (v : Value) (l : List UInt8) (z g : Nat) (zi : Int) (hs : a.eval s = v)
    (hown : W.ownsRow base 5 1 v l.length (byteCells l)) (hx : a.eval x = .slice (some ⟨g, 0, none⟩) 1 1) (hcell : W.cell? ⟨g, 0, none⟩ = some (.int .u8 zi)) (hzi : zi = (z : Int)) (hz : z < 256)
    (hl : l.length ≤ 4398046521104) (hbase : base ≤ W.heap.size)
    (h : ∀ v' w', w'.ownsRow base 5 1 v' (l ++ [z.toUInt8]).length (byteCells (l ++ [z.toUInt8])) → Below base W w' → K (a.put o.dst v') w') :
    if Region.wanted o (yielded ops a.tmps) = true then Oper.wp Tryd.prog o a W K Q else E := by
  obtain ⟨i0, hi, hz0, hz1, hz2⟩ := info_parts u8Info
  subst hzi
  have hrd : Reads W (g + 1) 1 (some ⟨g, 0, none⟩) 1 [.int .u8 (z : Int)] := ⟨rfl, fun _ => ⟨_, rfl, Nat.lt_succ_self g, fun j u hu => by
    match j, hu with
    | 0, hu => simp at hu; subst hu; simpa [Addr.add] using hcell⟩⟩
  refine step_append_any W hgd s x 22 ho base 5 i0 _ 1 1 Tryd.underlying22 hi hz0 hz1 hz2 rfl (by decide) v _ _ hs hown (g + 1) (some ⟨g, 0, none⟩) 1 1 _ hx hrd ?_ ?_ ?_ hbase ?_
  · intro u hu; simp at hu; subst hu; rfl
  · unfold maxLen; omega
  · omega
  · intro v' w' h1 h2 _
    refine h v' w' ?_ ((Below.refl _ _).grown h2 hbase fun q hq => (hown.lt q hq).1)
    rw [byteCells_snoc _ hz]
    simpa using h1

theorem GVarg.below {w W : World} {B : Nat} {v : GV} {I L : Option Addr} {ci cl : Nat} (h : GVarg w B v I L ci cl) (hb : Below B w W) : GVarg W B v I L ci cl :=
  { h with ri := h.ri.below hb, rl := h.rl.below hb }
theorem GVarg.more {w : World} {B B' : Nat} {v : GV} {I L : Option Addr} {ci cl : Nat} (h : GVarg w B v I L ci cl) (hb : B ≤ B') : GVarg w B' v I L ci cl :=
  { h with ri := h.ri.more hb, rl := h.rl.more hb }
theorem ok_kind {v : GV} (h : v.ok = true) : 0 ≤ v.kind ∧ v.kind ≤ 5 := by
  unfold GV.ok at h
  simp only [Bool.or_eq_true, Bool.and_eq_true, beq_iff_eq] at h
  omega
theorem enV_len {v : GV} : 1 ≤ (enV v).length := by simp [enV]

theorem World.size_le_alloc_drew (w : World) (o : Obj) : w.heap.size ≤ (w.alloc o).drew.heap.size := by
  show w.heap.size ≤ (w.alloc o).heap.size
  simp
/-- What grown leaves, seen from AppendValue. -/
def GrownAt (base : Nat) (w : World) (p : Addr) (u : Value) (bs : List UInt8) (x : Option (Nat × Value)) (en : Ending) (w' : World) : Prop :=
  ∃ v, en = .returned v ∧ w'.ownsRow base 5 1 v bs.length (byteCells bs) ∧ Below base w w' ∧ w'.cell? p = some u ∧ ∀ g z, x = some (g, z) → w'.cell? ⟨g, 0, none⟩ = some z

set_option maxRecDepth 100000 in
set_option maxHeartbeats 1000000 in
/-- The head of AppendValue: the bytes and the kind; then what the kind says, under one name. -/
theorem appendValue_ok (v : GV) (A I L : Option Addr) (c ci cl : Nat) (bs : List UInt8) (w : World) (hr : Reads w w.heap.size 1 A bs.length (byteCells bs)) (h : GVarg w w.heap.size v I L ci cl) (hl : bs.length + (enV v).length ≤ 1099511627776) (hok : v.ok = true) :
    Calls Tryd.prog 45 #[.slice A bs.length c, gvV v I L ci cl] w (OwnPost w.heap.size w (bs ++ enV v)) := by
  have HV := Lib.hid (fun W (hW : Below w.heap.size w W) => valid_any v I L ci cl w.heap.size W (h.below hW) hW.size)
  rw [hok] at HV
  obtain ⟨hk0, hk5⟩ := ok_kind hok
  have hlen := enV_len (v := v)
  obtain ⟨k, n, s, i, l⟩ := v
  dsimp only [gvV, strV] at *
  have hbx := (Below.refl w.heap.size w).alloc (Nat.le_refl _)
  go_enter Tryd.func45, Tryd.ntmps45
  go_upto_region 3 with (go_at_call 42; refine (HV.out _ (hbx _)).mono ?_; rintro e w2 ⟨rfl, hb2⟩; have hB := (Blk.new w 55 _).below hb2 (by simp); have q0 : w2.cell? ⟨w.heap.size, 0, none⟩ = some (.int .i64 k) := hB.cell 0; have f0 := hB.frozen 0; have hsz := hB.lt)
  have hs2 : w.heap.size + 1 ≤ w2.heap.size := hsz
  have hrw : Reads w2 w2.heap.size 1 A bs.length (byteCells bs) := (hr.below ((hbx _).trans (hb2.mono (by simp)))).more (by omega)
  have HG1 := Lib.hid (show Calls Tryd.prog 55 #[.slice A bs.length c, .int .i64 11] w2.drew (GrownAt (w.heap.size + 1) w2 ⟨w.heap.size, 0, none⟩ (.int .i64 k) bs none) from
    (grown_any A c 11 bs w2.drew hrw (by omega) (by omega)).mono fun e w3 ⟨v3, he, ho, hb⟩ => ⟨v3, he, own_base ho hs2, ((Below.refl _ w2).drew).trans (hb.mono hs2), (hb.cell (p := ⟨w.heap.size, 0, none⟩) hsz).trans q0, fun g u h => by cases h⟩)
  have HG2 := Lib.hid (show Calls Tryd.prog 55 #[.slice A bs.length c, .int .i64 11] (w2.alloc (.cells #[.int .u8 (IntKind.u8.wrap k)] 5)).drew (GrownAt (w.heap.size + 1) w2 ⟨w.heap.size, 0, none⟩ (.int .i64 k) bs (some (w2.heap.size, .int .u8 (IntKind.u8.wrap k)))) from
    (grown_any A c 11 bs (w2.alloc (.cells #[.int .u8 (IntKind.u8.wrap k)] 5)).drew ((hrw.alloc (Nat.le_refl _) _).more (by simp)) (by omega) (by omega)).mono fun e w3 ⟨v3, he, ho, hb⟩ =>
      ⟨v3, he, own_base ho (Nat.le_trans hs2 (World.size_le_alloc_drew w2 _)), (((Below.refl _ w2).alloc hs2 _).drew).trans (hb.mono (Nat.le_trans hs2 (World.size_le_alloc_drew w2 _))), (hb.cell (p := ⟨w.heap.size, 0, none⟩) (by simp; omega)).trans ((World.cell?_alloc_lt _ _ _ hsz).trans q0),
        fun g u h => by cases h; exact (hb.cell (p := ⟨w2.heap.size, 0, none⟩) (by simp)).trans (cell_new1 _ _ _)⟩)
  have HKZ := Lib.hid (show IntKind.u8.wrap k = (k.toNat : Int) by rw [IntKind.wrap_u8]; omega)
  have hkt : k.toNat < 256 := by omega
  have hbl : bs.length ≤ 4398046521104 := by omega
  go_cut [5] (fun s5 wx => wx.ownsRow (w.heap.size + 1) 5 1 s5 (bs ++ [k.toNat.toUInt8]).length (byteCells (bs ++ [k.toNat.toUInt8])) ∧ Below (w.heap.size + 1) w2 wx)
  case first =>
    go_region_law (first
      | (go_simp; go_at_call 55; ((with_reducible refine HG1.out.mono ?_); rintro e w3 ⟨v3, rfl, ho3, hb3, q3, qb⟩; have QB := Lib.hid qb; clear qb))
      | (go_simp; go_at_call 55; ((with_reducible refine HG2.out.mono ?_); rintro e w3 ⟨v3, rfl, ho3, hb3, q3, qb⟩; have QB := Lib.hid qb; clear qb))
      | (refine step_append_byte _ rfl (.tmp 10) (.tmp 14) rfl (w.heap.size + 1) v3 bs k.toNat w3.heap.size (IntKind.u8.wrap k) rfl (ho3.alloc _) rfl (cell_new1 _ _ _) HKZ.out hkt hbl (Nat.le_trans hs2 (Nat.le_trans hb3.size (by simp))) ?_; intro v4 w4 ho4 hb4)
      | (refine step_append_byte _ rfl (.tmp 10) (.tmp 14) rfl (w.heap.size + 1) v3 bs k.toNat w2.heap.size (IntKind.u8.wrap k) rfl ho3 rfl (QB.out _ _ rfl) HKZ.out hkt hbl (Nat.le_trans hs2 hb3.size) ?_; intro v4 w4 ho4 hb4))
    all_goals
      go_wp2_with fail
      go_meet
      refine ⟨ho4, ?_⟩
      first
        | exact hb3.trans hb4
        | exact (hb3.alloc (Nat.le_trans hs2 hb3.size) _).trans hb4
  case rest =>
    obtain ⟨hown, hbel⟩ := hcut
    have hwc : Below w.heap.size w wc := ((hbx _).trans (hb2.mono (by simp))).trans (hbel.mono (by omega))
    have hsc := hwc.size
    have hs3 : w.heap.size + 1 ≤ wc.heap.size := Nat.le_trans hs2 hbel.size
    have q0 : wc.cell? ⟨w.heap.size, 0, none⟩ = some (.int .i64 k) := (hbel.cell (p := ⟨w.heap.size, 0, none⟩) (Nat.lt_succ_self _)).trans q0
    have q1 : wc.cell? ⟨w.heap.size, 1, none⟩ = some (.int .i64 n) := (hbel.cell (p := ⟨w.heap.size, 1, none⟩) (Nat.lt_succ_self _)).trans (hB.cell 1)
    have q2 : wc.cell? ⟨w.heap.size, 2, none⟩ = some (.string ⟨s.toArray⟩) := (hbel.cell (p := ⟨w.heap.size, 2, none⟩) (Nat.lt_succ_self _)).trans (hB.cell 2)
    have q3 : wc.cell? ⟨w.heap.size, 3, none⟩ = some (.slice I i.length ci) := (hbel.cell (p := ⟨w.heap.size, 3, none⟩) (Nat.lt_succ_self _)).trans (hB.cell 3)
    have q4 : wc.cell? ⟨w.heap.size, 4, none⟩ = some (.slice L l.length cl) := (hbel.cell (p := ⟨w.heap.size, 4, none⟩) (Nat.lt_succ_self _)).trans (hB.cell 4)
    have H := Lib.hid ((h.below hwc).more hsc)
    have HB0 := Lib.hid hB
    clear hB h HG1 HG2 HV f0 hr hrw hbx hb2
    obtain ⟨PB, hPB⟩ : ∃ PB, PB = bs ++ [k.toNat.toUInt8] := ⟨_, rfl⟩
    rw [← hPB] at hown
    have hPl : PB.length = bs.length + 1 := by rw [hPB]; simp
    have HPB := Lib.hid hPB
    have HPL := Lib.hid hPl
    have hPl2 : PB.length + (enV ⟨k, n, s, i, l⟩).length ≤ 1099511627777 := by omega
    clear hPB hPl
    have hOK := Lib.hid hok
    clear hok
    have hcases : k = 0 ∨ k = 1 ∨ k = 2 ∨ k = 3 ∨ k = 4 ∨ k = 5 := by omega
    rcases hcases with rfl | rfl | rfl | rfl | rfl | rfl
    · have he := Lib.hid (show bs ++ enV ⟨0, n, s, i, l⟩ = PB by rw [HPB.out]; rfl)
      go_wp2_with fail
      go_ret
      exact ⟨_, rfl, by rw [he.out]; exact own_base hown (by omega), hwc⟩
    · have he := Lib.hid (show bs ++ enV ⟨1, n, s, i, l⟩ = PB ++ enI n by rw [HPB.out, List.append_assoc]; rfl)
      go_wp2_with (go_at_call 56; refine (putInt_any _ PB n w.heap.size _ (own_base hown (by omega)) hsc (by omega) H.out.n64).mono ?_; rintro e w3 ⟨v3, rfl, ho3, hb3⟩)
      go_ret
      exact ⟨_, rfl, by rw [he.out]; exact ho3, hwc.trans hb3⟩
    · have hn : n = 0 ∨ n = 1 := by
        have := hOK.out
        simp [GV.ok] at this
        omega
      have hn0 : 0 ≤ n := by omega
      have hn1 : n ≤ 1 := by omega
      have HNZ := Lib.hid (show n = (n.toNat : Int) by omega)
      have he := Lib.hid (show bs ++ enV ⟨2, n, s, i, l⟩ = PB ++ [n.toNat.toUInt8] by rw [HPB.out, List.append_assoc]; rfl)
      clear hn
      go_wp2_with (at_builtin; refine wp_append_byte _ rfl (.tmp 26) (.tmp 30) rfl w.heap.size _ PB n.toNat _ _ rfl ((own_base hown (Nat.le_succ _)).alloc _) rfl (cell_new1 _ _ _) HNZ.out (by omega) (by omega) (by simp; omega) ?_; intro v4 w4 ho4 hb4)
      go_ret
      exact ⟨_, rfl, by rw [he.out]; exact ho4, (hwc.alloc hsc _).trans hb4⟩
    · have he := Lib.hid (show bs ++ enV ⟨3, n, s, i, l⟩ = PB ++ enS s by rw [HPB.out, List.append_assoc]; rfl)
      have hsl := H.out.s40
      dsimp only at hsl
      go_wp2_with (go_at_call 62; refine (putStr_any _ PB s w.heap.size _ (own_base hown (by omega)) hsc (by omega)).mono ?_; rintro e w3 ⟨v3, rfl, ho3, hb3⟩)
      go_ret
      exact ⟨_, rfl, by rw [he.out]; exact ho3, hwc.trans hb3⟩
    · have he := Lib.hid (show bs ++ enV ⟨4, n, s, i, l⟩ = PB ++ enIs i by rw [HPB.out, List.append_assoc]; rfl)
      have hel := Lib.hid (show (enV ⟨4, n, s, i, l⟩).length = 1 + (enIs i).length by show (_ :: enIs i).length = _; simp; omega)
      obtain ⟨A5, c5, hv5, hc5, hr5⟩ := SliceOf.of_own (base := w.heap.size + 1) (e := 5) (by rw [byteCells_length]; exact hown)
      rw [byteCells_length] at hv5 hr5
      subst hv5
      go_wp2_with (go_at_call 34; refine (AppendInts_any A5 I c5 ci PB i _ hr5 H.out.ri (by have := hel.out; have := HPL.out; omega) H.out.i40 H.out.i64).mono ?_; rintro e w3 ⟨v3, rfl, ho3, hb3⟩)
      go_ret
      exact ⟨_, rfl, by rw [he.out]; exact own_base ho3 hsc, hwc.trans (hb3.mono hsc)⟩
    · have he := Lib.hid (show bs ++ enV ⟨5, n, s, i, l⟩ = PB ++ enSs l by rw [HPB.out, List.append_assoc]; rfl)
      have hel := Lib.hid (show (enV ⟨5, n, s, i, l⟩).length = 1 + (enSs l).length by show (_ :: enSs l).length = _; simp; omega)
      obtain ⟨A5, c5, hv5, hc5, hr5⟩ := SliceOf.of_own (base := w.heap.size + 1) (e := 5) (by rw [byteCells_length]; exact hown)
      rw [byteCells_length] at hv5 hr5
      subst hv5
      go_wp2_with (go_at_call 36; refine (AppendStrings_any A5 L c5 cl PB l _ hr5 H.out.rl (by have := hel.out; have := HPL.out; omega) H.out.l40).mono ?_; rintro e w3 ⟨v3, rfl, ho3, hb3⟩)
      go_ret
      exact ⟨_, rfl, by rw [he.out]; exact own_base ho3 hsc, hwc.trans (hb3.mono hsc)⟩

set_option maxRecDepth 100000 in
set_option maxHeartbeats 1000000 in
theorem appendValue_no (v : GV) (A I L : Option Addr) (c ci cl : Nat) (bs : List UInt8) (w : World) (h : GVarg w w.heap.size v I L ci cl) (hok : v.ok = false) :
    Calls Tryd.prog 45 #[.slice A bs.length c, gvV v I L ci cl] w (fun e w' => e = .returned (.slice none 0 0) ∧ Below w.heap.size w w') := by
  have HV := Lib.hid (fun W (hW : Below w.heap.size w W) => valid_any v I L ci cl w.heap.size W (h.below hW) hW.size)
  rw [hok] at HV
  obtain ⟨k, n, s, i, l⟩ := v
  dsimp only [gvV, strV] at *
  have hbx := (Below.refl w.heap.size w).alloc (Nat.le_refl _)
  clear hok h
  go_enter Tryd.func45, Tryd.ntmps45
  go_wp2_with (go_at_call 42; refine (HV.out _ (hbx _)).mono ?_; rintro e w2 ⟨rfl, hb2⟩)
  go_ret
  exact ⟨rfl, (hbx _).trans (hb2.mono (by simp))⟩
end Go.Proofs.YtklihjgmmliejaaDoor.W
