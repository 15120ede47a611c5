/- The walk of WireCanonical: it returns true, whatever comes in. -/
import Derived.Test.YtccgjdbopniifaaDoorWMath6
import Derived.Deep.RegionHeld3
import Derived.IntWalk
namespace Go.Proofs.YtccgjdbopniifaaDoor.W
set_option linter.unusedVariables false
open Go.RowKit
open Go.Lib (byteCells byteCells_length byteCells_append byteCells_snoc)

set_option maxRecDepth 100000 in
set_option maxHeartbeats 1000000 in
theorem canon_no (n : Nat) (max : Int) (A : Option Addr) (c : Nat) (w : World) (ht : Tab w) (hbad : 1000 < n) (hn : n ≤ 9223372036854775807) :
    Calls Tryd.prog 8 #[.slice A n c, .int .u8 max] w fun e w' => e = .returned (.bool true) ∧ Below w.heap.size w w' := by
  have CA := Lib.hid (awake_any _ ht)
  clear ht
  have f1 : (1000 : Int) < (n : Int) := by omega
  go_enter Tryd.func8, Tryd.ntmps8
  go_wp2_with (go_at_call 13; refine CA.out.mono ?_; rintro e w1 ⟨rfl, hq1⟩)
  go_ret
  exact ⟨rfl, hq1⟩
theorem slice_to1 {w : World} {B n c k : Nat} {A : Option Addr} {bs : List UInt8} (h : Reads w B 1 A n (byteCells bs)) (hn : n ≤ c) (hk : k ≤ n) :
    ∀ (W : World), (Instr.slice 22 (.slice A n c) none (some (.int .i64 (k : Int))) none).run Tryd.prog W = .ok (.slice A k c) W := by
  intro W
  rw [run_slice_h W 22 A n c (by simp [go_sem]) .i64 k (by omega) (by omega)]
  simp [go_sem]
theorem appString_at {A : Option Addr} {c n : Nat} {s : List UInt8} {bs : List UInt8} {w : World} (hr : Reads w w.heap.size 1 A n (byteCells bs)) (hl : bs.length ≤ 1099511627776) (hs : s.length ≤ 1099511627776) (m : Nat) (hm : (bs ++ enS s).length = m) :
    Calls Tryd.prog 32 #[.slice A n c, .string ⟨s.toArray⟩] w (OwnS w.heap.size w (bs ++ enS s) m) := by
  obtain rfl := hr.len
  exact (AppendString_any A c bs ⟨s.toArray⟩ w hr hl (by show s.toArray.size ≤ _; simpa using hs)).mono fun _ _ h => h.to _ m (by simp) hm
theorem appInts_at {A L : Option Addr} {c d n : Nat} {l : List Int} {bs : List UInt8} {w : World} (hr : Reads w w.heap.size 1 A n (byteCells bs)) (hL : Reads w w.heap.size 1 L l.length (l.map intV)) (hl : bs.length + (enIs l).length ≤ 1099511627776) (hll : l.length ≤ 1099511627776) (hel : ∀ x ∈ l, In64 x) (m : Nat) (hm : (bs ++ enIs l).length = m) :
    Calls Tryd.prog 34 #[.slice A n c, .slice L l.length d] w (OwnS w.heap.size w (bs ++ enIs l) m) := by
  obtain rfl := hr.len
  exact (AppendInts_any A L c d bs l w hr hL hl hll hel).mono fun _ _ h => h.to _ m rfl hm
theorem stringDec_at {A : Option Addr} {c B n : Nat} {bs : List UInt8} {w : World} (max : Int) (hr : Reads w B 1 A n (byteCells bs)) (hn : bs.length ≤ 1099511627776) (hcap : n ≤ c) (hmax : In64 max) (s : List UInt8) (k e : Nat) (h : rdS bs max = (s, k, e)) :
    Calls Tryd.prog 24 #[.slice A n c, .int .i64 max] w fun e' w' => e' = .returned (.tuple #[.string ⟨s.toArray⟩, .int .i64 k, .int .i64 e]) ∧ w = w' := by
  obtain rfl := hr.len
  have h1 := string_any A c B bs max w hr hn hcap hmax
  rw [h] at h1
  exact h1
def IntsS (w : World) (l : List Int) (n err : Nat) (en : Ending) (w' : World) : Prop :=
  ∃ A c, en = .returned (.tuple #[.slice A l.length c, .int .i64 n, .int .i64 err]) ∧ l.length ≤ c ∧ Reads w' w'.heap.size 1 A l.length (l.map intV) ∧ Below w.heap.size w w'
theorem ints_at {A : Option Addr} {c n : Nat} {bs : List UInt8} {w : World} (max : Int) (hr : Reads w w.heap.size 1 A n (byteCells bs)) (hn : bs.length ≤ 1099511627776) (hcap : n ≤ c) (hmax : In64 max) (l : List Int) (k e : Nat) (h : rdIs bs max = (l, k, e)) :
    Calls Tryd.prog 26 #[.slice A n c, .int .i64 max] w (IntsS w l k e) := by
  obtain rfl := hr.len
  have h1 := IntList_any A c bs max w hr hn hcap hmax
  rw [h] at h1
  refine h1.mono fun e' w' ⟨v, he, ho, hb⟩ => ?_
  obtain ⟨L, d, rfl, hd, hL⟩ := SliceOf.of_own ho
  rw [List.length_map] at hd hL he
  exact ⟨L, d, he, hd, hL, hb⟩
theorem GVarg.of_ok {w : World} {B : Nat} {v : GV} {I L : Option Addr} {ci cl : Nat} (hok : v.ok = true) (hin : v.in64) (ri : Reads w B 1 I v.i.length (v.i.map intV)) (rl : Reads w B 1 L v.l.length (v.l.map strV)) (hci : v.i.length ≤ ci) (hcl : v.l.length ≤ cl) : GVarg w B v I L ci cl := by
  have hk : 0 ≤ v.kind ∧ v.kind ≤ 5 ∧ v.s.length ≤ 64 ∧ v.i.length ≤ 16 ∧ v.l.length ≤ 16 ∧ tooL v.l = false := by
    rcases (GV.ok_iff v).1 hok with h | h | h | h | h | h
    · obtain ⟨h1, _, h2, h3, h4⟩ := h; rw [h1, h2, h3, h4]; simp [tooL]
    · obtain ⟨h1, h2, h3, h4⟩ := h; rw [h1, h2, h3, h4]; simp [tooL]
    · obtain ⟨h1, _, h2, h3, h4⟩ := h; rw [h1, h2, h3, h4]; simp [tooL]
    · obtain ⟨h1, h2, _, h3, h4⟩ := h; rw [h1, h3, h4]; simp [tooL]; omega
    · obtain ⟨h1, h2, _, h3, h4⟩ := h; rw [h1, h3, h4]; simp [tooL]; omega
    · obtain ⟨h1, h2, ht, _, h3, h4⟩ := h; rw [h1, h3, h4, ht]; simp; omega
  obtain ⟨a1, a2, a3, a4, a5, a6⟩ := hk
  exact { ri := ri, rl := rl, hci := hci, hcl := hcl, k64 := ⟨by omega, by omega⟩, n64 := hin.1, i64 := hin.2, s40 := by omega, i40 := by omega, l40 := by omega, e40 := fun s hs => by have := tooL_no a6 s hs; omega }

set_option maxRecDepth 100000 in
set_option maxHeartbeats 8000000 in
theorem canon_yes (n max : Nat) (A : Option Addr) (c : Nat) (bs : List UInt8) (w : World) (ht : Tab w) (ha : Reads w w.heap.size 1 A n (byteCells bs)) (hc : n ≤ c) (hn : n ≤ 1000) (hmx : max < 256) :
    Calls Tryd.prog 8 #[.slice A n c, .int .u8 max] w fun e w' => e = .returned (.bool true) ∧ Below w.heap.size w w' := by
  have CA := Lib.hid (awake_any _ ht)
  have f0 : ¬ (1000 : Int) < (n : Int) := by omega
  have hlen := ha.len
  have hmax : In64 (max : Int) := ⟨by omega, by omega⟩
  have RA := Lib.hid (fun W (hW : Below w.heap.size w W) => (ha.below hW).more hW.size)
  have HT := Lib.hid ht
  have SL := Lib.hid (fun k (hk : k ≤ n) => slice_to1 ha hc hk)
  have SM := Lib.hid (fun W (hW : Below w.heap.size w W) (X : List UInt8) (k : Nat) (hX : Canon bs X k) (A' : Option Addr) (c' : Nat) (h : Reads W W.heap.size 1 A' k (byteCells X)) =>
    same_at (A := A) (c := c) (n := k) (A' := A') (c' := c') (n' := k) ((RA.out W hW).takeTo (k := k) (by rw [hlen]; exact hX.2.2.1)) h true (by rw [hX.2.2.2]; simp))
  obtain ⟨⟨u1, n1, e1⟩, hu1⟩ : ∃ r, rdU bs = r := ⟨_, rfl⟩
  obtain ⟨⟨u2, n2, e2⟩, hu2⟩ : ∃ r, rdI bs = r := ⟨_, rfl⟩
  obtain ⟨⟨u3, n3, e3⟩, hu3⟩ : ∃ r, rdS bs max = r := ⟨_, rfl⟩
  obtain ⟨⟨u4, n4, e4⟩, hu4⟩ : ∃ r, rdIs bs max = r := ⟨_, rfl⟩
  obtain ⟨⟨⟨k, m, s, i, l⟩, n5, e5⟩, hu5⟩ : ∃ r, rdV bs = r := ⟨_, rfl⟩
  obtain ⟨⟨k6, b6, n6, e6⟩, hu6⟩ : ∃ r, rdOpen bs = r := ⟨_, rfl⟩
  have C5 := Lib.hid (fun W (hW : Below w.heap.size w W) => (value_at (c := c) (RA.out W hW) (by rw [← hlen]; omega) hc).mono fun _ _ h => h.to ⟨k, m, s, i, l⟩ i.length l.length n5 e5 (by rw [hu5]) rfl rfl (by rw [hu5]) (by rw [hu5]))
  have C6 := Lib.hid (fun W (hW : Below w.heap.size w W) => (open_at (c := c) (RA.out W hW) hc (by rw [← hlen]; omega) (ht.on hW)).mono fun _ _ h => h.to k6 b6 b6.length n6 e6 (by rw [hu6]) (by rw [hu6]) rfl (by rw [hu6]) (by rw [hu6]))
  have K5 := Lib.hid (fun (he : e5 = 0) => canonV (v := ⟨k, m, s, i, l⟩) (n := n5) (b := bs) (by rw [hu5, he]))
  have K6 := Lib.hid (fun (he : e6 = 0) => canonO (body := b6) (k := k6) (n := n6) (b := bs) (by rw [hu6, he]))
  have C1 := Lib.hid (fun W (hW : Below w.heap.size w W) => uint_at' (c := c) (RA.out W hW) (by rw [← hlen]; omega) u1 n1 e1 hu1)
  have C2 := Lib.hid (fun W (hW : Below w.heap.size w W) => int_at (c := c) (RA.out W hW) (by rw [← hlen]; omega) u2 n2 e2 hu2)
  have C3 := Lib.hid (fun W (hW : Below w.heap.size w W) => stringDec_at (c := c) (max : Int) (RA.out W hW) (by rw [← hlen]; omega) hc hmax u3 n3 e3 hu3)
  have C4 := Lib.hid (fun W (hW : Below w.heap.size w W) => ints_at (c := c) (max : Int) (RA.out W hW) (by rw [← hlen]; omega) hc hmax u4 n4 e4 hu4)
  have K1 := Lib.hid (fun (he : e1 = 0) => canonU (by rw [hu1, he]))
  have K2 := Lib.hid (fun (he : e2 = 0) => canonI (by rw [hu2, he]))
  have K3 := Lib.hid (fun (he : e3 = 0) => canonS (by rw [hu3, he]))
  have K4 := Lib.hid (fun (he : e4 = 0) => canonIs (by rw [hu4, he]))
  have HL := Lib.hid hlen
  clear hu1 hu2 hu3 hu4 hu5 hu6 ha ht hlen
  go_enter Tryd.func8, Tryd.ntmps8
  go_upto_region 6 with (first
    | (go_at_call 13; refine CA.out.mono ?_; rintro e w1 ⟨rfl, hq1⟩)
    | (go_at_call 14; refine (C1.out _ hq1).mono ?_; rintro e wz ⟨rfl, rfl⟩))
  go_cut [57] (fun s wx => s = .bool false ∧ Below w.heap.size w wx)
  case first =>
    as_aux_lemma =>
      by_cases he : e1 = 0
      · obtain ⟨hlt, hC⟩ := K1.out he
        subst he
        have g1 : ¬ (n1 : Int) < 1 := by have := hC.2.1; omega
        have g2 : ¬ (n : Int) < (n1 : Int) := by have := hC.2.2.1; have := HL.out; omega
        have hsl := SL.out n1 (by have := hC.2.2.1; have := HL.out; omega)
        skip
        have cu := fun W (hW : Below w1.heap.size w1 W) => appendUint_at (c := 0) (A := none) (bs := []) (w := W) Reads.nothing (by simp) hlt n1 (by rw [List.nil_append]; exact hC.1)
        simp only [List.nil_append] at cu
        have CU := Lib.hid cu
        have HC := Lib.hid hC
        clear cu hC
        generalize enU u1 = X at *
        go_region_held3 (fun _ => True) (trivial)
          (first
            | (go_at_call 19; (with_reducible refine (CU.out _ (by exact (Below.refl _ _).drew)).mono ?_); rintro e wB ⟨AB, cB, rfl, hcB, hoB, hrB, hqB⟩; (have hbB := bstep (hq1.drew) hqB))
            | (go_at_call 18; (with_reducible refine (SM.out _ (by exact hbB) X n1 HC.out AB cB (by exact hrB)).mono ?_); rintro e wC ⟨rfl, rfl⟩))
        all_goals (go_wp2; go_meet; exact ⟨rfl, hbB⟩)
      · have hbn : ((e1 : Int) == 0) = false := beqF (by omega)
        go_quiet (fail)
        go_wp2
        go_meet
        exact ⟨rfl, below_drewN hq1 _⟩
  case rest =>
  obtain ⟨rfl, hA⟩ := hcut
  obtain ⟨wA, rfl⟩ : ∃ x, x = wc := ⟨_, rfl⟩
  as_aux_lemma =>
  go_upto_region 9 with (first
    | (go_at_call 16; refine (C2.out _ hA).mono ?_; rintro e wz ⟨rfl, rfl⟩))
  go_cut [84] (fun s wx => s = .bool false ∧ Below w.heap.size w wx)
  case first =>
    as_aux_lemma =>
      by_cases he : e2 = 0
      · obtain ⟨hlt, hC⟩ := K2.out he
        subst he
        have g1 : ¬ (n2 : Int) < 1 := by have := hC.2.1; omega
        have g2 : ¬ (n : Int) < (n2 : Int) := by have := hC.2.2.1; have := HL.out; omega
        have hsl := SL.out n2 (by have := hC.2.2.1; have := HL.out; omega)
        skip
        have cu := fun W (hW : Below wA.heap.size wA W) => appendInt_at (c := 0) (A := none) (bs := []) (w := W) Reads.nothing (by simp) hlt n2 (by rw [List.nil_append]; exact hC.1)
        simp only [List.nil_append] at cu
        have CU := Lib.hid cu
        have HC := Lib.hid hC
        clear cu hC
        generalize enI u2 = X at *
        go_region_held3 (fun _ => True) (trivial)
          (first
            | (go_at_call 22; (with_reducible refine (CU.out _ (by exact (Below.refl _ _).drew)).mono ?_); rintro e wB ⟨AB, cB, rfl, hcB, hoB, hrB, hqB⟩; (have hbB := bstep (hA.drew) hqB))
            | (go_at_call 18; (with_reducible refine (SM.out _ (by exact hbB) X n2 HC.out AB cB (by exact hrB)).mono ?_); rintro e wC ⟨rfl, rfl⟩))
        all_goals (go_wp2; go_meet; exact ⟨rfl, hbB⟩)
      · have hbn : ((e2 : Int) == 0) = false := beqF (by omega)
        go_quiet (fail)
        go_wp2
        go_meet
        exact ⟨rfl, below_drewN hA _⟩
  case rest =>
  obtain ⟨rfl, hB⟩ := hcut
  obtain ⟨wB, rfl⟩ : ∃ x, x = wc := ⟨_, rfl⟩
  as_aux_lemma =>
  go_upto_region 12 with (first
    | (go_at_call 24; refine (C3.out _ hB).mono ?_; rintro e wz ⟨rfl, rfl⟩))
  go_cut [120] (fun s wx => s = .bool false ∧ Below w.heap.size w wx)
  case first =>
    as_aux_lemma =>
      by_cases he : e3 = 0
      · obtain ⟨hm, hC⟩ := K3.out he
        subst he
        have g1 : ¬ (n3 : Int) < 1 := by have := hC.2.1; omega
        have g2 : ¬ (n : Int) < (n3 : Int) := by have := hC.2.2.1; have := HL.out; omega
        have hsl := SL.out n3 (by have := hC.2.2.1; have := HL.out; omega)
        have g3 : ¬ (max : Int) < (u3.length : Int) := by omega
        have hwm : IntKind.i64.wrap (max : Int) = (max : Int) := IntWalk.i64_in _ ⟨by omega, by omega⟩
        have cu := fun W (hW : Below wB.heap.size wB W) => appString_at (s := u3) (c := 0) (A := none) (bs := []) (w := W) Reads.nothing (by simp) (by omega) n3 (by rw [List.nil_append]; exact hC.1)
        simp only [List.nil_append] at cu
        have CU := Lib.hid cu
        have HC := Lib.hid hC
        clear cu hC
        generalize enS u3 = X at *
        go_region_held3 (fun _ => True) (trivial)
          (first
            | (go_at_call 32; (with_reducible refine (CU.out _ (by exact (Below.refl _ _).drew)).mono ?_); rintro e wB ⟨AB, cB, rfl, hcB, hoB, hrB, hqB⟩; (have hbB := bstep (hB.drew) hqB))
            | (go_at_call 18; (with_reducible refine (SM.out _ (by exact hbB) X n3 HC.out AB cB (by exact hrB)).mono ?_); rintro e wC ⟨rfl, rfl⟩))
        all_goals (go_wp2; go_meet; exact ⟨rfl, hbB⟩)
      · have hbn : ((e3 : Int) == 0) = false := beqF (by omega)
        go_quiet (fail)
        go_wp2
        go_meet
        exact ⟨rfl, below_drewN hB _⟩
  case rest =>
  obtain ⟨rfl, hCC⟩ := hcut
  obtain ⟨wC, rfl⟩ : ∃ x, x = wc := ⟨_, rfl⟩
  as_aux_lemma =>
  go_upto_region 15 with (first
    | (go_at_call 26; refine (C4.out _ hCC).mono ?_; rintro e wz ⟨L4, d4, rfl, hd4, hr4, hq4⟩))
  go_cut [156] (fun s wx => s = .bool false ∧ Below w.heap.size w wx)
  case first =>
    as_aux_lemma =>
      by_cases he : e4 = 0
      · obtain ⟨hm, hi, hC⟩ := K4.out he
        subst he
        have g1 : ¬ (n4 : Int) < 1 := by have := hC.2.1; omega
        have g2 : ¬ (n : Int) < (n4 : Int) := by have := hC.2.2.1; have := HL.out; omega
        have hsl := SL.out n4 (by have := hC.2.2.1; have := HL.out; omega)
        have g3 : ¬ (max : Int) < (u4.length : Int) := by omega
        have hwm : IntKind.i64.wrap (max : Int) = (max : Int) := IntWalk.i64_in _ ⟨by omega, by omega⟩
        have cu := fun W (hW : Below wz.heap.size wz W) => appInts_at (c := 0) (A := none) (bs := []) (w := W) (L := L4) (d := d4) Reads.nothing ((hr4.below hW).more hW.size) (by rw [List.length_nil, hC.1]; have := hC.2.2.1; have := HL.out; omega) (by omega) hi n4 (by rw [List.nil_append]; exact hC.1)
        simp only [List.nil_append] at cu
        have CU := Lib.hid cu
        have HC := Lib.hid hC
        clear cu hC
        generalize enIs u4 = X at *
        go_region_held3 (fun _ => True) (trivial)
          (first
            | (go_at_call 34; (with_reducible refine (CU.out _ (by exact (Below.refl _ _).drew)).mono ?_); rintro e wB ⟨AB, cB, rfl, hcB, hoB, hrB, hqB⟩; (have hbB := bstep ((bstep hCC hq4).drew) hqB))
            | (go_at_call 18; (with_reducible refine (SM.out _ (by exact hbB) X n4 HC.out AB cB (by exact hrB)).mono ?_); rintro e wC ⟨rfl, rfl⟩))
        all_goals (go_wp2; go_meet; exact ⟨rfl, hbB⟩)
      · have hbn : ((e4 : Int) == 0) = false := beqF (by omega)
        go_quiet (fail)
        go_wp2
        go_meet
        exact ⟨rfl, below_drewN (bstep hCC hq4) _⟩
  case rest =>
  obtain ⟨rfl, hD⟩ := hcut
  obtain ⟨wD, rfl⟩ : ∃ x, x = wc := ⟨_, rfl⟩
  as_aux_lemma =>
  go_upto_region 18 with (first
    | (go_at_call 39; refine (C5.out _ hD).mono ?_; rintro e wz ⟨I5, ci5, L5, cl5, rfl, hi5, hl5, hri5, hrl5, hq5⟩))
  have hz5 := bstep hD hq5
  have hy5 := hz5.alloc hz5.size (.cells #[.int .i64 k, .int .i64 m, .string ⟨s.toArray⟩, .slice I5 i.length ci5, .slice L5 l.length cl5] 55)
  have hyz : Below wz.heap.size wz (wz.alloc (.cells #[.int .i64 k, .int .i64 m, .string ⟨s.toArray⟩, .slice I5 i.length ci5, .slice L5 l.length cl5] 55)) := (Below.refl _ _).alloc (Nat.le_refl _) _
  have HBY := Lib.hid (Blk.new wz 55 #[.int .i64 k, .int .i64 m, .string ⟨s.toArray⟩, .slice I5 i.length ci5, .slice L5 l.length cl5])
  obtain ⟨g, hg⟩ : ∃ g, g = wz.heap.size := ⟨_, rfl⟩
  have HRI := Lib.hid ((hri5.below hyz).more hyz.size)
  have HRL := Lib.hid ((hrl5.below hyz).more hyz.size)
  rw [← hg] at HBY ⊢
  generalize wz.alloc (.cells #[.int .i64 k, .int .i64 m, .string ⟨s.toArray⟩, .slice I5 i.length ci5, .slice L5 l.length cl5] 55) = wy at *
  clear hri5 hrl5 hyz hg
  go_cut [188] (fun s wx => s = .bool false ∧ Below w.heap.size w wx)
  case first =>
    as_aux_lemma =>
      by_cases he : e5 = 0
      · obtain ⟨hok, hin, hC⟩ := K5.out he
        subst he
        have g1 : ¬ (n5 : Int) < 1 := by have := hC.2.1; omega
        have g2 : ¬ (n : Int) < (n5 : Int) := by have := hC.2.2.1; have := HL.out; omega
        have hsl := SL.out n5 (by have := hC.2.2.1; have := HL.out; omega)
        have hga := Lib.hid (GVarg.of_ok (ci := ci5) (cl := cl5) hok hin HRI.out HRL.out hi5 hl5)
        have cv := fun W (hW : Below wy.heap.size wy W) => valid_any ⟨k, m, s, i, l⟩ I5 L5 ci5 cl5 wy.heap.size W (hga.out.below hW) hW.size
        rw [hok] at cv
        have ca := fun W (hW : Below wy.heap.size wy W) => appendValue_at (c := 0) (A := none) (bs := []) (w := W) Reads.nothing ((hga.out.below hW).more hW.size) (by rw [List.length_nil, hC.1]; have := hC.2.2.1; have := HL.out; omega) hok n5 (by rw [List.nil_append]; exact hC.1)
        simp only [List.nil_append] at ca
        dsimp only [gvV, strV] at cv ca
        have CV := Lib.hid cv
        have CW := Lib.hid ca
        have HC := Lib.hid hC
        clear cv ca hC hok hin
        generalize enV ⟨k, m, s, i, l⟩ = X at *
        go_region_held3 (fun w' => w'.cell? ⟨g, 0, none⟩ = some (.int .i64 k) ∧ w'.cell? ⟨g, 1, none⟩ = some (.int .i64 m) ∧ w'.cell? ⟨g, 2, none⟩ = some (.string ⟨s.toArray⟩) ∧ w'.cell? ⟨g, 3, none⟩ = some (.slice I5 i.length ci5) ∧ w'.cell? ⟨g, 4, none⟩ = some (.slice L5 l.length cl5))
          (first | exact HBB.out.box5 | exact HBV.out.box5 | exact HBY.out.box5)
          (first
            | (go_at_call 42; (with_reducible refine (CV.out _ (by exact (Below.refl _ _).drew)).mono ?_); rintro e wV ⟨rfl, hqV⟩; (have hbV : Below wy.heap.size wy wV := ((Below.refl _ _).drew).trans hqV); (have HBV := Lib.hid (HBY.out.below hbV HBY.out.lt)))
            | (go_at_call 45; (with_reducible refine (CW.out _ (by exact hbV)).mono ?_); rintro e wB ⟨AB, cB, rfl, hcB, hoB, hrB, hqB⟩; (have hbB := bstep hbV hqB); (have HBB := Lib.hid (HBY.out.below hbB HBY.out.lt)))
            | (go_at_call 18; (with_reducible refine (SM.out _ (by exact bstep hy5 hbB) X n5 HC.out AB cB (by exact hrB)).mono ?_); rintro e wC ⟨rfl, rfl⟩))
        all_goals (go_wp2; go_meet; exact ⟨rfl, bstep hy5 hbB⟩)
      · have hbn : ((e5 : Int) == 0) = false := beqF (by omega)
        go_quiet (fail)
        go_wp2
        go_meet
        exact ⟨rfl, below_drewN hy5 _⟩
  case rest =>
  obtain ⟨rfl, hE⟩ := hcut
  obtain ⟨wE, rfl⟩ : ∃ x, x = wc := ⟨_, rfl⟩
  as_aux_lemma =>
  by_cases he : e6 = 0
  · obtain ⟨hk1, hk2, hbl, hC⟩ := K6.out he
    subst he
    have g2 : (n6 : Int) ≤ (n : Int) := by have := hC.2.2.1; have := HL.out; omega
    have g3 : ((n6 : Int) == (n6 : Int)) = true := beqT rfl
    have hsl := SL.out n6 (by have := hC.2.2.1; have := HL.out; omega)
    have RS := Lib.hid (show rdSeal k6 b6 = (sealB k6 b6 ++ low4 (crc (sealB k6 b6)), 0) by unfold rdSeal; rw [if_neg (by omega)])
    have HC := Lib.hid hC
    clear hC
    generalize sealB k6 b6 ++ low4 (crc (sealB k6 b6)) = X at *
    go_wp2_with (first
      | (go_at_call 49; refine (C6.out _ hE).mono ?_; rintro e wF ⟨A6, c6, rfl, hc6, hr6, hq6⟩; (have hF := bstep hE hq6))
      | (go_at_call 47; refine ((seal_at k6 hr6 (HT.out.on hF) (by omega)).mono fun _ _ h => h.to X n6 0 (by rw [RS.out]) HC.out.1 (by rw [RS.out]; rfl)).mono ?_; rintro e wG ⟨A7, c7, rfl, hc7, ho7, hr7, hq7⟩; (have hG := bstep hF hq7))
      | (go_at_call 18; (with_reducible refine (SM.out _ (by exact hG) X n6 HC.out A7 c7 (by exact hr7)).mono ?_); rintro e wH ⟨rfl, rfl⟩))
    go_ret
    exact ⟨rfl, hG⟩
  · have hbn : ((e6 : Int) == 0) = false := beqF (by omega)
    go_wp2_with (first
      | (go_at_call 49; refine (C6.out _ hE).mono ?_; rintro e wF ⟨A6, c6, rfl, hc6, hr6, hq6⟩; (have hF := bstep hE hq6)))
    go_ret
    exact ⟨rfl, hF⟩
end Go.Proofs.YtccgjdbopniifaaDoor.W
