/- Layer 4: the walk of OverlayCircle. -/
import Derived.Test.YtobahkjlblgdjaaDoorONeigh
namespace Go.Proofs.YtobahkjlblgdjaaDoor.O
set_option linter.unusedVariables false
open Go.RowKit
open Go.Proofs.YtobahkjlblgdjaaDoor.W
open Go.Proofs.YtobahkjlblgdjaaDoor.V

theorem apt_lt {w1 w2 : World} {base b2 : Nat} {v1 v2 : Value} {n1 n2 : Nat} {x1 x2 : List Value} (h1 : w1.ownsRow base 3 1 v1 n1 x1) (h2 : w2.ownsRow b2 3 1 v2 n2 x2) (hb : w1.heap.size ≤ b2) : Apt v1 v2 := by
  unfold Apt
  cases e1 : v1.ownBlock with
  | none => exact .inl rfl
  | some q1 =>
    refine .inr fun e => ?_
    have hq := (h1.lt _ e1).2
    have hq2 := (h2.lt _ e.symm).1
    omega
/-- The members in the order of a ring, from the first of the list on. -/
theorem circ_exists {l : List Int} (hv : validM l = true) (h2 : 2 ≤ l.length) (r : Int) {x0 : Int} (h0 : l[0]? = some x0) : ∃ c : List Int, Rot (ordK (K r) l) c ∧ c.length = l.length ∧ c.head? = some x0 ∧ c.Nodup := by
  obtain ⟨R, hR⟩ := Rot.at_ (mem_ordK (k := K r).2 (List.mem_of_getElem? h0))
  exact ⟨x0 :: R, hR, by rw [hR.len, len_ordK], rfl, hR.nodup (sasc_of inj_K hv r).nodup⟩
theorem rings_map_at {f : Int → Int} {k : Nat} (h : k < 5) : (rings.map f)[k]? = some (f k) := by rw [List.getElem?_map, rings_at h]; rfl
set_option maxRecDepth 100000 in
set_option maxHeartbeats 4000000 in
theorem circle_walk (l : List Int) (i : Nat) (A : Option Addr) (c : Nat) (w : World) (h : LR w w.heap.size l A c) (hi : i < 256) (ht : H.Tab w) :
    Calls Tryd.prog 4 #[.slice A l.length c, .int .u8 (i : Int)] w (PB w true) := by
  have HT := Lib.hid (fun W (hW : Below w.heap.size w W) => ht.on hW)
  have AW := Lib.hid (awake_any w ht)
  have LH := Lib.hid h
  have CV := Lib.hid (fun W (hW : Below w.heap.size w W) => refValidM_big A c l W (h.up hW))
  have hl := h.l63
  clear h ht
  cases hv : validM l
  · rw [hv] at CV
    go_enter Tryd.func4, Tryd.ntmps4
    go_wp2_with (first
      | (go_at_call 9; (with_reducible refine AW.out.mono ?_); rintro e w1 ⟨rfl, b1⟩)
      | (go_at_call 21; (with_reducible refine (CV.out _ b1).mono ?_); rintro e w2 ⟨rfl, q2⟩; have b2 := bstep b1 q2))
    go_ret
    exact ⟨rfl, b2⟩
  rw [hv] at CV
  have hl16 := (validM_iff.1 hv).2.1
  by_cases h2 : l.length < 2
  · have f2 : (l.length : Int) < 2 := by omega
    clear hv h2
    go_enter Tryd.func4, Tryd.ntmps4
    go_wp2_with (first
      | (go_at_call 9; (with_reducible refine AW.out.mono ?_); rintro e w1 ⟨rfl, b1⟩)
      | (go_at_call 21; (with_reducible refine (CV.out _ b1).mono ?_); rintro e w2 ⟨rfl, q2⟩; have b2 := bstep b1 q2))
    all_goals try (exfalso; omega)
    go_ret
    exact ⟨rfl, b2⟩
  have f2 : ¬ (l.length : Int) < 2 := by omega
  have h2' : 2 ≤ l.length := by omega
  obtain ⟨n, hn⟩ : ∃ n, n = l.length := ⟨_, rfl⟩
  have HN := Lib.hid hn
  obtain ⟨k, hk⟩ : ∃ k, k = i % 5 := ⟨_, rfl⟩
  have hk5 : k < 5 := by omega
  have mk : (i : Int) % 5 = (k : Int) := by omega
  have tk : (i : Int).tmod 5 = (k : Int) := by rw [IntWalk.rem_in _ _ (by omega)]; exact mk
  have wk : IntKind.i64.wrap (k : Int) = (k : Int) := IntWalk.i64_in _ (by omega)
  have wk8 : IntKind.u8.wrap (k : Int) = (k : Int) := by rw [IntKind.wrap_u8]; omega
  obtain ⟨x0, hx0⟩ : ∃ x, l[0]? = some x := ⟨_, List.getElem?_eq_getElem (by omega)⟩
  obtain ⟨cc, hR, hcl, hch, hcn⟩ := circ_exists hv h2' (k : Int) hx0
  obtain ⟨ad, u, rfl, had, hx, hcell⟩ := LH.out.rd.at_ (k := 0) (by omega)
  have hux : u = .int .i64 x0 := by simp [hx0, intV] at hx; exact hx.symm
  rw [hux] at hcell
  have hcell0 : w.cell? ad = some (.int .i64 x0) := by simpa [Addr.add] using hcell
  have hel := in_ids (validM_iff.1 hv).2.2.2
  -- the steps of the circle
  have ST := Lib.hid (show ∀ j x, cc[j]? = some x → ∃ z, (cc[j + 1]?).getD x0 = z ∧ x ∈ l ∧ z ∈ l ∧ z ≠ x ∧ (subL K l x).length = 5 ∧ (subL K l x)[k]? = some z ∧ (obsL K l z).length = 5 ∧ (obsL K l z)[k]? = some x from fun j x hj => by
    have hxl : x ∈ l := by rw [← mem_ordK (k := K k), ← hR.mem]; exact List.mem_of_getElem? hj
    have hst := step_at inj_K hv h2' (k : Int) hR hj
    rw [hch, Option.getD_some] at hst
    have hf := next_facts inj_K hv h2' (k : Int) hxl
    rw [hst] at hf
    refine ⟨_, rfl, hxl, hf.1, hf.2.1, ?_, ?_, ?_, ?_⟩
    · rw [subL_eq hv h2' hxl]; rfl
    · rw [subL_eq hv h2' hxl, rings_map_at hk5, hst]
    · rw [obsL_mem hv h2' hf.1]; rfl
    · rw [obsL_mem hv h2' hf.1, rings_map_at hk5]; exact congrArg some hf.2.2)
  have CS := Lib.hid (fun x (x64 : In64 x) W (hW : Below w.heap.size w W) => (overSubjects_any x (some ad) c w.heap.size l W ((LH.out.ls (by omega)).below hW) hW.size x64 (HT.out W hW)))
  have CO := Lib.hid (fun x (x64 : In64 x) W (hW : Below w.heap.size w W) => (overObservers_any x (some ad) c w.heap.size l W ((LH.out.ls (by omega)).below hW) hW.size x64 (HT.out W hW)))
  have CR := Lib.hid (fun W (hW : Below w.heap.size w W) => (overOrder_any (k : Int) (some ad) c w.heap.size l W ((LH.out.ls (by omega)).below hW) hW.size ⟨by omega, by omega⟩ (HT.out W hW)).mono fun _ _ h => h.to (orderL l k) n rfl (by rw [orderL_eq hv (by omega) (by omega), len_ordK, hn]))
  have CH := Lib.hid (fun x (hx : x ∈ l) W (hW : Below w.heap.size w W) => has_any (some ad) c w.heap.size l.length l x W rfl (LH.out.rd.below hW) (by omega))
  have HEL := Lib.hid hel
  have HCN := Lib.hid hcn
  have HCL := Lib.hid (hcl.trans HN.out.symm)
  have HCH := Lib.hid hch
  rw [← hn] at CV f2 hl CS CO CR CH ⊢
  have n16 : n ≤ 16 := by omega
  have n2 : 2 ≤ n := by omega
  have npos : (0 : Int) < (n : Int) := by omega
  clear hv h2 h2' hl16 hn hk hx0 hR hcl hch hcn hx hux hcell hel
  go_enter Tryd.func4, Tryd.ntmps4
  go_wp2_with (first
    | (go_at_call 9; (with_reducible refine AW.out.mono ?_); rintro e w1 ⟨rfl, b1⟩)
    | (go_at_call 21; (with_reducible refine (CV.out _ b1).mono ?_); rintro e w2 ⟨rfl, q2⟩; (have b2 := bstep b1 q2); (have x1 := (b2.cell (p := ad) had).trans hcell0)))
  all_goals try (exfalso; omega)
  go_loopg [6, 7, 8] n (fun g s6 s7 s8 wr => ∃ j : Nat, j + g = n ∧ s8 = .int .i64 j ∧ s6 = .int .i64 ((cc[j]?).getD x0) ∧ Hid (wr.ownsRow w.heap.size 3 1 s7 (cc.take j).length ((cc.take j).map intV)) ∧ Below w.heap.size w wr)
  case atStart => exact ⟨0, by omega, rfl, by have := HCH.out; rw [List.head?_eq_getElem?] at this; rw [this]; rfl, World.ownsRow_nil _ _ _ _, b2⟩
  case round =>
    obtain ⟨j, hjg, rfl, rfl, HOWN, hbel⟩ := hrel
    obtain ⟨wo, rfl⟩ : ∃ wo : World, wo = wr := ⟨_, rfl⟩
    have hbs := hbel.size
    cases gk with
    | zero =>
      have hjz : ¬ ((j : Int) < (n : Int)) := by omega
      have hend : (cc[j]?).getD x0 = x0 := by rw [List.getElem?_eq_none (by have := HCL.out; omega)]; rfl
      have x1' := (hbel.cell (p := ad) had).trans hcell0
      rw [hend]
      clear hend
      go_wp2_with (go_at_call 11; (with_reducible refine (CR.out _ hbel).mono ?_); rintro e w4 ⟨A4, c4, rfl, k4, o4, r4, q4⟩; (have b4 : Below w.heap.size w w4 := bstep hbel q4); clear o4)
      go_ret
      exact ⟨rfl, b4⟩
    | succ g =>
      have hjz : (j : Int) < (n : Int) := by omega
      obtain ⟨x, hxj⟩ : ∃ x, cc[j]? = some x := ⟨_, List.getElem?_eq_getElem (by have := HCL.out; omega)⟩
      obtain ⟨z, hz, hxl, hzl, hzx, hs5, hsk, ho5, hok⟩ := ST.out j x hxj
      have hseen : hasB (cc.take j) x = false := by rw [hasB_mem]; simpa using take_not_mem HCN.out hxj
      have hin : hasB l x = true := hasB_iff.2 hxl
      have CS2 := Lib.hid (show Calls Tryd.prog 15 #[.slice (some ad) n c, .int .i64 x] wo (OutI wo (subL K l x) 5) from (CS.out x (HEL.out x hxl) wo hbel).mono fun _ _ h => h.to _ 5 rfl hs5)
      have CO2 := Lib.hid (fun W hW => show Calls Tryd.prog 13 #[.slice (some ad) n c, .int .i64 z] W (OutI W (obsL K l z) 5) from (CO.out z (HEL.out z hzl) W hW).mono fun _ _ h => h.to _ 5 rfl ho5)
      have CH2 := Lib.hid (fun W hW => show Calls Tryd.prog 22 #[.slice (some ad) n c, .int .i64 x] W (fun e w' => e = .returned (.bool true) ∧ W = w') from by have := CH.out x hxl W hW; rwa [hin] at this)
      have HS5 := Lib.hid hs5
      have HSK := Lib.hid hsk
      have HOK := Lib.hid hok
      have HZ := Lib.hid hz
      have hlen : (cc.take j).length = j := by rw [List.length_take]; have := HCL.out; omega
      have HX := Lib.hid (show (cc[j]?).getD x0 = x by rw [hxj]; rfl)
      have HTK := Lib.hid (show cc.take (j + 1) = cc.take j ++ [x] by rw [List.take_add_one, hxj]; rfl)
      rw [HX.out]
      have fzx : (z == x) = false := beqF hzx
      generalize subL K l x = S at *
      generalize obsL K l z = O at *
      generalize cc.take j = P at *
      obtain ⟨A7, c7, hv7, hc7, hr7⟩ := own_out HOWN.out
      rw [hlen] at hv7 hc7 hr7
      subst hv7
      have CH3 := Lib.hid (fun W (hW : Below wo.heap.size wo W) => show Calls Tryd.prog 22 #[.slice A7 j c7, .int .i64 x] W (fun e w' => e = .returned (.bool false) ∧ W = w') from by have := has_any A7 c7 wo.heap.size j P x W hlen.symm (hr7.below hW) (by omega); rwa [hseen] at this)
      have HLEN := Lib.hid hlen
      clear hxj hz hs5 hsk ho5 hok hzx hseen hin hxl hzl hlen hr7
      go_wp2_with (first
        | (go_at_call 15; (with_reducible refine CS2.out.mono ?_); rintro e w3 ⟨A3, c3, rfl, k3, o3, r3, q3⟩; (have b3 : Below w.heap.size w w3 := bstep hbel q3); (have O3 := Lib.hid o3); clear o3; obtain ⟨a3, rfl, ha3, hx3⟩ := out_cell r3 k z HSK.out hk5)
        | (go_at_call 22; (with_reducible refine (CH3.out _ q3).mono ?_); rintro e w4 ⟨rfl, rfl⟩)
        | (go_at_call 22; (with_reducible refine (CH2.out _ b3).mono ?_); rintro e w4 ⟨rfl, rfl⟩)
        | (go_at_call 13; (with_reducible refine (CO2.out _ b3).mono ?_); rintro e w5 ⟨A5, c5, rfl, k5, o5, r5, q5⟩; (have b5 : Below w.heap.size w w5 := bstep b3 q5); clear o5; obtain ⟨a5, rfl, ha5, hx5⟩ := out_cell r5 k x HOK.out hk5; (have hx35 := (q5.cell (p := a3.add k) (by rw [block_of_add]; exact ha3)).trans hx3))
        | (at_builtin; refine wp_append_tri _ rfl (.tmp 75) (.tmp 77) rfl w.heap.size (.slice A7 j c7) (.slice (some a3) 5 c3) (.slice none 0 0) P S [] [x] _ _ _ _ rfl (Row3.alloc ⟨own_below (own_below HOWN.out q3) q5, own_base (own_below (by rw [HS5.out]; exact O3.out) q5) hbs, World.ownsRow_nil _ _ _ _, apt_lt HOWN.out O3.out (Nat.le_refl _), Apt.symm (.inl rfl), Apt.symm (.inl rfl)⟩ _) rfl (reads_one _ _) (by have := HLEN.out; simp; omega) (Nat.le_trans b5.size (by simp)) ?_; intro v6 w6 ht6 hb6; (have HT6 := Lib.hid ht6); clear ht6; (have hx6 : w6.cell? (a3.add k) = some (.int .i64 z) := by have hr := Reads.of_own (A := some a3) (c := c3) (n := S.length) (base := w.heap.size) (e := 3) (by have := HT6.out.o2; rw [HS5.out] at this ⊢; exact this); obtain ⟨a9, hA9, _, hx9⟩ := out_cell hr k z HSK.out (by rw [HS5.out]; exact hk5); obtain rfl := Option.some.inj hA9; exact hx9))
        | fail)
      go_roundg g
      case measure => omega
      case rel => exact ⟨j + 1, by omega, by go_num, by rw [HZ.out], by rw [HTK.out]; exact HT6.out.o1, (b5.alloc b5.size _).trans hb6⟩
end Go.Proofs.YtobahkjlblgdjaaDoor.O
