/- Layer 6: the walk of AlertsCodes. -/
import Derived.Test.YtojhdljbpmjigaaDoorAAwake
import Derived.OrdersHeld
namespace Go.Proofs.YtojhdljbpmjigaaDoor.Al
set_option linter.unusedVariables false
set_option linter.unusedSimpArgs false
open Go.RowKit
open Go.Proofs.YtojhdljbpmjigaaDoor.W
open Go.Proofs.YtojhdljbpmjigaaDoor.V
open Go.Proofs.YtojhdljbpmjigaaDoor.O
open Go.Proofs.YtojhdljbpmjigaaDoor.Pb (Alr alrC alrsC two_blk)
open Go.Lib (byteCells byteCells_length)

/-- 'string(b)' of the bytes E. -/
theorem str_at {W : World} {X : Option Addr} {n z : Nat} {E : List UInt8} (h : Reads W W.heap.size 1 X n (byteCells E)) : (convert 37 9 (.slice X n z)).run Tryd.prog W = .ok (.string ⟨E.toArray⟩) W :=
  run_str Tryd.underlying37 Tryd.underlying5 Tryd.underlying9 h z
theorem wpAnyH_mono {P : Program} {ops : Array Oper} {Q : Exit → Act → World → Prop} {md : Region.Mode} {S S' : World → Prop} (hS : ∀ w, S' w → S w) : ∀ (fuel : Nat) (listed : Array Bool) (a : Act) (w : World), wpAnyH P md ops Q S' fuel listed a w → wpAnyH P md ops Q S fuel listed a w
  | 0, _, _, _, h => h
  | fuel + 1, _, _, _, h => ⟨h.1, fun i hi => wpOp_mono (fun a' w' h' => ⟨hS _ h'.1, wpAnyH_mono hS fuel _ a' w' h'.2⟩) (h.2 i hi)⟩
def OutDecN (w : World) (O : List Alr) (n k : Nat) (e : Ending) (w' : World) : Prop := ∃ A c, e = .returned (.tuple #[.slice A O.length c, .int .i64 (n : Int), .int .i64 (k : Int)]) ∧ AS w' w'.heap.size O A c ∧ Below w.heap.size w w'
theorem OutDec.to {w w' : World} {R : List Alr × Nat × Nat} {e : Ending} (h : OutDec w R e w') (O : List Alr) (n k : Nat) (hR : R = (O, n, k)) : OutDecN w O n k e w' := by subst hR; exact h
set_option maxRecDepth 1000000 in
set_option maxHeartbeats 8000000 in
theorem lawCodes_any (num : Int) (l : List Int) (A E F : Option Addr) (c cE cF : Nat) (s : List Alr) (bs : List UInt8) (w : World) (h : VW w w.heap.size num l A c) (hs : AS w w.heap.size s E cE) (hr : Reads w w.heap.size 1 F bs.length (byteCells bs)) (hcap : bs.length ≤ cF) (ht : H.Tab w) :
    Calls Tryd.prog 4 #[.agg #[.int .i64 num, .slice A l.length c], .slice E s.length cE, .slice F bs.length cF] w (PB w true) := by
  have hb0 := (Below.refl w.heap.size w).alloc (Nat.le_refl _) (.cells #[.int .i64 num, .slice A l.length c] 24)
  have hz := Blk.new w 24 #[.int .i64 num, .slice A l.length c]
  have AW := Lib.hid (fun W (hW : Below w.heap.size w W) => awake_any W (ht.on hW))
  have SA := Lib.hid (fun W => small_any num A E l.length c s.length cE W)
  obtain ⟨sa, hsa⟩ : ∃ t, t = (decide (l.length ≤ 60) && decide (s.length ≤ 150)) := ⟨_, rfl⟩
  rw [← hsa] at SA
  cases sa
  · have B0 := Lib.hid hb0
    have Z1 := Lib.hid hz
    clear hb0 hz h hs hr ht hsa hcap
    generalize l.length = n at *
    generalize s.length = m at *
    generalize bs.length = o at *
    go_enter Tryd.func4, Tryd.ntmps4
    go_upto_region 1 with fail
    generalize w.alloc (.cells #[.int .i64 num, .slice A n c] 24) = w0 at *
    have FB := Lib.hid (fun W (hW : Below w0.heap.size w0 W) => blk2 (Z1.out.below hW Z1.out.lt))
    go_wp2_with (first
      | (go_at_call 9; (with_reducible refine (AW.out _ B0.out).mono ?_); rintro e w1 ⟨rfl, b1⟩; (have p1 := FB.out _ b1))
      | (go_at_call 10; (with_reducible refine (SA.out _).mono ?_); rintro e w2 ⟨rfl, b2⟩)
      | fail)
    go_ret
    exact ⟨rfl, below2s B0.out (below2s b1 b2)⟩
  by_cases hl : bs.length ≤ 1000
  case neg =>
    have B0 := Lib.hid hb0
    have Z1 := Lib.hid hz
    have hli : decide ((1000 : Int) < (bs.length : Int)) = true := by simp; omega
    clear hb0 hz h hs hr ht hsa hcap hl
    generalize l.length = n at *
    generalize s.length = m at *
    generalize bs.length = o at *
    go_enter Tryd.func4, Tryd.ntmps4
    go_upto_region 1 with fail
    generalize w.alloc (.cells #[.int .i64 num, .slice A n c] 24) = w0 at *
    have FB := Lib.hid (fun W (hW : Below w0.heap.size w0 W) => blk2 (Z1.out.below hW Z1.out.lt))
    go_wp2_with (first
      | (go_at_call 9; (with_reducible refine (AW.out _ B0.out).mono ?_); rintro e w1 ⟨rfl, b1⟩; (have p1 := FB.out _ b1))
      | (go_at_call 10; (with_reducible refine (SA.out _).mono ?_); rintro e w2 ⟨rfl, b2⟩)
      | fail)
    go_ret
    exact ⟨rfl, below2s B0.out (below2s b1 b2)⟩
  have hli : decide ((1000 : Int) < (bs.length : Int)) = false := by simp; omega
  have ho40 : bs.length ≤ 1099511627776 := by omega
  obtain ⟨⟨O, dn, de⟩, hR⟩ : ∃ R, rdSet K num l bs = R := ⟨_, rfl⟩
  have PD := Lib.hid (fun W (hW : Below w.heap.size w W) => (alDecode_any num l A F c cF w.heap.size bs W (h.below hW) (hr.below hW) hcap hW.size ho40 (ht.on hW)).mono fun _ _ h => OutDec.to h O dn de hR)
  have RD := Lib.hid (fun W (hW : Below w.heap.size w W) => (refDecodeS_any num l A F c cF w.heap.size bs W (h.below hW) (hr.below hW) hcap hW.size ho40).mono fun _ _ h => OutDec.to h O dn de hR)
  obtain ⟨en, hen⟩ : ∃ n, (encS K num l s).length = n := ⟨_, rfl⟩
  have PE := Lib.hid (fun W (hW : Below w.heap.size w W) => (alEncode_any num l A E c cE w.heap.size s W (h.below hW) (hs.below hW) hW.size (ht.on hW)).mono fun _ _ h => OutByt.to h en hen)
  have RE := Lib.hid (fun W (hW : Below w.heap.size w W) => (refEncodeS_any num l A E c cE w.heap.size s W (h.below hW) (hs.below hW) hW.size).mono fun _ _ h => OutByt.to h en hen)
  have B0 := Lib.hid hb0
  have Z1 := Lib.hid hz
  clear hb0 hz h hs hr ht hsa hcap hl ho40 hR hen
  generalize encS K num l s = EN at *
  generalize l.length = n at *
  generalize s.length = m at *
  generalize bs.length = o at *
  go_enter Tryd.func4, Tryd.ntmps4
  go_upto_region 1 with fail
  generalize w.alloc (.cells #[.int .i64 num, .slice A n c] 24) = w0 at *
  have FB := Lib.hid (fun W (hW : Below w0.heap.size w0 W) => blk2 (Z1.out.below hW Z1.out.lt))
  go_upto_region 7 with (first
    | (go_at_call 9; (with_reducible refine (AW.out _ B0.out).mono ?_); rintro e w1 ⟨rfl, b1⟩; (have p1 := FB.out _ b1))
    | (go_at_call 10; (with_reducible refine (SA.out _).mono ?_); rintro e w2 ⟨rfl, b2⟩; (have b12 := below2s b1 b2); (have p2 := FB.out _ b12); (have c2 := below2s B0.out b12))
    | (go_at_call 20; (with_reducible refine (PD.out _ c2).mono ?_); rintro e w4 ⟨X4, k4, rfl, as4, b4⟩; (have b14 := below2s b12 b4); (have p4 := FB.out _ b14); (have c4 := below2s c2 b4))
    | (go_at_call 21; (with_reducible refine (RD.out _ c4).mono ?_); rintro e w6 ⟨X6, k6, rfl, as6, b6⟩)
    | fail)
  have W6 := Lib.hid (below2s c4 b6)
  have U6 := Lib.hid (below2s b14 b6)
  have A4 := Lib.hid (AS.on as4 b6)
  have A6 := Lib.hid as6
  clear p1 p2 p4 as4 as6 b1 b2 b4 b6 b12 b14 c2 c4 PD RD AW SA
  have KS := Lib.hid (fun W (hW : Below w6.heap.size w6 W) => by
    have := refSameS_any X4 X6 k4 k6 w6.heap.size O O W (A4.out.rd.below hW) (A6.out.rd.below hW) A4.out.l40 A6.out.l40
    rw [decide_eq_true rfl] at this
    exact this)
  go_wp2_with fail
  refine wp_region_held_drew (S := (fun wx => Below w6.heap.size w6 wx)) (by kernel_rfl) ?_ (fun hHeld => ?_)
  · exact (Below.refl _ _).drew
  refine wpAnyH_take (i := 0) (v := ?_) (by first | (simp only [List.getElem?_toArray, List.getElem?_cons_succ, List.getElem?_cons_zero]; done) | (simp only [List.getElem?_toArray, List.getElem?_cons_succ, List.getElem?_cons_zero]; rfl)) (by kernel_rfl) (by kernel_rfl) (by kernel_rfl) (by exact fun _ _ _ h => h) (Or.inl ⟨by rfl, ?_⟩) hHeld ?_
  rotate_left 1
  · intro wq hSw
    obtain ⟨f0, f1⟩ := FB.out _ (below2s U6.out hSw)
    go_simp
    all_goals with_reducible rfl
  try simp only [Act.put, List.setIfInBounds_toArray, List.set_cons_zero, List.set_cons_succ]
  refine wpAnyH_take (i := 1) (v := ?_) (by first | (simp only [List.getElem?_toArray, List.getElem?_cons_succ, List.getElem?_cons_zero]; done) | (simp only [List.getElem?_toArray, List.getElem?_cons_succ, List.getElem?_cons_zero]; rfl)) (by kernel_rfl) (by kernel_rfl) (by kernel_rfl) (by exact fun _ _ _ h => h) (Or.inl ⟨by rfl, ?_⟩) hHeld ?_
  rotate_left 1
  · intro wq hSw
    go_simp
    all_goals with_reducible rfl
  try simp only [Act.put, List.setIfInBounds_toArray, List.set_cons_zero, List.set_cons_succ]
  refine wpAnyH_take (i := 4) (v := ?_) (by first | (simp only [List.getElem?_toArray, List.getElem?_cons_succ, List.getElem?_cons_zero]; done) | (simp only [List.getElem?_toArray, List.getElem?_cons_succ, List.getElem?_cons_zero]; rfl)) (by kernel_rfl) (by kernel_rfl) (by kernel_rfl) (by exact fun _ _ _ h => h) (Or.inl ⟨by rfl, ?_⟩) hHeld ?_
  rotate_left 1
  · intro wq hSw
    obtain ⟨f0, f1⟩ := FB.out _ (below2s U6.out hSw)
    go_simp
    all_goals with_reducible rfl
  try simp only [Act.put, List.setIfInBounds_toArray, List.set_cons_zero, List.set_cons_succ]
  refine wpAnyH_take (i := 5) (v := ?_) (by first | (simp only [List.getElem?_toArray, List.getElem?_cons_succ, List.getElem?_cons_zero]; done) | (simp only [List.getElem?_toArray, List.getElem?_cons_succ, List.getElem?_cons_zero]; rfl)) (by kernel_rfl) (by kernel_rfl) (by kernel_rfl) (by exact fun _ _ _ h => h) (Or.inl ⟨by rfl, ?_⟩) hHeld ?_
  rotate_left 1
  · intro wq hSw
    go_simp
    all_goals with_reducible rfl
  try simp only [Act.put, List.setIfInBounds_toArray, List.set_cons_zero, List.set_cons_succ]
  refine wpAnyH_ready (rs := [2]) (by kernel_rfl) (by simp) ?_
  refine AllReadyH.cons (by first | (simp only [List.getElem?_toArray, List.getElem?_cons_succ, List.getElem?_cons_zero]; done) | (simp only [List.getElem?_toArray, List.getElem?_cons_succ, List.getElem?_cons_zero]; rfl)) (fun K hK => ?_) AllReadyH.nil
  go_simp
  (go_at_call 22; (with_reducible refine (PE.out _ (below2s W6.out hHeld)).mono ?_); rintro e y1 ⟨X1, z1, rfl, hc1, hr1, hq1⟩; have h1 : Below w6.heap.size w6 y1 := below2s hHeld hq1)
  refine hK.out _ _ ?_ (fun hHeld => ?_)
  · exact h1
  clear hK K
  try simp only [Act.put, List.setIfInBounds_toArray, List.set_cons_zero, List.set_cons_succ]
  refine wpAnyH_mono (S' := (fun wx => Below y1.heap.size y1 wx)) (fun wx hx => below2s h1 hx) _ _ _ _ ?_
  replace hHeld := Below.refl y1.heap.size y1
  refine wpAnyH_take (i := 3) (v := ?_) (by first | (simp only [List.getElem?_toArray, List.getElem?_cons_succ, List.getElem?_cons_zero]; done) | (simp only [List.getElem?_toArray, List.getElem?_cons_succ, List.getElem?_cons_zero]; rfl)) (by kernel_rfl) (by kernel_rfl) (by kernel_rfl) (by exact fun _ _ _ h => h) (Or.inl ⟨by rfl, ?_⟩) hHeld ?_
  rotate_left 1
  · intro wq hSw
    have E1 := str_at (z := z1) ((hr1.below hSw).more hSw.size)
    go_simp
    all_goals with_reducible rfl
  try simp only [Act.put, List.setIfInBounds_toArray, List.set_cons_zero, List.set_cons_succ]
  refine wpAnyH_ready (rs := [6]) (by kernel_rfl) (by simp) ?_
  refine AllReadyH.cons (by first | (simp only [List.getElem?_toArray, List.getElem?_cons_succ, List.getElem?_cons_zero]; done) | (simp only [List.getElem?_toArray, List.getElem?_cons_succ, List.getElem?_cons_zero]; rfl)) (fun K hK => ?_) AllReadyH.nil
  go_simp
  (go_at_call 23; (with_reducible refine (RE.out _ (below2s W6.out (by exact h1))).mono ?_); rintro e y2 ⟨X2, z2, rfl, hc2, hr2, hq2⟩; have h2 : Below w6.heap.size w6 y2 := below2s h1 hq2)
  refine hK.out _ _ ?_ (fun hHeld => ?_)
  · exact hq2
  clear hK K
  try simp only [Act.put, List.setIfInBounds_toArray, List.set_cons_zero, List.set_cons_succ]
  refine wpAnyH_mono (S' := (fun wx => Below y2.heap.size y2 wx)) (fun wx hx => below2s hq2 hx) _ _ _ _ ?_
  replace hHeld := Below.refl y2.heap.size y2
  refine wpAnyH_take (i := 7) (v := ?_) (by first | (simp only [List.getElem?_toArray, List.getElem?_cons_succ, List.getElem?_cons_zero]; done) | (simp only [List.getElem?_toArray, List.getElem?_cons_succ, List.getElem?_cons_zero]; rfl)) (by kernel_rfl) (by kernel_rfl) (by kernel_rfl) (by exact fun _ _ _ h => h) (Or.inl ⟨by rfl, ?_⟩) hHeld ?_
  rotate_left 1
  · intro wq hSw
    have E2 := str_at (z := z2) ((hr2.below hSw).more hSw.size)
    go_simp
    all_goals with_reducible rfl
  try simp only [Act.put, List.setIfInBounds_toArray, List.set_cons_zero, List.set_cons_succ]
  refine wpAnyH_take (i := 8) (v := ?_) (by first | (simp only [List.getElem?_toArray, List.getElem?_cons_succ, List.getElem?_cons_zero]; done) | (simp only [List.getElem?_toArray, List.getElem?_cons_succ, List.getElem?_cons_zero]; rfl)) (by kernel_rfl) (by kernel_rfl) (by kernel_rfl) (by exact fun _ _ _ h => h) (Or.inl ⟨by rfl, ?_⟩) hHeld ?_
  rotate_left 1
  · intro wq hSw
    go_simp
    all_goals with_reducible rfl
  try simp only [Act.put, List.setIfInBounds_toArray, List.set_cons_zero, List.set_cons_succ]
  refine wpAnyH_take (i := 9) (v := ?_) (by first | (simp only [List.getElem?_toArray, List.getElem?_cons_succ, List.getElem?_cons_zero]; done) | (simp only [List.getElem?_toArray, List.getElem?_cons_succ, List.getElem?_cons_zero]; rfl)) (by kernel_rfl) (by kernel_rfl) (by kernel_rfl) (by exact fun _ _ _ h => h) (Or.inl ⟨by rfl, ?_⟩) hHeld ?_
  rotate_left 1
  · intro wq hSw
    go_simp
    all_goals with_reducible rfl
  try simp only [Act.put, List.setIfInBounds_toArray, List.set_cons_zero, List.set_cons_succ]
  refine wpAnyH_take (i := 10) (v := ?_) (by first | (simp only [List.getElem?_toArray, List.getElem?_cons_succ, List.getElem?_cons_zero]; done) | (simp only [List.getElem?_toArray, List.getElem?_cons_succ, List.getElem?_cons_zero]; rfl)) (by kernel_rfl) (by kernel_rfl) (by kernel_rfl) (by exact fun _ _ _ h => h) (Or.inl ⟨by rfl, ?_⟩) hHeld ?_
  rotate_left 1
  · intro wq hSw
    go_simp
    all_goals with_reducible rfl
  try simp only [Act.put, List.setIfInBounds_toArray, List.set_cons_zero, List.set_cons_succ]
  refine wpAnyH_take (i := 11) (v := ?_) (by first | (simp only [List.getElem?_toArray, List.getElem?_cons_succ, List.getElem?_cons_zero]; done) | (simp only [List.getElem?_toArray, List.getElem?_cons_succ, List.getElem?_cons_zero]; rfl)) (by kernel_rfl) (by kernel_rfl) (by kernel_rfl) (by exact fun _ _ _ h => h) (Or.inl ⟨by rfl, ?_⟩) hHeld ?_
  rotate_left 1
  · intro wq hSw
    go_simp
    all_goals with_reducible rfl
  try simp only [Act.put, List.setIfInBounds_toArray, List.set_cons_zero, List.set_cons_succ]
  refine wpAnyH_ready (rs := [12]) (by kernel_rfl) (by simp) ?_
  refine AllReadyH.cons (by first | (simp only [List.getElem?_toArray, List.getElem?_cons_succ, List.getElem?_cons_zero]; done) | (simp only [List.getElem?_toArray, List.getElem?_cons_succ, List.getElem?_cons_zero]; rfl)) (fun K hK => ?_) AllReadyH.nil
  go_simp
  (go_at_call 13; (with_reducible refine (KS.out _ (by exact h2)).mono ?_); rintro e y3 ⟨rfl, hq3⟩; have h3 : Below w6.heap.size w6 y3 := below2s h2 hq3)
  refine hK.out _ _ ?_ (fun hHeld => ?_)
  · exact hq3
  clear hK K
  try simp only [Act.put, List.setIfInBounds_toArray, List.set_cons_zero, List.set_cons_succ]
  refine wpAnyH_mono (S' := (fun wx => Below y3.heap.size y3 wx)) (fun wx hx => below2s hq3 hx) _ _ _ _ ?_
  replace hHeld := Below.refl y3.heap.size y3
  refine wpAnyH_take (i := 13) (v := ?_) (by first | (simp only [List.getElem?_toArray, List.getElem?_cons_succ, List.getElem?_cons_zero]; done) | (simp only [List.getElem?_toArray, List.getElem?_cons_succ, List.getElem?_cons_zero]; rfl)) (by kernel_rfl) (by kernel_rfl) (by kernel_rfl) (by exact fun _ _ _ h => h) (Or.inl ⟨by rfl, ?_⟩) hHeld ?_
  rotate_left 1
  · intro wq hSw
    go_simp
    all_goals with_reducible rfl
  try simp only [Act.put, List.setIfInBounds_toArray, List.set_cons_zero, List.set_cons_succ]
  refine wpAnyH_take (i := 14) (v := ?_) (by first | (simp only [List.getElem?_toArray, List.getElem?_cons_succ, List.getElem?_cons_zero]; done) | (simp only [List.getElem?_toArray, List.getElem?_cons_succ, List.getElem?_cons_zero]; rfl)) (by kernel_rfl) (by kernel_rfl) (by kernel_rfl) (by exact fun _ _ _ h => h) (Or.inl ⟨by rfl, ?_⟩) hHeld ?_
  rotate_left 1
  · intro wq hSw
    go_simp
    all_goals with_reducible rfl
  try simp only [Act.put, List.setIfInBounds_toArray, List.set_cons_zero, List.set_cons_succ]
  refine wpAnyH_take (i := 15) (v := ?_) (by first | (simp only [List.getElem?_toArray, List.getElem?_cons_succ, List.getElem?_cons_zero]; done) | (simp only [List.getElem?_toArray, List.getElem?_cons_succ, List.getElem?_cons_zero]; rfl)) (by kernel_rfl) (by kernel_rfl) (by kernel_rfl) (by exact fun _ _ _ h => h) (Or.inl ⟨by rfl, ?_⟩) hHeld ?_
  rotate_left 1
  · intro wq hSw
    go_simp
    all_goals with_reducible rfl
  try simp only [Act.put, List.setIfInBounds_toArray, List.set_cons_zero, List.set_cons_succ]
  refine wpAnyH_take (i := 16) (v := ?_) (by first | (simp only [List.getElem?_toArray, List.getElem?_cons_succ, List.getElem?_cons_zero]; done) | (simp only [List.getElem?_toArray, List.getElem?_cons_succ, List.getElem?_cons_zero]; rfl)) (by kernel_rfl) (by kernel_rfl) (by kernel_rfl) (by exact fun _ _ _ h => h) (Or.inl ⟨by rfl, ?_⟩) hHeld ?_
  rotate_left 1
  · intro wq hSw
    go_simp
    all_goals with_reducible rfl
  try simp only [Act.put, List.setIfInBounds_toArray, List.set_cons_zero, List.set_cons_succ]
  refine wpAnyH_take (i := 17) (v := ?_) (by first | (simp only [List.getElem?_toArray, List.getElem?_cons_succ, List.getElem?_cons_zero]; done) | (simp only [List.getElem?_toArray, List.getElem?_cons_succ, List.getElem?_cons_zero]; rfl)) (by kernel_rfl) (by kernel_rfl) (by kernel_rfl) (by exact fun _ _ _ h => h) (Or.inl ⟨by rfl, ?_⟩) hHeld ?_
  rotate_left 1
  · intro wq hSw
    go_simp
    all_goals with_reducible rfl
  try simp only [Act.put, List.setIfInBounds_toArray, List.set_cons_zero, List.set_cons_succ]
  refine wpAnyH_take (i := 18) (v := ?_) (by first | (simp only [List.getElem?_toArray, List.getElem?_cons_succ, List.getElem?_cons_zero]; done) | (simp only [List.getElem?_toArray, List.getElem?_cons_succ, List.getElem?_cons_zero]; rfl)) (by kernel_rfl) (by kernel_rfl) (by kernel_rfl) (by exact fun _ _ _ h => h) (Or.inl ⟨by rfl, ?_⟩) hHeld ?_
  rotate_left 1
  · intro wq hSw
    go_simp
    all_goals with_reducible rfl
  try simp only [Act.put, List.setIfInBounds_toArray, List.set_cons_zero, List.set_cons_succ]
  refine wpAnyH_take (i := 19) (v := ?_) (by first | (simp only [List.getElem?_toArray, List.getElem?_cons_succ, List.getElem?_cons_zero]; done) | (simp only [List.getElem?_toArray, List.getElem?_cons_succ, List.getElem?_cons_zero]; rfl)) (by kernel_rfl) (by kernel_rfl) (by kernel_rfl) (by exact fun _ _ _ h => h) (Or.inl ⟨by rfl, ?_⟩) hHeld ?_
  rotate_left 1
  · intro wq hSw
    go_simp
    all_goals with_reducible rfl
  try simp only [Act.put, List.setIfInBounds_toArray, List.set_cons_zero, List.set_cons_succ]
  refine wpAnyH_take (i := 20) (v := ?_) (by first | (simp only [List.getElem?_toArray, List.getElem?_cons_succ, List.getElem?_cons_zero]; done) | (simp only [List.getElem?_toArray, List.getElem?_cons_succ, List.getElem?_cons_zero]; rfl)) (by kernel_rfl) (by kernel_rfl) (by kernel_rfl) (by exact fun _ _ _ h => h) (Or.inl ⟨by rfl, ?_⟩) hHeld ?_
  rotate_left 1
  · intro wq hSw
    go_simp
    all_goals with_reducible rfl
  try simp only [Act.put, List.setIfInBounds_toArray, List.set_cons_zero, List.set_cons_succ]
  refine wpAnyH_take (i := 21) (v := ?_) (by first | (simp only [List.getElem?_toArray, List.getElem?_cons_succ, List.getElem?_cons_zero]; done) | (simp only [List.getElem?_toArray, List.getElem?_cons_succ, List.getElem?_cons_zero]; rfl)) (by kernel_rfl) (by kernel_rfl) (by kernel_rfl) (by exact fun _ _ _ h => h) (Or.inl ⟨by rfl, ?_⟩) hHeld ?_
  rotate_left 1
  · intro wq hSw
    go_simp
    all_goals with_reducible rfl
  try simp only [Act.put, List.setIfInBounds_toArray, List.set_cons_zero, List.set_cons_succ]
  refine wpAnyH_take (i := 22) (v := ?_) (by first | (simp only [List.getElem?_toArray, List.getElem?_cons_succ, List.getElem?_cons_zero]; done) | (simp only [List.getElem?_toArray, List.getElem?_cons_succ, List.getElem?_cons_zero]; rfl)) (by kernel_rfl) (by kernel_rfl) (by kernel_rfl) (by exact fun _ _ _ h => h) (Or.inl ⟨by rfl, ?_⟩) hHeld ?_
  rotate_left 1
  · intro wq hSw
    go_simp
    all_goals with_reducible rfl
  try simp only [Act.put, List.setIfInBounds_toArray, List.set_cons_zero, List.set_cons_succ]
  refine wpAnyH_take (i := 23) (v := ?_) (by first | (simp only [List.getElem?_toArray, List.getElem?_cons_succ, List.getElem?_cons_zero]; done) | (simp only [List.getElem?_toArray, List.getElem?_cons_succ, List.getElem?_cons_zero]; rfl)) (by kernel_rfl) (by kernel_rfl) (by kernel_rfl) (by exact fun _ _ _ h => h) (Or.inl ⟨by rfl, ?_⟩) hHeld ?_
  rotate_left 1
  · intro wq hSw
    go_simp
    all_goals with_reducible rfl
  try simp only [Act.put, List.setIfInBounds_toArray, List.set_cons_zero, List.set_cons_succ]
  refine wpAnyH_take (i := 24) (v := ?_) (by first | (simp only [List.getElem?_toArray, List.getElem?_cons_succ, List.getElem?_cons_zero]; done) | (simp only [List.getElem?_toArray, List.getElem?_cons_succ, List.getElem?_cons_zero]; rfl)) (by kernel_rfl) (by kernel_rfl) (by kernel_rfl) (by exact fun _ _ _ h => h) (Or.inl ⟨by rfl, ?_⟩) hHeld ?_
  rotate_left 1
  · intro wq hSw
    go_simp
    all_goals with_reducible rfl
  try simp only [Act.put, List.setIfInBounds_toArray, List.set_cons_zero, List.set_cons_succ]
  refine wpAnyH_done (by kernel_rfl) ?_ _
  go_wp2_with fail
  go_ret
  exact ⟨rfl, below2s W6.out h3⟩
end Go.Proofs.YtojhdljbpmjigaaDoor.Al
