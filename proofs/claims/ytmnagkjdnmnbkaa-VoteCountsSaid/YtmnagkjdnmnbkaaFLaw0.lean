/- Layer 8: the laws' own helpers; what the package is to do (as a premise, till it has landed); awake's numbers. -/
import Derived.Test.YtmnagkjdnmnbkaaFRef4
namespace Go.Proofs.Ytmnagkjdnmnbkaa.Fv
set_option linter.unusedVariables false
set_option linter.unusedSimpArgs false
open Go.RowKit
open Go.Proofs.Ytmnagkjdnmnbkaa.W
open Go.Proofs.Ytmnagkjdnmnbkaa.V

theorem in_lit {l : List Int} (h : (l.all fun x => decide (-9223372036854775808 ≤ x) && decide (x ≤ 9223372036854775807)) = true) : ∀ x ∈ l, In64 x := by
  intro x hx
  have := List.all_eq_true.1 h x hx
  simp at this
  exact ⟨by omega, by omega⟩
/-- A literal row of ints. -/
theorem ls_lit (W : World) (cs : Array Value) (l : List Int) (n : Nat) (h : cs.toList = l.map intV) (hn : l.length = n) (hl : n ≤ 1000)
    (hel : ∀ x ∈ l, In64 x) : LS (W.alloc (.cells cs 3)) (W.alloc (.cells cs 3)).heap.size l (some ⟨W.heap.size, 0, none⟩) n := by
  subst hn
  refine ⟨⟨by simp, fun _ => ⟨_, rfl, by simp, fun j u hu => ?_⟩⟩, by omega, hel, Nat.le_refl _⟩
  have e : (⟨W.heap.size, 0, none⟩ : Addr).add j = ⟨W.heap.size, j, none⟩ := by unfold Addr.add; split <;> simp_all
  rw [e, World.cell?_alloc_mark W cs 3 (0, 0) j, ← hu, ← h]
  simp
set_option maxRecDepth 100000 in
set_option maxHeartbeats 1000000 in
theorem law8same_any (A A' : Option Addr) (c c' B B' : Nat) (xs ys : List Int) (w : World) (ha : Reads w B 1 A xs.length (xs.map intV)) (hb : Reads w B' 1 A' ys.length (ys.map intV)) (hl : xs.length ≤ 1099511627776) (hl' : ys.length ≤ 1099511627776) :
    Calls Try.prog 15 #[.slice A xs.length c, .slice A' ys.length c'] w fun e w' => e = .returned (.bool (decide (xs = ys))) ∧ ∃ k, w' = w.drewN k := by
  by_cases hlen : xs.length = ys.length
  · have hz : ((xs.length : Int) != (ys.length : Int)) = false := bneF (by omega)
    have HL := Lib.hid hlen
    obtain ⟨n, hn⟩ : ∃ n, n = ys.length := ⟨_, rfl⟩
    rw [hlen] at ha hl hz ⊢
    rw [← hn] at ha hb hl hl' hz ⊢
    have HN := Lib.hid hn
    clear hlen hn
    go_enter Try.func15, Try.ntmps15
    go_wp2
    go_loopw [5] (fun i wr => ∃ k m : Nat, k ≤ n ∧ i = .int .i64 k ∧ wr = w.drewN m ∧ xs.take k = ys.take k) (fun i _ => n - (intOf i).toNat)
    case atStart => exact ⟨0, 0, Nat.zero_le _, rfl, rfl, by simp⟩
    case round =>
      obtain ⟨k, m, hk, rfl, rfl, htk⟩ := hrel
      by_cases hlt : k < n
      · obtain ⟨ad, u, rfl, _, hx, hc⟩ := ha.at_ hlt
        obtain ⟨bd, u', rfl, _, hx', hc'⟩ := hb.at_ hlt
        obtain ⟨x, hxk⟩ : ∃ x, xs[k]? = some x := ⟨_, List.getElem?_eq_getElem (by have := HL.out; have := HN.out; omega)⟩
        obtain ⟨y, hyk⟩ : ∃ y, ys[k]? = some y := ⟨_, List.getElem?_eq_getElem (by have := HN.out; omega)⟩
        have e1 : u = intV x := by simp [hxk] at hx; exact hx.symm
        have e2 : u' = intV y := by simp [hyk] at hx'; exact hx'.symm
        rw [e1] at hc
        rw [e2] at hc'
        have HXK := Lib.hid hxk
        have HYK := Lib.hid hyk
        have HTK := Lib.hid htk
        have hlt2 : (k : Int) < (n : Int) := by omega
        clear e1 e2 hx hx' hxk hyk htk
        dsimp only [intV] at hc hc'
        by_cases hxy : x = y
        · subst hxy
          have HT2 := Lib.hid (take_eq_of HTK.out HXK.out HYK.out rfl)
          go_wp2_with fail
          go_quiet (fail)
          go_wp2_with fail
          go_roundw
          case rel => exact ⟨k + 1, _, by omega, by go_num, rfl, HT2.out⟩
          case measure => simp [intOf]; omega
        · have hz2 : (x != y) = true := bneT hxy
          have HNE := Lib.hid (ne_of_get HXK.out HYK.out hxy)
          have hd := Lib.hid (show decide (xs = ys) = false by simpa using HNE.out)
          clear hxy
          go_wp2_with fail
          go_quiet (fail)
          go_wp2_with fail
          go_ret
          rw [hd.out]
          exact ⟨rfl, _, World.drewN_drewN _ _ _⟩
      · have hd := Lib.hid (show decide (xs = ys) = true by
          have h1 := HL.out
          have h2 := HN.out
          rw [List.take_of_length_le (by omega), List.take_of_length_le (by omega)] at htk
          simpa using htk)
        clear htk
        go_wp2
        go_ret
        rw [hd.out]
        exact ⟨rfl, _, rfl⟩
  · have hz : ((xs.length : Int) != (ys.length : Int)) = true := bneT (by omega)
    have hd := Lib.hid (show decide (xs = ys) = false by
      rw [decide_eq_false_iff_not]; intro h; exact hlen (by rw [h]))
    clear hlen
    go_enter Try.func15, Try.ntmps15
    go_wp2
    go_ret
    rw [hd.out]
    exact ⟨rfl, 0, rfl⟩
theorem same8_at (W : World) (xs ys : List Int) (X Y : Option Addr) (n m x y : Nat) (hn : n = xs.length) (hm : m = ys.length) (h : LS W W.heap.size xs X x) (h' : LS W W.heap.size ys Y y) :
    Calls Try.prog 15 #[.slice X n x, .slice Y m y] W (PB W (decide (xs = ys))) := by
  subst hn hm
  refine (law8same_any X Y x y _ _ xs ys W h.rd h'.rd h.l40 h'.l40).mono fun e w' h => ?_
  obtain ⟨h1, k, rfl⟩ := h
  exact ⟨h1, below_drewN' (Below.refl _ _) _⟩
/-- What the functions of the package give. -/
structure VoteC : Prop where
  same : ∀ (a b : List Int) (A A' : Option Addr) (c c' B : Nat) (w : World), LS w B a A c → LS w B b A' c' → B ≤ w.heap.size → a.length ≤ 1000 → b.length ≤ 1000 →
    Calls Try.prog 14 #[.slice A a.length c, .slice A' b.length c'] w (PB w (decide (a = b)))
  valid : ∀ (num : Int) (l : List Int) (A E : Option Addr) (c cE B : Nat) (ps : List Pbl) (w : World), VW w B num l A c → BS w B ps E cE → B ≤ w.heap.size → ps.length ≤ 1000 →
    Calls Try.prog 12 #[.agg #[.int .i64 num, .slice A l.length c], .slice E ps.length cE] w (PB w (okB num l (ps.map Pbl.bal)))
  cast : ∀ (num : Int) (l : List Int) (A E : Option Addr) (c cE B : Nat) (ps : List Pbl) (b : Pbl) (w : World), VW w B num l A c → BS w B ps E cE → PG w B b → B ≤ w.heap.size → ps.length ≤ 1000 →
    Calls Try.prog 9 #[.agg #[.int .i64 num, .slice A l.length c], .slice E ps.length cE, .agg #[.int .i64 b.mem, .slice b.ptr b.cut.length b.cap]] w (OutBx w (castB num l (ps.map Pbl.bal) b.bal) (castB num l (ps.map Pbl.bal) b.bal).length (castE num l (ps.map Pbl.bal) b.bal))
  votes : ∀ (E C : Option Addr) (cE cC B : Nat) (ps : List Pbl) (cut : List Int) (w : World), BS w B ps E cE → LS w B cut C cC → B ≤ w.heap.size → ps.length ≤ 1000 → cut.length ≤ 1000 → (∀ p ∈ ps, p.cut.length ≤ 1000) →
    Calls Try.prog 18 #[.slice E ps.length cE, .slice C cut.length cC] w (PI w (votesF (ps.map Pbl.bal) cut : Nat))
  win : ∀ (num : Int) (l : List Int) (A E : Option Addr) (c cE B : Nat) (ps : List Pbl) (w : World), VW w B num l A c → BS w B ps E cE → B ≤ w.heap.size → ps.length ≤ 1000 → l.length ≤ 1000 → (∀ p ∈ ps, p.cut.length ≤ 1000) →
    Calls Try.prog 16 #[.agg #[.int .i64 num, .slice A l.length c], .slice E ps.length cE] w (OutWn w ((winF num l (ps.map Pbl.bal)).getD []) ((winF num l (ps.map Pbl.bal)).getD []).length (winF num l (ps.map Pbl.bal)).isSome)
  und : ∀ (num : Int) (l : List Int) (A E : Option Addr) (c cE B : Nat) (ps : List Pbl) (w : World), VW w B num l A c → BS w B ps E cE → B ≤ w.heap.size → ps.length ≤ 1000 → l.length ≤ 1000 → (∀ p ∈ ps, p.cut.length ≤ 1000) →
    Calls Try.prog 20 #[.agg #[.int .i64 num, .slice A l.length c], .slice E ps.length cE] w (PB w (undF num l (ps.map Pbl.bal)))
def boxA : Nat → List Bal
  | 0 => []
  | k + 1 => insF ⟨4 - (k : Int), [4]⟩ (boxA k)
theorem castA : ∀ k : Fin 4, castE 0 [1, 2, 3, 4] (boxA k.val) ⟨4 - (k.val : Int), [4]⟩ = 0 := by decide +kernel
theorem winA : ∀ k : Fin 4, winF 0 [1, 2, 3, 4] (boxA k.val) = none := by decide +kernel
theorem winA4 : winF 0 [1, 2, 3, 4] (boxA 4) = some [4] := by decide +kernel
theorem castA4 : castE 0 [1, 2, 3, 4] (boxA 4) ⟨1, [4]⟩ = 7 := by decide +kernel
theorem votesA4 : votesF (boxA 4) [4] = 4 := by decide +kernel
theorem undA : undF 0 [1, 2, 3, 4] [⟨1, [4]⟩, ⟨2, [3]⟩] = true := by decide +kernel
theorem lenA : ∀ k : Nat, (boxA k).length = k
  | 0 => rfl
  | k + 1 => by show (insF _ _).length = _; rw [len_insF, lenA k]
theorem cutA : ∀ {k : Nat} {b : Bal}, b ∈ boxA k → b.cut = [4]
  | 0, b, h => by cases h
  | k + 1, b, h => by
    rcases mem_insF.1 h with rfl | h
    · rfl
    · exact cutA h
theorem castB_ok {num : Int} {l : List Int} {s : List Bal} {b : Bal} (h : castE num l s b = 0) : castB num l s b = insF b s := by unfold castB; rw [if_pos h]
theorem castB_no {num : Int} {l : List Int} {s : List Bal} {b : Bal} (h : castE num l s b ≠ 0) : castB num l s b = [] := by unfold castB; rw [if_neg h]
theorem len_map_eq {ps : List Pbl} {s : List Bal} (h : ps.map Pbl.bal = s) : ps.length = s.length := by rw [← h, List.length_map]
end Go.Proofs.Ytmnagkjdnmnbkaa.Fv
