/- Package cut: isSuspect, explicit. -/
import Derived.Test.YtipipjbpjpdcbaaDoorCP0
import Derived.Test.YtipipjbpjpdcbaaDoorCRef3
namespace Go.Proofs.YtipipjbpjpdcbaaDoor.Ct
set_option linter.unusedVariables false
set_option linter.unusedSimpArgs false
open Go.RowKit
open Go.Proofs.YtipipjbpjpdcbaaDoor.W
open Go.Proofs.YtipipjbpjpdcbaaDoor.V
open Go.Proofs.YtipipjbpjpdcbaaDoor.O
open Go.Proofs.YtipipjbpjpdcbaaDoor.Pb (Alr alrsC len_alrsC reads_blk)
open Go.Proofs.YtipipjbpjpdcbaaDoor.Al

@[reducible] def tlyV (t : Tly) : Value := .agg #[.int .i64 t.subj, .int .i64 (t.expl : Int), .int .i64 (t.impl : Int)]
set_option maxRecDepth 100000 in
set_option maxHeartbeats 1000000 in
theorem cutIsSuspect_any (x : Int) (e i : Nat) (w : World) : Calls Tryd.prog 31 #[.agg #[.int .i64 x, .int .i64 (e : Int), .int .i64 (i : Int)]] w (PB w (decide (2 ≤ e))) := by
  have hb0 := (Below.refl w.heap.size w).alloc (Nat.le_refl _) (.cells #[.int .i64 x, .int .i64 (e : Int), .int .i64 (i : Int)] 31)
  have HD := Lib.hid (show decide ((2 : Int) ≤ (e : Int)) = decide (2 ≤ e) by rw [decide_eq_decide]; omega)
  have hp := blk3 (Blk.new w 31 #[.int .i64 x, .int .i64 (e : Int), .int .i64 (i : Int)])
  go_enter Tryd.func31, Tryd.ntmps31
  go_wp2_with fail
  go_ret
  exact ⟨by rw [← HD.out]; rfl, by first | exact hb0 | exact hb0.drew⟩

/-! ### a row of tallies of the call's own, which is stored into -/
theorem tlysC_set {v : Value} {x x' : Tly} {j : Nat} (hj : j < 3) (he : (tlyC x).set j v = tlyC x') : ∀ {es : List Tly} {k : Nat}, es[k]? = some x → (tlysC es).set (k * 3 + j) v = tlysC (es.set k x')
  | [], k, h => by cases h
  | y :: t, 0, h => by
    simp at h
    subst h
    show (tlyC y ++ tlysC t).set (0 * 3 + j) v = tlyC x' ++ tlysC t
    rw [List.set_append_left _ _ (by simp [tlyC]; omega), ← he]
    simp
  | y :: t, k + 1, h => by
    show (tlyC y ++ tlysC t).set ((k + 1) * 3 + j) v = tlyC y ++ tlysC (t.set k x')
    rw [List.set_append_right _ _ (by simp [tlyC]; omega), show (k + 1) * 3 + j - (tlyC y).length = k * 3 + j by simp [tlyC]; omega, tlysC_set hj he (by simpa using h)]
theorem add0T (b j : Nat) : (⟨b, 0, none⟩ : Addr).add j = ⟨b, j, none⟩ := by unfold Addr.add; split <;> simp_all
structure RowT (W : World) (B : Nat) (ad : Addr) (n c : Nat) (P : List Tly) : Prop where
  a0 : ad = ⟨ad.block, 0, none⟩
  len : P.length = n
  own : W.ownsRow B 31 3 (.slice (some ⟨ad.block, 0, none⟩) n c) n (tlysC P)
section
variable {W W' : World} {B : Nat} {ad : Addr} {n c : Nat} {P : List Tly}
theorem RowT.in_ (h : RowT W B ad n c P) : B ≤ ad.block ∧ ad.block < W.heap.size := h.own.lt ad.block rfl
theorem RowT.on (h : RowT W B ad n c P) (q : Below W.heap.size W W') : RowT W' B ad n c P := ⟨h.a0, h.len, own_below h.own q⟩
theorem RowT.val (h : RowT W B ad n c P) : Value.slice (some ad) n c = .slice (some ⟨ad.block, 0, none⟩) n c := by rw [← h.a0]
theorem RowT.row (h : RowT W B ad n c P) : W.ownsRow B 31 3 (.slice (some ad) n c) P.length (tlysC P) := by rw [h.val, h.len]; exact h.own
theorem RowT.reads (h : RowT W B ad n c P) : Reads W W.heap.size 3 (some ad) n (tlysC P) := by
  have := Reads.of_own h.own
  rwa [← h.a0] at this
theorem RowT.at_ (h : RowT W B ad n c P) {k : Nat} {x : Tly} (hx : P[k]? = some x) : W.cell? (ad.add (k * 3)) = some (.int .i64 x.subj) ∧ W.cell? ⟨(ad.add (k * 3)).block, (ad.add (k * 3)).off + 1, none⟩ = some (.int .i64 (x.expl : Int)) ∧
      W.cell? ⟨(ad.add (k * 3)).block, (ad.add (k * 3)).off + 2, none⟩ = some (.int .i64 (x.impl : Int)) ∧ ∀ j, W.frozen? ⟨(ad.add (k * 3)).block, j, none⟩ = false := by
  obtain ⟨ad', e, _, _, h0, h1, h2⟩ := tly_at h.reads hx
  cases e
  exact ⟨h0, h1, h2, fun j => by rw [block_of_add]; exact h.own.frozenAt j⟩
theorem RowT.set_ (h : RowT W B ad n c P) {k j : Nat} {x x' : Tly} {v : Value} (hx : P[k]? = some x) (hj : j < 3) (he : (tlyC x).set j v = tlyC x') : RowT (W.setCell ⟨(ad.add (k * 3)).block, (ad.add (k * 3)).off + j, none⟩ v) B ad n c (P.set k x') := by
  refine ⟨h.a0, by rw [List.length_set]; exact h.len, ?_⟩
  have e : ad.add (k * 3) = ⟨ad.block, k * 3, none⟩ := by rw [h.a0]; exact add0T _ _
  rw [e, ← tlysC_set hj he hx]
  exact (h.own.stored (k * 3 + j) v).1
theorem RowT.bel (h : RowT W B ad n c P) {w : World} {b k j : Nat} {v : Value} (hb : Below b w W) (hB : b ≤ B) : Below b w (W.setCell ⟨(ad.add (k * 3)).block, (ad.add (k * 3)).off + j, none⟩ v) :=
  hb.setCell (by show b ≤ (ad.add (k * 3)).block; rw [block_of_add]; exact Nat.le_trans hB h.in_.1) _
end
theorem row_open {W : World} {B n : Nat} {v : Value} {P : List Tly} (h : W.ownsRow B 31 3 v P.length (tlysC P)) (hn : P.length = n) (h0 : 0 < n) : ∃ ad c, v = .slice (some ad) n c ∧ RowT W B ad n c P := by
  subst hn
  rcases h.2 with ⟨_, h1⟩ | ⟨g, cap, cur, rfl, _⟩
  · omega
  · exact ⟨⟨g, 0, none⟩, cap, rfl, rfl, rfl, h⟩
/-- Tallies of the call's own come back. -/
def OwnT (w : World) (T : List Tly) (e : Ending) (w' : World) : Prop := ∃ v, e = .returned v ∧ w'.ownsRow w.heap.size 31 3 v T.length (tlysC T) ∧ Below w.heap.size w w'
theorem alr_at2 {w : World} {B n : Nat} {ad : Addr} {es : List Alr} {k : Nat} {x : Alr} (h : Reads w B 4 (some ad) n (alrsC es)) (hx : es[k]? = some x) :
    w.cell? (ad.add (k * 4)) = some (.int .i64 x.view) ∧ w.cell? ⟨(ad.add (k * 4)).block, (ad.add (k * 4)).off + 1, none⟩ = some (.int .i64 x.ring) ∧
      w.cell? ⟨(ad.add (k * 4)).block, (ad.add (k * 4)).off + 2, none⟩ = some (.int .i64 x.obs) ∧ w.cell? ⟨(ad.add (k * 4)).block, (ad.add (k * 4)).off + 3, none⟩ = some (.int .i64 x.subj) := by
  obtain ⟨ad', e, _, _, h1, h2, h3, h4⟩ := alr_at h hx
  cases e
  exact ⟨h1, h2, h3, h4⟩

set_option maxRecDepth 1000000 in
set_option maxHeartbeats 8000000 in
theorem cutExplicit_any (E : Option Addr) (cE B : Nat) (s : List Alr) (w : World) (hs : AS w B s E cE) (hB : B ≤ w.heap.size) (hA : AscA s) (hm : s.length ≤ 100000) :
    Calls Tryd.prog 29 #[.slice E s.length cE] w (OwnT w (explL s)) := by
  have RS := Lib.hid (fun W (hW : Below w.heap.size w W) => ((hs.more hB).below hW).rd)
  have HA := Lib.hid hA
  have hcap := hs.cap
  obtain ⟨n, hn⟩ : ∃ n, n = s.length := ⟨_, rfl⟩
  have HN := Lib.hid hn
  rw [← hn] at RS hm hcap ⊢
  clear hs hn hB hA
  go_enter Tryd.func29, Tryd.ntmps29
  go_wp2_with fail
  go_loopg [3, 4, 5, 8] n (fun gk s3 _ _ s8 wr => ∃ k : Nat, k + gk = n ∧ s8 = .int .i64 k ∧ Hid (Below w.heap.size w wr) ∧ Hid (wr.ownsRow w.heap.size 31 3 s3 (explL (s.take k)).length (tlysC (explL (s.take k)))))
  case atStart => exact ⟨0, by omega, rfl, Below.refl _ _, World.ownsRow_nil _ _ _ _⟩
  case round =>
    obtain ⟨k, hkg, rfl, HW, HO⟩ := hrel
    have hws := HW.out.size
    cases gk with
    | zero =>
      have hkz : ¬ ((k : Int) < (n : Int)) := by omega
      have HK := Lib.hid (show s.take k = s from List.take_of_length_le (by have := HN.out; omega))
      rw [HK.out] at HO
      go_wp2_with fail
      go_ret
      exact ⟨_, rfl, HO.out, HW.out⟩
    | succ gi =>
      have hkz : (k : Int) < (n : Int) := by omega
      have hk0 : ¬ (k : Int) < 0 := by omega
      have hkc : (k : Int) ≤ (cE : Int) := by omega
      obtain ⟨x, hx⟩ : ∃ x, s[k]? = some x := ⟨_, List.getElem?_eq_getElem (by have := HN.out; omega)⟩
      obtain ⟨ad, rfl, -, -, y0, y1, y2, y3⟩ := alr_at (RS.out _ HW.out) hx
      obtain ⟨F, ct, hF1, hck, hFl, hF2, hF3⟩ := expl_step HA.out hx
      have HF1 := Lib.hid hF1
      have HF2 := Lib.hid hF2
      have HF3 := Lib.hid hF3
      have hzx := Blk.new wr 48 #[.int .i64 x.view, .int .i64 x.ring, .int .i64 x.obs, .int .i64 x.subj]
      have hbx := HW.out.alloc hws (.cells #[.int .i64 x.view, .int .i64 x.ring, .int .i64 x.obs, .int .i64 x.subj] 48)
      have hox := HO.out.alloc (.cells #[.int .i64 x.view, .int .i64 x.ring, .int .i64 x.obs, .int .i64 x.subj] 48)
      clear hx hF1 hF2 hF3
      go_upto_region 5 with fail
      generalize hw5 : wr.alloc (.cells #[.int .i64 x.view, .int .i64 x.ring, .int .i64 x.obs, .int .i64 x.subj] 48) = w5 at *
      clear hw5 y0 y1 y2 y3
      have p5 := blk4 hzx
      have hs5 := hbx.size
      have B5 := Lib.hid hbx
      have HO5 := Lib.hid hox
      clear hbx hox hzx
      go_cut [25] from 13 to 24 (fun s25 wx => ∃ (f : Bool) (q : Nat), s25 = .bool f ∧ wx = w5.drewN q ∧ Hid ((f = true → explL (s.take k) = F ∧ ct = 0) ∧ (f = false → explL (s.take k) = F ++ [⟨x.subj, ct, 0⟩])))
      case first =>
        rcases Nat.eq_zero_or_pos k with h0 | h0
        · have hz0 : ((k : Int) == 0) = true := beqT (by omega)
          have HT := Lib.hid (HF2.out (.inl h0))
          clear h0 hkc
          go_quiet (fail)
          go_wp2_with fail
          go_meet
          exact ⟨true, _, rfl, rfl, fun _ => HT.out, fun h => absurd h (by decide)⟩
        · obtain ⟨j, hj⟩ : ∃ j, k = j + 1 := ⟨k - 1, by omega⟩
          have hz0 : ((k : Int) == 0) = false := beqF (by omega)
          have wk : IntKind.i64.wrap ((k : Int) - 1) = (j : Int) := by rw [IntWalk.i64_in _ (by omega)]; omega
          have hj0 : ¬ (j : Int) < 0 := by omega
          have hjn : (j : Int) < (n : Int) := by omega
          obtain ⟨p, hp⟩ : ∃ p, s[j]? = some p := ⟨_, List.getElem?_eq_getElem (by have := HN.out; omega)⟩
          obtain ⟨u0, u1, u2, u3⟩ := alr_at2 (RS.out w5 B5.out) hp
          have hp1 : s[k - 1]? = some p := by rw [show k - 1 = j by omega]; exact hp
          by_cases hps : p.subj = x.subj
          · have e1 : (p.subj != x.subj) = false := bneF hps
            have HT := Lib.hid (HF3.out ⟨h0, p, hp1, hps⟩)
            clear hps hp hp1 h0 hj hkc
            go_quiet (fail)
            go_wp2_with fail
            go_meet
            exact ⟨false, _, rfl, rfl, fun h => absurd h (by decide), fun _ => HT.out⟩
          · have e1 : (p.subj != x.subj) = true := bneT hps
            have HT := Lib.hid (HF2.out (.inr ⟨p, hp1, hps⟩))
            clear hps hp hp1 h0 hj hkc
            go_quiet (fail)
            go_wp2_with fail
            go_meet
            exact ⟨true, _, rfl, rfl, fun _ => HT.out, fun h => absurd h (by decide)⟩
      case rest =>
      obtain ⟨f, q, rfl, rfl, HF⟩ := hcut
      go_upto_if 25 with fail
      obtain ⟨T2, hT2⟩ : ∃ T2 : List Tly, T2 = F ++ [⟨x.subj, ct, 0⟩] := ⟨_, rfl⟩
      have HT2' := Lib.hid hT2
      rw [← hT2] at HF3 HF
      clear hT2
      go_cut [3] from 26 to 31 (fun s3 wx => Hid (wx.ownsRow w.heap.size 31 3 s3 T2.length (tlysC T2)) ∧ Hid (Below w.heap.size w wx))
      case first =>
        have hw6 := (below_drewN' (Below.refl w5.heap.size w5) q)
        have HW6 := Lib.hid (B5.out.trans (hw6.mono B5.out.size))
        cases f
        · have HT := Lib.hid (HF.out.2 rfl)
          rw [HT.out] at HO5
          clear HF HT HF1 HF2 HF3
          go_wp2_with fail
          go_meet
          exact ⟨own_below HO5.out hw6, HW6.out⟩
        · have HT := Lib.hid (HF.out.1 rfl)
          have HT1 := Lib.hid HT.out.1
          obtain rfl : ct = 0 := HT.out.2
          rw [HT1.out] at HO5
          have HO6 := Lib.hid (own_below HO5.out hw6)
          clear HF HT HT1 HF1 HF2 HF3 hw6
          go_wp2_with (first
            | (at_builtin; go_loud (refine wp_append_tly _ rfl (.tmp 26) (.tmp 30) rfl w.heap.size _ F ⟨x.subj, 0, 0⟩ _ _ _ rfl (HO6.out.alloc _) rfl (reads_blk _ #[.int .i64 x.subj, .int .i64 ((0 : Nat) : Int), .int .i64 ((0 : Nat) : Int)] _) (by omega) (by have := HW6.out.size; simp; omega) ?_; intro v4 w4 ho4 hb4))
            | fail)
          go_meet
          exact ⟨by rw [HT2'.out]; exact ho4, (HW6.out.alloc HW6.out.size _).trans hb4⟩
      case rest =>
      obtain ⟨HO7, HW7⟩ := hcut
      generalize wc = w7 at *
      obtain ⟨m, hm'⟩ : ∃ m, m = F.length := ⟨_, rfl⟩
      obtain ⟨n3, hn3⟩ : ∃ n3, n3 = m + 1 := ⟨_, rfl⟩
      obtain ⟨ad7, c7, rfl, HR7⟩ := row_open (n := n3) HO7.out (by rw [HT2'.out]; simp; omega) (by omega)
      have wk : IntKind.i64.wrap ((n3 : Int) - 1) = (m : Int) := by rw [IntWalk.i64_in _ (by omega)]; omega
      have hm0 : ¬ (m : Int) < 0 := by omega
      have hmn : (m : Int) < (n3 : Int) := by omega
      have wc1 : IntKind.i64.wrap ((ct : Int) + 1) = ((ct + 1 : Nat) : Int) := by rw [IntWalk.i64_in _ (by omega)]; omega
      have hx7 : T2[m]? = some ⟨x.subj, ct, 0⟩ := by rw [HT2'.out, hm']; simp
      obtain ⟨z0, z1, z2, zf⟩ := HR7.at_ hx7
      have zf1 := zf ((ad7.add (m * 3)).off + 1)
      have HE := Lib.hid (HR7.set_ (j := 1) (v := .int .i64 ((ct + 1 : Nat) : Int)) (x' := ⟨x.subj, ct + 1, 0⟩) hx7 (by omega) rfl)
      have HEB := Lib.hid (HR7.bel (k := m) (j := 1) (v := .int .i64 ((ct + 1 : Nat) : Int)) HW7.out (Nat.le_refl _))
      have HS := Lib.hid (show T2.set m ⟨x.subj, ct + 1, 0⟩ = explL (s.take (k + 1)) by rw [HF1.out, HT2'.out, hm']; simp)
      clear hx7 zf hm' hn3 HF HF1 HF2 HF3 HO7 HR7
      go_wp2_with fail
      go_roundg gi
      case measure => omega
      case rel => exact ⟨k + 1, by omega, by go_num, HEB.out, by rw [← HS.out]; exact HE.out.row⟩
end Go.Proofs.YtipipjbpjpdcbaaDoor.Ct
