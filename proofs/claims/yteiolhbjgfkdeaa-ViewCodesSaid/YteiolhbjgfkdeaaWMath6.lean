/- The plain laws, more: what is decoded begins with its encoding, for values and frames, too. -/
import Derived.Test.YteiolhbjgfkdeaaWMath4
import Derived.Test.YteiolhbjgfkdeaaWRound
namespace Go.Proofs.Yteiolhbjgfkdeaa.W
set_option linter.unusedVariables false
open Go.Lib (uvarint zigzag unzigzag uvarint_small uvarint_big uvarint_pos)

def Canon (b X : List UInt8) (n : Nat) : Prop := X.length = n ∧ 1 ≤ n ∧ n ≤ b.length ∧ b.take n = X
theorem Canon.of {b X : List UInt8} {n : Nat} (hn : n = X.length) (hp : 0 < X.length) (h : ∃ r, b = X ++ r) : Canon b X n := by
  obtain ⟨r, rfl⟩ := h
  subst hn
  exact ⟨rfl, hp, by simp, List.take_left⟩
theorem canonU {b : List UInt8} {v n : Nat} (h : rdU b = (v, n, 0)) : v < 18446744073709551616 ∧ Canon b (enU v) n := by
  obtain ⟨h1, h2, h3⟩ := rdU_canon h
  exact ⟨h1, .of h2 (enU_pos v) h3⟩
theorem canonI {b : List UInt8} {v : Int} {n : Nat} (h : rdI b = (v, n, 0)) : In64 v ∧ Canon b (enI v) n := by
  obtain ⟨h1, h2, h3⟩ := rdI_canon h
  exact ⟨h1, .of h2 (enU_pos _) h3⟩
theorem rdS_canon' {b s : List UInt8} {max : Int} {n : Nat} (h : rdS b max = (s, n, 0)) : (s.length : Int) ≤ max ∧ n = (enS s).length ∧ ∃ r, b = enS s ++ r := rdS_canon h (rdS_ok h)
theorem enS_pos' (s : List UInt8) : 0 < (enS s).length := by
  have := enU_pos s.length
  unfold enS
  rw [List.length_append]; omega
theorem canonS {b s : List UInt8} {max : Int} {n : Nat} (h : rdS b max = (s, n, 0)) : (s.length : Int) ≤ max ∧ Canon b (enS s) n := by
  obtain ⟨h1, h2, h3⟩ := rdS_canon' h
  exact ⟨h1, .of h2 (enS_pos' s) h3⟩
theorem rdIs_canon {b : List UInt8} {l : List Int} {max : Int} {n : Nat} (h : rdIs b max = (l, n, 0)) : (l.length : Int) ≤ max ∧ (∀ x ∈ l, In64 x) ∧ n = (enIs l).length ∧ ∃ r, b = enIs l ++ r :=
  rdL_canon (en := enI) In64 (fun c x j hx => rdI_canon hx) h (fun k n hk => ⟨(rdLen_ok hk).1, (rdLen_ok hk).2.2⟩)
theorem rdSs_canon {b : List UInt8} {l : List (List UInt8)} {max : Int} {n : Nat} (h : rdSs b max = (l, n, 0)) : (l.length : Int) ≤ max ∧ (∀ x ∈ l, (x.length : Int) ≤ 64) ∧ n = (enSs l).length ∧ ∃ r, b = enSs l ++ r :=
  rdL_canon (en := enS) (fun x => (x.length : Int) ≤ 64) (fun c x j hx => rdS_canon' hx) h (fun k n hk => ⟨(rdLen_ok hk).1, (rdLen_ok hk).2.2⟩)
theorem enIs_pos (l : List Int) : 0 < (enIs l).length := by
  have := enU_pos l.length
  unfold enIs
  rw [List.length_append]; omega
theorem canonIs {b : List UInt8} {l : List Int} {max : Int} {n : Nat} (h : rdIs b max = (l, n, 0)) : (l.length : Int) ≤ max ∧ (∀ x ∈ l, In64 x) ∧ Canon b (enIs l) n := by
  obtain ⟨h1, h2, h3, h4⟩ := rdIs_canon h
  exact ⟨h1, h2, .of h3 (enIs_pos l) h4⟩
theorem canonV {b : List UInt8} {v : GV} {n : Nat} (h : rdV b = (v, n, 0)) : v.ok = true ∧ v.in64 ∧ Canon b (enV v) n := by
  cases b with
  | nil => simp [rdV] at h
  | cons c r =>
    obtain ⟨⟨v', m, e⟩, hb⟩ : ∃ x, rdVb c.toNat r = x := ⟨_, rfl⟩
    have hu : rdV (c :: r) = if (rdVb c.toNat r).2.2 ≠ 0 then (zeroGV 0, 0, (rdVb c.toNat r).2.2) else ((rdVb c.toNat r).1, 1 + (rdVb c.toNat r).2.1, 0) := rfl
    rw [hu, hb] at h
    dsimp only at h
    by_cases he : e ≠ 0
    · rw [if_pos he] at h
      simp only [Prod.mk.injEq] at h
      exact absurd h.2.2 he
    obtain rfl : e = 0 := by omega
    rw [if_neg (by simp)] at h
    simp only [Prod.mk.injEq, and_true] at h
    obtain ⟨rfl, rfl⟩ := h
    have key : ∀ (k : Nat) (Y : List UInt8), c.toNat = k → enV v' = k.toUInt8 :: Y → m = Y.length → (∃ r', r = Y ++ r') → Canon (c :: r) (enV v') (1 + m) := by
      intro k Y hk hY hm hr
      rw [u8eq hk] at hY
      obtain ⟨r', rfl⟩ := hr
      exact .of (by rw [hY, List.length_cons, hm, Nat.add_comm]) (by rw [hY]; simp) ⟨r', by rw [hY]; rfl⟩
    generalize hk : c.toNat = k at hb
    unfold rdVb at hb
    have z64 : In64 0 := ⟨by decide, by decide⟩
    by_cases k0 : k = 0
    · subst k0
      rw [if_pos rfl] at hb
      simp only [Prod.mk.injEq, and_true] at hb
      obtain ⟨rfl, rfl⟩ := hb
      exact ⟨rfl, ⟨z64, by simp [zeroGV]⟩, key 0 [] hk rfl rfl ⟨r, rfl⟩⟩
    rw [if_neg k0] at hb
    by_cases k1 : k = 1
    · subst k1
      rw [if_pos rfl] at hb
      simp only [Prod.mk.injEq] at hb
      obtain ⟨rfl, hm, he⟩ := hb
      obtain ⟨g1, g2, g3⟩ := rdI_canon (b := r) (v := (rdI r).1) (n := m) (by rw [← hm, ← he])
      exact ⟨rfl, ⟨g1, by simp [zeroGV]⟩, key 1 (enI (rdI r).1) hk rfl g2 g3⟩
    rw [if_neg k1] at hb
    by_cases k2 : k = 2
    · subst k2
      rw [if_pos rfl] at hb
      simp only [Prod.mk.injEq] at hb
      obtain ⟨rfl, hm, he⟩ := hb
      cases r with
      | nil => simp [rdB] at he
      | cons d r =>
        have hu2 : rdB (d :: r) = if 1 < d.toNat then (0, 0, 3) else ((d.toNat : Int), 1, 0) := rfl
        by_cases hd : 1 < d.toNat
        · rw [hu2, if_pos hd] at he; simp at he
        · rw [hu2, if_neg hd] at hm
          have e1 : (rdB (d :: r)).1 = (d.toNat : Int) := by rw [hu2, if_neg hd]
          rw [e1] at key ⊢
          have hd2 : d.toNat = 0 ∨ d.toNat = 1 := by omega
          refine ⟨?_, ⟨⟨by dsimp only; omega, by dsimp only; omega⟩, by simp [zeroGV]⟩, key 2 [d] hk ?_ hm.symm ⟨r, rfl⟩⟩
          · rw [GV.ok_iff]
            exact .inr (.inr (.inl ⟨rfl, by dsimp only; omega, rfl, rfl, rfl⟩))
          · show _ :: [(d.toNat : Int).toNat.toUInt8] = _
            rw [Int.toNat_natCast, u8eq (c := d) rfl]
            rfl
    rw [if_neg k2] at hb
    by_cases k3 : k = 3
    · subst k3
      rw [if_pos rfl] at hb
      simp only [Prod.mk.injEq] at hb
      obtain ⟨rfl, hm, he⟩ := hb
      obtain ⟨g1, g2, g3⟩ := rdS_canon' (b := r) (max := 64) (s := (rdS r 64).1) (n := m) (by rw [← hm, ← he])
      refine ⟨?_, ⟨z64, by simp [zeroGV]⟩, key 3 (enS (rdS r 64).1) hk rfl g2 g3⟩
      rw [GV.ok_iff]
      exact .inr (.inr (.inr (.inl ⟨rfl, by dsimp only; omega, rfl, rfl, rfl⟩)))
    rw [if_neg k3] at hb
    by_cases k4 : k = 4
    · subst k4
      rw [if_pos rfl] at hb
      simp only [Prod.mk.injEq] at hb
      obtain ⟨rfl, hm, he⟩ := hb
      obtain ⟨g1, g2, g3, g4⟩ := rdIs_canon (b := r) (max := 16) (l := (rdIs r 16).1) (n := m) (by rw [← hm, ← he])
      refine ⟨?_, ⟨z64, g2⟩, key 4 (enIs (rdIs r 16).1) hk rfl g3 g4⟩
      rw [GV.ok_iff]
      exact .inr (.inr (.inr (.inr (.inl ⟨rfl, by dsimp only; omega, rfl, rfl, rfl⟩))))
    rw [if_neg k4] at hb
    by_cases k5 : k = 5
    · subst k5
      rw [if_pos rfl] at hb
      simp only [Prod.mk.injEq] at hb
      obtain ⟨rfl, hm, he⟩ := hb
      obtain ⟨g1, g2, g3, g4⟩ := rdSs_canon (b := r) (max := 16) (l := (rdSs r 16).1) (n := m) (by rw [← hm, ← he])
      refine ⟨?_, ⟨z64, by simp [zeroGV]⟩, key 5 (enSs (rdSs r 16).1) hk rfl g3 g4⟩
      rw [GV.ok_iff]
      exact .inr (.inr (.inr (.inr (.inr ⟨rfl, by dsimp only; omega, tooL_of (fun s hs => by have := g2 s hs; omega), rfl, rfl, rfl⟩))))
    rw [if_neg k5] at hb
    simp at hb
theorem canonO {b body : List UInt8} {k : Int} {n : Nat} (h : rdOpen b = (k, body, n, 0)) : 1 ≤ k ∧ k ≤ 255 ∧ body.length ≤ 16777216 ∧ Canon b (sealB k body ++ low4 (crc (sealB k body))) n := by
  match b, h with
  | [], h => simp [rdOpen] at h
  | [_], h => simp [rdOpen] at h
  | [_, _], h => simp [rdOpen] at h
  | a0 :: a1 :: a2 :: t, h =>
    obtain ⟨⟨L, m, e⟩, hL⟩ : ∃ x, rdLen t 16777216 = x := ⟨_, rfl⟩
    have hd3 : (a0 :: a1 :: a2 :: t).drop 3 = t := rfl
    unfold rdOpen at h
    rw [if_neg (by simp)] at h
    by_cases hh : (a0 :: a1 :: a2 :: t).getD 0 0 ≠ 65 ∨ (a0 :: a1 :: a2 :: t).getD 1 0 ≠ 71 ∨ (a0 :: a1 :: a2 :: t).getD 2 0 = 0
    · rw [if_pos hh] at h; simp at h
    rw [if_neg hh, hd3, hL] at h
    dsimp only at h
    by_cases he : e ≠ 0
    · rw [if_pos he] at h
      simp only [Prod.mk.injEq] at h
      exact absurd h.2.2.2 he
    obtain rfl : e = 0 := by omega
    rw [if_neg (by simp)] at h
    by_cases hs : (a0 :: a1 :: a2 :: t).length - (3 + m) < L + 4
    · rw [if_pos hs] at h; simp at h
    rw [if_neg hs] at h
    by_cases hc : ((a0 :: a1 :: a2 :: t).drop (3 + m + L)).take 4 ≠ low4 (crc ((a0 :: a1 :: a2 :: t).take (3 + m + L)))
    · rw [if_pos hc] at h; simp at h
    rw [if_neg hc] at h
    simp only [Prod.mk.injEq, and_true] at h
    obtain ⟨rfl, rfl, rfl⟩ := h
    obtain ⟨g1, g2, g3⟩ := rdLen_ok hL
    obtain ⟨_, g5, r, g6⟩ := rdU_canon g1
    simp only [not_or, ne_eq, Decidable.not_not] at hh hc
    obtain ⟨z0, z1, z2⟩ := hh
    obtain rfl : a0 = 65 := z0
    obtain rfl : a1 = 71 := z1
    have z2 : a2 ≠ 0 := z2
    have hlen : t.length = m + r.length := by rw [g6, List.length_append, ← g5]
    rw [List.length_cons, List.length_cons, List.length_cons] at hs
    have hrl : L + 4 ≤ r.length := by omega
    have e1 : ((65 :: 71 :: a2 :: t).drop (3 + m)) = r := by
      rw [← List.drop_drop, hd3, g5]; exact drop_of g6
    have e2 : ((65 :: 71 :: a2 :: t).getD 2 0) = a2 := rfl
    have hbl : (r.take L).length = L := by rw [List.length_take]; omega
    have ha2 : 1 ≤ a2.toNat := by
      have := a2.toNat_lt
      by_cases h0 : a2.toNat = 0
      · exact absurd (UInt8.toNat_inj.1 (h0.trans rfl)) z2
      · omega
    have ha3 := a2.toNat_lt
    have hse : sealB (a2.toNat : Int) (r.take L) = 65 :: 71 :: a2 :: (enU L ++ r.take L) := by
      unfold sealB
      rw [hbl, Int.toNat_natCast, u8eq (c := a2) rfl]
    have hbt : (65 :: 71 :: a2 :: t : List UInt8) = sealB (a2.toNat : Int) (r.take L) ++ r.drop L := by
      rw [hse, g6]
      simp
    have hsl : (sealB (a2.toNat : Int) (r.take L)).length = 3 + m + L := by rw [sealB_len, hbl, ← g5]
    rw [e1, e2]
    refine ⟨by omega, by omega, by rw [hbl]; omega, ?_⟩
    have t1 : (65 :: 71 :: a2 :: t).take (3 + m + L) = sealB (a2.toNat : Int) (r.take L) := by rw [← hsl, hbt, List.take_left]
    have t2 : (65 :: 71 :: a2 :: t).drop (3 + m + L) = r.drop L := by rw [← hsl, hbt, List.drop_left]
    rw [t1, t2] at hc
    refine .of (by rw [List.length_append, hsl, low4_len]) (by rw [List.length_append, hsl]; omega) ⟨(r.drop L).drop 4, ?_⟩
    rw [← hc, List.append_assoc, List.take_append_drop]
    exact hbt
end Go.Proofs.Yteiolhbjgfkdeaa.W
