/- The plain laws, more: values and frames. -/
import Derived.Test.YteiolhbjgfkdeaaWMath2
namespace Go.Proofs.Yteiolhbjgfkdeaa.W
set_option linter.unusedVariables false
open Go.Lib (uvarint zigzag unzigzag uvarint_small uvarint_big uvarint_pos)

/-- The numbers of a value are ints. -/
def GV.in64 (v : GV) : Prop := In64 v.n ∧ ∀ x ∈ v.i, In64 x
theorem rdV_cons {c : UInt8} {t : List UInt8} {v : GV} {n : Nat} (h : rdVb c.toNat t = (v, n, 0)) : rdV (c :: t) = (v, 1 + n, 0) := by
  show (if (rdVb c.toNat t).2.2 ≠ 0 then _ else _) = _
  rw [h, if_neg (by simp)]
theorem rdV_back {v : GV} (h : v.ok = true) (hin : v.in64) (r : List UInt8) : rdV (enV v ++ r) = (v, (enV v).length, 0) := by
  obtain ⟨k, n, s, i, l⟩ := v
  obtain ⟨hn, hi⟩ := hin
  dsimp only at hn hi
  rcases (GV.ok_iff _).1 h with h | h | h | h | h | h <;> dsimp only at h
  · obtain ⟨rfl, rfl, rfl, rfl, rfl⟩ := h
    rfl
  · obtain ⟨rfl, rfl, rfl, rfl⟩ := h
    show rdV ((1 : UInt8) :: (enI n ++ r)) = _
    have e : rdVb 1 (enI n ++ r) = (⟨1, n, [], [], []⟩, (enI n).length, 0) := by unfold rdVb; rw [rdI_back hn]; rfl
    rw [rdV_cons (c := 1) e]
    show (_, 1 + (enI n).length, 0) = (_, ((1 : UInt8) :: enI n).length, 0)
    rw [List.length_cons, Nat.add_comm]
  · obtain ⟨rfl, hn01, rfl, rfl, rfl⟩ := h
    rcases hn01 with rfl | rfl <;> rfl
  · obtain ⟨rfl, hs, rfl, rfl, rfl⟩ := h
    show rdV ((3 : UInt8) :: (enS s ++ r)) = _
    have e : rdVb 3 (enS s ++ r) = (⟨3, 0, s, [], []⟩, (enS s).length, 0) := by unfold rdVb; rw [rdS_back (max := 64) (by omega) (by omega)]; rfl
    rw [rdV_cons (c := 3) e]
    show (_, 1 + (enS s).length, 0) = (_, ((3 : UInt8) :: enS s).length, 0)
    rw [List.length_cons, Nat.add_comm]
  · obtain ⟨rfl, hl, rfl, rfl, rfl⟩ := h
    show rdV ((4 : UInt8) :: (enIs i ++ r)) = _
    have e : rdVb 4 (enIs i ++ r) = (⟨4, 0, [], i, []⟩, (enIs i).length, 0) := by unfold rdVb; rw [rdIs_back (max := 16) (by omega) (by omega) hi]; rfl
    rw [rdV_cons (c := 4) e]
    show (_, 1 + (enIs i).length, 0) = (_, ((4 : UInt8) :: enIs i).length, 0)
    rw [List.length_cons, Nat.add_comm]
  · obtain ⟨rfl, hl, ht, rfl, rfl, rfl⟩ := h
    show rdV ((5 : UInt8) :: (enSs l ++ r)) = _
    have e : rdVb 5 (enSs l ++ r) = (⟨5, 0, [], [], l⟩, (enSs l).length, 0) := by unfold rdVb; rw [rdSs_back (max := 16) (by omega) (by omega) (tooL_no ht)]; rfl
    rw [rdV_cons (c := 5) e]
    show (_, 1 + (enSs l).length, 0) = (_, ((5 : UInt8) :: enSs l).length, 0)
    rw [List.length_cons, Nat.add_comm]
theorem low4_len (c : BitVec 32) : (low4 c).length = 4 := rfl
theorem sealB_len (k : Int) (body : List UInt8) : (sealB k body).length = 3 + (enU body.length).length + body.length := by simp [sealB]; omega
theorem sealB_drop3 (k : Int) (body t : List UInt8) : (sealB k body ++ t).drop 3 = enU body.length ++ (body ++ t) := by simp [sealB]
theorem kindByte {k : Int} (h1 : 1 ≤ k) (h2 : k ≤ 255) : (k.toNat.toUInt8).toNat = k.toNat := u8n (by omega)
/-- The head of what begins with a frame's head. -/
theorem seal_head {k : Int} {body t : List UInt8} (h1 : 1 ≤ k) (h2 : k ≤ 255) :
    (sealB k body ++ t).getD 0 0 = 65 ∧ (sealB k body ++ t).getD 1 0 = 71 ∧ (sealB k body ++ t).getD 2 0 = k.toNat.toUInt8 ∧ k.toNat.toUInt8 ≠ 0 := by
  refine ⟨rfl, rfl, rfl, fun h => ?_⟩
  have := congrArg UInt8.toNat h
  rw [kindByte h1 h2] at this
  have e : (0 : UInt8).toNat = 0 := rfl
  omega
/-- Reading a frame's head, its length and its body: what is left to ask is the sum. -/
theorem rdOpen_seal {k : Int} {body t : List UInt8} (h1 : 1 ≤ k) (h2 : k ≤ 255) (hb : body.length ≤ 16777216) (ht : 4 ≤ t.length) :
    rdOpen (sealB k body ++ t) = if t.take 4 ≠ low4 (crc (sealB k body)) then (0, [], 0, 4) else (k, body, (sealB k body).length + 4, 0) := by
  obtain ⟨g0, g1, g2, g3⟩ := seal_head (body := body) (t := t) h1 h2
  have hlen : (sealB k body ++ t).length = 3 + (enU body.length).length + body.length + t.length := by rw [List.length_append, sealB_len]
  unfold rdOpen
  rw [if_neg (by omega), g0, g1, g2, if_neg (by simp [g3]), sealB_drop3, rdLen_back (by omega) (by omega)]
  dsimp only
  rw [if_neg (by simp), if_neg (by omega)]
  have hd : (sealB k body ++ t).drop (3 + (enU body.length).length + body.length) = t := by rw [← sealB_len k body, List.drop_left]
  have htk : (sealB k body ++ t).take (3 + (enU body.length).length + body.length) = sealB k body := by rw [← sealB_len k body, List.take_left]
  have hd3 : (sealB k body ++ t).drop (3 + (enU body.length).length) = body ++ t := by
    rw [← List.drop_drop, sealB_drop3, List.drop_left]
  rw [hd, htk, hd3, List.take_left, kindByte h1 h2, sealB_len]
  have : ((k.toNat : Nat) : Int) = k := by omega
  rw [this]
theorem rdOpen_back {k : Int} {body : List UInt8} (h1 : 1 ≤ k) (h2 : k ≤ 255) (hb : body.length ≤ 16777216) (r : List UInt8) :
    rdOpen (sealB k body ++ (low4 (crc (sealB k body)) ++ r)) = (k, body, (sealB k body ++ low4 (crc (sealB k body))).length, 0) := by
  rw [rdOpen_seal h1 h2 hb (by rw [List.length_append, low4_len]; omega)]
  rw [if_neg (by rw [show (4 : Nat) = (low4 (crc (sealB k body))).length from rfl, List.take_left]; simp), List.length_append, low4_len]
/-! ### what is decoded begins with its encoding -/
theorem drop_of {α : Type} {b x r : List α} (h : b = x ++ r) : b.drop x.length = r := by subst h; simp
theorem rdS_canon {b s : List UInt8} {max : Int} {n : Nat} (hs : rdS b max = (s, n, 0)) (hok : ∃ k m, rdU b = (k, m, 0) ∧ 0 ≤ max ∧ (k : Int) ≤ max ∧ s = (b.drop m).take k ∧ n = m + k ∧ m + k ≤ b.length ∧ 1 ≤ m ∧ m ≤ 10) :
    (s.length : Int) ≤ max ∧ n = (enS s).length ∧ ∃ r, b = enS s ++ r := by
  obtain ⟨k, m, h1, h2, h3, h4, h5, h6, _, _⟩ := hok
  obtain ⟨_, g2, r, g3⟩ := rdU_canon h1
  have hr : b.drop m = r := by rw [g3, g2, List.drop_left]
  rw [hr] at h4
  have hlen : b.length = m + r.length := by rw [g3, List.length_append, ← g2]
  have hsl : s.length = k := by rw [h4, List.length_take]; omega
  refine ⟨by omega, by rw [enS, List.length_append, hsl, ← g2, h5], r.drop k, ?_⟩
  rw [enS, hsl, h4, List.append_assoc, List.take_append_drop, ← g3]
theorem rdLoop_canon {α : Type} {el : List UInt8 → α × Nat × Nat} {en : α → List UInt8} (P : α → Prop) (hel : ∀ c x j, el c = (x, j, 0) → P x ∧ j = (en x).length ∧ ∃ r, c = en x ++ r) {b : List UInt8} :
    ∀ (k : Nat) (out : List α) (n : Nat) (res : List α) (m : Nat), rdLoop el b k out n = (res, m, 0) →
      ∃ l r, res = out ++ l ∧ l.length = k ∧ (∀ x ∈ l, P x) ∧ b.drop n = l.flatMap en ++ r ∧ m = n + (l.flatMap en).length
  | 0, out, n, res, m, h => by
    simp only [rdLoop, Prod.mk.injEq, and_true] at h
    exact ⟨[], b.drop n, by simp [h.1], rfl, by simp, by simp, by simp [h.2]⟩
  | k + 1, out, n, res, m, h => by
    rw [rdLoop] at h
    split at h
    · rename_i he; simp at h; exact absurd h.2.2 he
    · rename_i he
      obtain ⟨hp, hj, r0, hr0⟩ := hel (b.drop n) (el (b.drop n)).1 (el (b.drop n)).2.1 (by
        have : (el (b.drop n)).2.2 = 0 := by omega
        rw [← this])
      obtain ⟨l, r, g1, g2, g3, g4, g5⟩ := rdLoop_canon P hel k _ _ res m h
      refine ⟨(el (b.drop n)).1 :: l, r, by rw [g1]; simp, by simp [g2], ?_, ?_, ?_⟩
      · intro x hx
        rcases List.mem_cons.1 hx with rfl | hx
        · exact hp
        · exact g3 x hx
      · rw [List.flatMap_cons, List.append_assoc, ← g4]
        have hd : b.drop (n + (el (b.drop n)).2.1) = r0 := by rw [hj]; exact drop_app hr0
        rw [hd]; exact hr0
      · rw [g5, List.flatMap_cons, List.length_append, hj]; omega
theorem rdL_canon {α : Type} {el : List UInt8 → α × Nat × Nat} {en : α → List UInt8} (P : α → Prop) (hel : ∀ c x j, el c = (x, j, 0) → P x ∧ j = (en x).length ∧ ∃ r, c = en x ++ r) {b : List UInt8} {max : Int} {l : List α} {m : Nat}
    (h : rdL el b max = (l, m, 0)) (hlen : ∀ k n, rdLen b max = (k, n, 0) → rdU b = (k, n, 0) ∧ (k : Int) ≤ max) :
    (l.length : Int) ≤ max ∧ (∀ x ∈ l, P x) ∧ m = (enU l.length ++ l.flatMap en).length ∧ ∃ r, b = (enU l.length ++ l.flatMap en) ++ r := by
  unfold rdL at h
  split at h
  · rename_i he; simp at h; exact absurd h.2.2 he
  · rename_i he
    obtain ⟨g1, g2⟩ := hlen (rdLen b max).1 (rdLen b max).2.1 (by
      have : (rdLen b max).2.2 = 0 := by omega
      rw [← this])
    obtain ⟨_, q2, r, q3⟩ := rdU_canon g1
    obtain ⟨l', r', e1, e2, e3, e4, e5⟩ := rdLoop_canon P hel _ _ _ _ _ h
    obtain rfl : l = l' := by simpa using e1
    have hr : b.drop (rdLen b max).2.1 = r := by rw [q2]; exact drop_of q3
    rw [hr] at e4
    refine ⟨by rw [e2]; exact g2, e3, by rw [List.length_append, e2, ← q2, e5], r', ?_⟩
    rw [List.append_assoc, ← e4, e2]
    exact q3
end Go.Proofs.Yteiolhbjgfkdeaa.W
