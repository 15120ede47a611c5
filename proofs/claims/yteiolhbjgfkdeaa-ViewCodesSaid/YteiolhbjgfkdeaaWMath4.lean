/- The plain laws, more: what is cut short. -/
import Derived.Test.YteiolhbjgfkdeaaWMath3
namespace Go.Proofs.Yteiolhbjgfkdeaa.W
set_option linter.unusedVariables false
open Go.Lib (uvarint zigzag unzigzag uvarint_small uvarint_big uvarint_pos)

theorem rdLen_cut {v k : Nat} {max : Int} (h : v < 18446744073709551616) (hm : 0 ≤ max) (hk : k < (enU v).length) : rdLen ((enU v).take k) max = (0, 0, 2) := by
  unfold rdLen
  rw [rdU_cut h hk, if_neg (by omega), if_pos (by simp)]
theorem take_app {α : Type} (a b : List α) (k : Nat) : (k < a.length ∧ (a ++ b).take k = a.take k) ∨ ∃ j, k = a.length + j ∧ (a ++ b).take k = a ++ b.take j := by
  by_cases h : k < a.length
  · exact .inl ⟨h, List.take_append_of_le_length (by omega)⟩
  · exact .inr ⟨k - a.length, by omega, by rw [show k = a.length + (k - a.length) by omega, List.take_length_add_append]; simp⟩
theorem rdS_cut {s : List UInt8} {max : Int} {k : Nat} (hl : s.length < 18446744073709551616) (hm : (s.length : Int) ≤ max) (hk : k < (enS s).length) : rdS ((enS s).take k) max = ([], 0, 2) := by
  have hlen : (enS s).length = (enU s.length).length + s.length := List.length_append
  unfold enS
  rcases take_app (enU s.length) s k with ⟨h, e⟩ | ⟨j, rfl, e⟩
  · rw [e]
    unfold rdS
    rw [rdLen_cut hl (by omega) h, if_pos (by simp)]
  · rw [e]
    unfold rdS
    rw [rdLen_back hl hm, if_neg (by simp), if_pos (by rw [List.length_append, List.length_take]; dsimp only; omega)]
theorem rdLoop_cut {α : Type} {el : List UInt8 → α × Nat × Nat} {en : α → List UInt8} (ok : α → Prop) (hel : ∀ x r, ok x → el (en x ++ r) = (x, (en x).length, 0))
    (hcut : ∀ x k, ok x → k < (en x).length → (el ((en x).take k)).2.2 = 2) {b : List UInt8} :
    ∀ (l : List α) (out : List α) (n k : Nat), (∀ x ∈ l, ok x) → b.drop n = (l.flatMap en).take k → k < (l.flatMap en).length → rdLoop el b l.length out n = ([], 0, 2)
  | [], out, n, k, _, _, hk => by simp at hk
  | x :: l, out, n, k, hok, hb, hk => by
    rw [List.flatMap_cons] at hb hk
    rcases take_app (en x) (l.flatMap en) k with ⟨h, e⟩ | ⟨j, rfl, e⟩
    · rw [List.length_cons, rdLoop, hb, e, hcut x k (hok x (by simp)) h, if_pos (by simp)]
    · rw [e] at hb
      rw [List.length_append] at hk
      rw [List.length_cons, rdLoop, hb, hel x _ (hok x (by simp)), if_neg (by simp)]
      exact rdLoop_cut ok hel hcut l _ _ j (fun y hy => hok y (by simp [hy])) (drop_app hb) (by omega)
theorem rdL_cut {α : Type} {el : List UInt8 → α × Nat × Nat} {en : α → List UInt8} (ok : α → Prop) (hel : ∀ x r, ok x → el (en x ++ r) = (x, (en x).length, 0))
    (hcut : ∀ x k, ok x → k < (en x).length → (el ((en x).take k)).2.2 = 2) {l : List α} {max : Int} {k : Nat} (hm : (l.length : Int) ≤ max) (hlt : l.length < 18446744073709551616) (hl : ∀ x ∈ l, ok x)
    (hk : k < (enU l.length ++ l.flatMap en).length) : rdL el ((enU l.length ++ l.flatMap en).take k) max = ([], 0, 2) := by
  rw [List.length_append] at hk
  unfold rdL
  rcases take_app (enU l.length) (l.flatMap en) k with ⟨h, e⟩ | ⟨j, rfl, e⟩
  · rw [e, rdLen_cut hlt (by omega) h, if_pos (by simp)]
  · rw [e, rdLen_back hlt hm, if_neg (by simp)]
    exact rdLoop_cut ok hel hcut l [] (enU l.length).length j hl (by simp) (by omega)
theorem rdV_cut {v : GV} (h : v.ok = true) (hin : v.in64) {k : Nat} (hk : k < (enV v).length) : rdV ((enV v).take k) = (zeroGV 0, 0, 2) := by
  cases k with
  | zero => rfl
  | succ j =>
    have key : ∀ (c : UInt8) (t : List UInt8), enV v = c :: t → (rdVb c.toNat (t.take j)).2.2 = 2 → rdV ((enV v).take (j + 1)) = (zeroGV 0, 0, 2) := by
      intro c t he hr
      rw [he, List.take_succ_cons]
      show (if (rdVb c.toNat (t.take j)).2.2 ≠ 0 then _ else _) = _
      rw [hr, if_pos (by decide)]
    obtain ⟨kd, n, s, i, l⟩ := v
    obtain ⟨hn, hi⟩ := hin
    dsimp only at hn hi
    rcases (GV.ok_iff _).1 h with h | h | h | h | h | h <;> dsimp only at h
    · obtain ⟨rfl, rfl, rfl, rfl, rfl⟩ := h
      simp [enV] at hk
    · obtain ⟨rfl, rfl, rfl, rfl⟩ := h
      have hj : j < (enI n).length := by
        have e : (enV ⟨1, n, [], [], []⟩).length = (enI n).length + 1 := rfl
        omega
      refine key 1 (enI n) rfl ?_
      show (rdVb 1 ((enI n).take j)).2.2 = 2
      unfold rdVb
      rw [rdI_cut hn hj]; rfl
    · obtain ⟨rfl, hn01, rfl, rfl, rfl⟩ := h
      have hj : j = 0 := by
        have e : (enV ⟨2, n, [], [], []⟩).length = 2 := rfl
        omega
      subst hj
      exact key 2 _ rfl rfl
    · obtain ⟨rfl, hs, rfl, rfl, rfl⟩ := h
      have hj : j < (enS s).length := by
        have e : (enV ⟨3, 0, s, [], []⟩).length = (enS s).length + 1 := rfl
        omega
      refine key 3 (enS s) rfl ?_
      show (rdVb 3 ((enS s).take j)).2.2 = 2
      unfold rdVb
      rw [rdS_cut (max := 64) (by omega) (by omega) hj]; rfl
    · obtain ⟨rfl, hl, rfl, rfl, rfl⟩ := h
      have hj : j < (enIs i).length := by
        have e : (enV ⟨4, 0, [], i, []⟩).length = (enIs i).length + 1 := rfl
        omega
      refine key 4 (enIs i) rfl ?_
      show (rdVb 4 ((enIs i).take j)).2.2 = 2
      have := rdL_cut (el := rdI) (en := enI) In64 (fun x r hx => rdI_back hx r) (fun x k hx hk => by rw [rdI_cut hx hk]) (l := i) (max := 16) (k := j) (by omega) (by omega) hi hj
      have e : rdIs ((enIs i).take j) 16 = ([], 0, 2) := this
      unfold rdVb
      rw [e]; rfl
    · obtain ⟨rfl, hl, ht, rfl, rfl, rfl⟩ := h
      have hj : j < (enSs l).length := by
        have e : (enV ⟨5, 0, [], [], l⟩).length = (enSs l).length + 1 := rfl
        omega
      refine key 5 (enSs l) rfl ?_
      show (rdVb 5 ((enSs l).take j)).2.2 = 2
      have := rdL_cut (el := rdS64) (en := enS) (fun x => x.length ≤ 64) (fun x r hx => rdS_back (max := 64) (by omega) (by omega) r) (fun x k hx hk => by unfold rdS64; rw [rdS_cut (max := 64) (by omega) (by omega) hk]) (l := l) (max := 16) (k := j) (by omega) (by omega) (tooL_no ht) hj
      have e : rdSs ((enSs l).take j) 16 = ([], 0, 2) := this
      unfold rdVb
      rw [e]; rfl
theorem rdOpen_cut {k : Int} {body : List UInt8} (h1 : 1 ≤ k) (h2 : k ≤ 255) (hb : body.length ≤ 16777216) {j : Nat} (hj : j < (sealB k body ++ low4 (crc (sealB k body))).length) :
    rdOpen ((sealB k body ++ low4 (crc (sealB k body))).take j) = (0, [], 0, 2) := by
  rw [List.length_append, sealB_len, low4_len] at hj
  generalize hL : low4 (crc (sealB k body)) = L at *
  have hLl : L.length = 4 := by rw [← hL]; rfl
  have hlen : ((sealB k body ++ L).take j).length = j := by rw [List.length_take, List.length_append, sealB_len]; omega
  unfold rdOpen
  rw [hlen]
  by_cases h3 : j < 3
  · rw [if_pos h3]
  rw [if_neg h3]
  obtain ⟨m, rfl⟩ : ∃ m, j = m + 3 := ⟨j - 3, by omega⟩
  have e : (sealB k body ++ L).take (m + 3) = 65 :: 71 :: k.toNat.toUInt8 :: (enU body.length ++ (body ++ L)).take m := by simp [sealB]
  rw [e]
  obtain ⟨_, _, _, g3⟩ := seal_head (body := body) (t := L) h1 h2
  rw [if_neg (by simp [g3])]
  show (if (rdLen ((enU body.length ++ (body ++ L)).take m) 16777216).2.2 ≠ 0 then _ else if m + 3 - (3 + (rdLen ((enU body.length ++ (body ++ L)).take m) 16777216).2.1) < (rdLen ((enU body.length ++ (body ++ L)).take m) 16777216).1 + 4 then _ else _) = _
  rcases take_app (enU body.length) (body ++ L) m with ⟨h, e⟩ | ⟨q, rfl, e⟩
  · rw [e, rdLen_cut (by omega) (by omega) h, if_pos (by simp)]
    show (0, [], 0, (rdLen ((enU body.length).take m) 16777216).2.2) = _
    rw [rdLen_cut (by omega) (by omega) h]
  · rw [e, rdLen_back (by omega) (by omega), if_neg (by simp), if_pos (by dsimp only; omega)]
end Go.Proofs.Yteiolhbjgfkdeaa.W
