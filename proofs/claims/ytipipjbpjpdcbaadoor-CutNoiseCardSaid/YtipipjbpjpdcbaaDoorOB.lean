import Derived.Test.YtipipjbpjpdcbaaDoorVB
import Derived.Test.YtipipjbpjpdcbaaDoorHB
import Derived.Deep.LoopGhost
/- Rings as data: the order by a key, who is ahead, who is behind; rotations. -/
namespace Go.Proofs.YtipipjbpjpdcbaaDoor.O
set_option linter.unusedVariables false
open Go.Proofs.YtipipjbpjpdcbaaDoor.V

/-! ### the order by a key -/
def insK (k : Int → Nat) (m : Int) : List Int → List Int
  | [] => [m]
  | x :: t => if k x < k m then x :: insK k m t else m :: x :: t
def ordF (k : Int → Nat) (s l : List Int) : List Int := l.foldl (fun s x => insK k x s) s
def ordK (k : Int → Nat) (l : List Int) : List Int := ordF k [] l
def SAsc (k : Int → Nat) (l : List Int) : Prop := l.Pairwise (fun a b => k a < k b)
def InjOn (k : Int → Nat) (l : List Int) : Prop := ∀ a ∈ l, ∀ b ∈ l, k a = k b → a = b
theorem mem_insK {k : Int → Nat} {m x : Int} : ∀ {l : List Int}, x ∈ insK k m l ↔ x = m ∨ x ∈ l
  | [] => by simp [insK]
  | y :: t => by
    unfold insK
    split
    · rw [List.mem_cons, mem_insK (l := t), List.mem_cons]
      constructor
      · rintro (h | h | h)
        · exact .inr (.inl h)
        · exact .inl h
        · exact .inr (.inr h)
      · rintro (h | h | h)
        · exact .inr (.inl h)
        · exact .inl h
        · exact .inr (.inr h)
    · rw [List.mem_cons]
theorem len_insK {k : Int → Nat} {m : Int} : ∀ {l : List Int}, (insK k m l).length = l.length + 1
  | [] => rfl
  | y :: t => by
    unfold insK
    split
    · rw [List.length_cons, len_insK (l := t), List.length_cons]
    · rfl
theorem SAsc.insK {k : Int → Nat} {m : Int} : ∀ {l : List Int}, SAsc k l → (∀ x ∈ l, k x ≠ k m) → SAsc k (O.insK k m l)
  | [], _, _ => by unfold O.insK SAsc; simp
  | y :: t, h, hn => by
    unfold SAsc at h ⊢
    rw [List.pairwise_cons] at h
    unfold O.insK
    have hy := hn y (by simp)
    split
    · rename_i hlt
      rw [List.pairwise_cons]
      refine ⟨fun z hz => ?_, SAsc.insK h.2 fun x hx => hn x (by simp [hx])⟩
      rcases mem_insK.1 hz with rfl | hz
      · exact hlt
      · exact h.1 z hz
    · rename_i hge
      rw [List.pairwise_cons, List.pairwise_cons]
      refine ⟨fun z hz => ?_, h⟩
      rcases List.mem_cons.1 hz with rfl | hz
      · omega
      · have := h.1 z hz; omega
theorem mem_ordF {k : Int → Nat} {x : Int} : ∀ {l s : List Int}, x ∈ ordF k s l ↔ x ∈ s ∨ x ∈ l
  | [], s => by simp [ordF]
  | y :: t, s => by
    have := mem_ordF (k := k) (x := x) (l := t) (s := insK k y s)
    unfold ordF at this ⊢
    rw [List.foldl_cons, this, mem_insK, List.mem_cons]
    constructor
    · rintro ((h | h) | h)
      · exact .inr (.inl h)
      · exact .inl h
      · exact .inr (.inr h)
    · rintro (h | h | h)
      · exact .inl (.inr h)
      · exact .inl (.inl h)
      · exact .inr h
theorem len_ordF {k : Int → Nat} : ∀ {l s : List Int}, (ordF k s l).length = s.length + l.length
  | [], s => rfl
  | y :: t, s => by
    have := len_ordF (k := k) (l := t) (s := insK k y s)
    unfold ordF at this ⊢
    rw [List.foldl_cons, this, len_insK, List.length_cons]
    omega
theorem SAsc.ordF {k : Int → Nat} : ∀ {l s : List Int}, SAsc k s → l.Nodup → (∀ x ∈ l, ∀ y ∈ s, k x ≠ k y) → InjOn k l → SAsc k (O.ordF k s l)
  | [], s, h, _, _, _ => h
  | y :: t, s, h, hn, hd, hi => by
    rw [List.nodup_cons] at hn
    have := SAsc.ordF (l := t) (s := O.insK k y s) (h.insK fun x hx => (hd y (by simp) x hx).symm) hn.2 (fun x hx z hz => by
      rcases mem_insK.1 hz with rfl | hz
      · intro e
        have := hi x (by simp [hx]) z (by simp) e
        subst this
        exact hn.1 hx
      · exact hd x (by simp [hx]) z hz) (fun a ha b hb => hi a (by simp [ha]) b (by simp [hb]))
    unfold O.ordF at this ⊢
    rw [List.foldl_cons]
    exact this
theorem mem_ordK {k : Int → Nat} {x : Int} {l : List Int} : x ∈ ordK k l ↔ x ∈ l := by unfold ordK; rw [mem_ordF]; simp
theorem len_ordK {k : Int → Nat} {l : List Int} : (ordK k l).length = l.length := by unfold ordK; rw [len_ordF]; simp
theorem sasc_ordK {k : Int → Nat} {l : List Int} (hn : l.Nodup) (hi : InjOn k l) : SAsc k (ordK k l) :=
  SAsc.ordF (by unfold SAsc; simp) hn (fun x _ y hy => by simp at hy) hi
theorem ordK_snoc {k : Int → Nat} {l : List Int} {i : Nat} {x : Int} (h : l[i]? = some x) : ordK k (l.take (i + 1)) = insK k x (ordK k (l.take i)) := by
  unfold ordK ordF
  rw [List.take_add_one, h, List.foldl_append]
  rfl
theorem SAsc.ext {k : Int → Nat} : ∀ {a b : List Int}, SAsc k a → SAsc k b → (∀ x, x ∈ a ↔ x ∈ b) → a = b
  | [], [], _, _, _ => rfl
  | [], y :: b, _, _, h => by have := (h y).2 (by simp); simp at this
  | x :: a, [], _, _, h => by have := (h x).1 (by simp); simp at this
  | x :: a, y :: b, ha, hb, h => by
    unfold SAsc at ha hb
    rw [List.pairwise_cons] at ha hb
    have hxy : x = y := by
      rcases List.mem_cons.1 ((h x).1 (by simp)) with e | hx
      · exact e
      · rcases List.mem_cons.1 ((h y).2 (by simp)) with e | hy
        · exact e.symm
        · have h1 := hb.1 x hx
          have h2 := ha.1 y hy
          omega
    subst hxy
    have hab : a = b := SAsc.ext ha.2 hb.2 fun z => by
      constructor
      · intro hz
        rcases List.mem_cons.1 ((h z).1 (by simp [hz])) with e | hz2
        · subst e; have := ha.1 z hz; omega
        · exact hz2
      · intro hz
        rcases List.mem_cons.1 ((h z).2 (by simp [hz])) with e | hz2
        · subst e; have := hb.1 z hz; omega
        · exact hz2
    rw [hab]
theorem SAsc.nodup {k : Int → Nat} {l : List Int} (h : SAsc k l) : l.Nodup := by
  unfold SAsc at h
  exact h.imp fun hlt e => by subst e; exact Nat.lt_irrefl _ hlt
theorem Asc.nodup {l : List Int} (h : Asc l) : l.Nodup := by
  unfold Asc at h
  exact h.imp fun hlt e => by subst e; exact Int.lt_irrefl _ hlt
/-- Where the reference's inner loop stops: ahead are the smaller ones. -/
theorem insK_at {k : Int → Nat} {m : Int} : ∀ {l : List Int} {j : Nat}, (∀ i x, i < j → l[i]? = some x → k x < k m) → j ≤ l.length → (∀ x, l[j]? = some x → ¬ k x < k m) → insK k m l = l.take j ++ m :: l.drop j
  | [], j, _, hj, _ => by
    have : j = 0 := by simpa using hj
    subst this
    rfl
  | y :: t, 0, _, _, hs => by
    unfold insK
    rw [if_neg (hs y rfl)]
    rfl
  | y :: t, j + 1, hp, hj, hs => by
    unfold insK
    rw [if_pos (hp 0 y (by omega) rfl), insK_at (l := t) (j := j) (fun i x hi hx => hp (i + 1) x (by omega) (by simpa using hx)) (by simpa using hj) (fun x hx => hs x (by simpa using hx))]
    rfl
/-! ### who is ahead, who is behind -/
def aheadF (k : Int → Nat) (id : Int) (last : Int) (o : List Int) : Int := o.foldl (fun last e => if k e < k id then e else last) last
def lastD (o : List Int) : Int := o.getLast?.getD 0
def aheadK (k : Int → Nat) (o : List Int) (id : Int) : Int := aheadF k id (lastD o) o
def nextK (o : List Int) (id : Int) : Int := (o[((place o id + 1) % (o.length : Int)).toNat]?).getD 0
theorem aheadF_none {k : Int → Nat} {id : Int} : ∀ {o : List Int} {last : Int}, (∀ x ∈ o, ¬ k x < k id) → aheadF k id last o = last
  | [], last, _ => rfl
  | x :: t, last, h => by
    unfold aheadF
    rw [List.foldl_cons, if_neg (h x (by simp))]
    exact aheadF_none fun y hy => h y (by simp [hy])
theorem aheadF_all {k : Int → Nat} {id : Int} : ∀ {o : List Int} {last : Int}, (∀ x ∈ o, k x < k id) → aheadF k id last o = o.getLast?.getD last
  | [], last, _ => rfl
  | x :: t, last, h => by
    unfold aheadF
    rw [List.foldl_cons, if_pos (h x (by simp))]
    have := aheadF_all (k := k) (id := id) (o := t) (last := x) fun y hy => h y (by simp [hy])
    unfold aheadF at this
    rw [this]
    cases t with
    | nil => rfl
    | cons z t => rw [List.getLast?_cons_cons]; cases h2 : (z :: t).getLast? with
      | none => simp at h2
      | some u => rfl
theorem aheadK_split {k : Int → Nat} {id : Int} {P S : List Int} (hP : ∀ x ∈ P, k x < k id) (hS : ∀ x ∈ S, ¬ k x < k id) : aheadK k (P ++ S) id = P.getLast?.getD (lastD (P ++ S)) := by
  unfold aheadK
  have : aheadF k id (lastD (P ++ S)) (P ++ S) = aheadF k id (aheadF k id (lastD (P ++ S)) P) S := by unfold aheadF; rw [List.foldl_append]
  rw [this, aheadF_none hS, aheadF_all hP]
theorem lastD_snoc (l : List Int) (x : Int) : lastD (l ++ [x]) = x := by unfold lastD; simp
theorem lastD_app {a b : List Int} (h : b ≠ []) : lastD (a ++ b) = lastD b := by
  unfold lastD
  rw [List.getLast?_append]
  cases hb : b.getLast? with
  | none => rw [List.getLast?_eq_none_iff] at hb; exact absurd hb h
  | some u => rfl
theorem getLast_D {a : List Int} {d : Int} (h : a ≠ []) : a.getLast?.getD d = lastD a := by
  unfold lastD
  cases ha : a.getLast? with
  | none => rw [List.getLast?_eq_none_iff] at ha; exact absurd ha h
  | some u => rfl
/-! ### rotations -/
/-- c is the circle o, read from another place. -/
def Rot (o c : List Int) : Prop := ∃ P S, o = P ++ S ∧ c = S ++ P
theorem Rot.refl (o : List Int) : Rot o o := ⟨[], o, rfl, by simp⟩
theorem Rot.len {o c : List Int} (h : Rot o c) : c.length = o.length := by obtain ⟨P, S, rfl, rfl⟩ := h; simp; omega
theorem Rot.mem {o c : List Int} (h : Rot o c) (x : Int) : x ∈ c ↔ x ∈ o := by obtain ⟨P, S, rfl, rfl⟩ := h; simp [or_comm]
theorem Rot.nodup {o c : List Int} (h : Rot o c) (hn : o.Nodup) : c.Nodup := by
  obtain ⟨P, S, rfl, rfl⟩ := h
  rw [List.nodup_append] at hn ⊢
  exact ⟨hn.2.1, hn.1, fun a ha b hb e => hn.2.2 b hb a ha e.symm⟩
theorem Rot.turn {o : List Int} : ∀ {a b : List Int}, Rot o (a ++ b) → Rot o (b ++ a) := by
  intro a b h
  obtain ⟨P, S, ho, hc⟩ := h
  rcases List.append_eq_append_iff.1 hc with ⟨u, h1, h2⟩ | ⟨u, h1, h2⟩
  · -- S = a ++ u, b = u ++ P
    subst h1 h2
    exact ⟨P ++ a, u, by rw [ho]; simp, by simp⟩
  · -- a = S ++ u, P = u ++ b
    subst h1 h2
    exact ⟨u, b ++ S, by rw [ho]; simp, by simp⟩
theorem Rot.at_ {o : List Int} {y : Int} (h : y ∈ o) : ∃ R, Rot o (y :: R) := by
  obtain ⟨P, S, rfl⟩ := List.append_of_mem h
  exact ⟨S ++ P, P, y :: S, rfl, rfl⟩
theorem placeF_app {id : Int} : ∀ {P S : List Int} {i : Nat}, id ∉ P → placeF id i (P ++ id :: S) = ((i + P.length : Nat) : Int)
  | [], S, i, _ => by simp [placeF]
  | x :: P, S, i, h => by
    have hx : x ≠ id := fun e => h (by simp [e])
    show placeF id i (x :: (P ++ id :: S)) = _
    unfold placeF
    rw [if_neg hx, placeF_app (P := P) (S := S) (i := i + 1) (fun hm => h (by simp [hm]))]
    simp
    omega
theorem nextK_app {P S : List Int} {id : Int} (hn : id ∉ P) : nextK (P ++ id :: S) id = (S ++ P ++ [id]).head?.getD 0 := by
  unfold nextK place
  rw [placeF_app hn]
  have hl : (P ++ id :: S).length = P.length + S.length + 1 := by simp; omega
  rw [hl]
  cases S with
  | nil =>
    have e : (((0 + P.length : Nat) : Int) + 1) % ((P.length + ([] : List Int).length + 1 : Nat) : Int) = 0 := by
      have : (((0 + P.length : Nat) : Int) + 1) = ((P.length + ([] : List Int).length + 1 : Nat) : Int) := by simp
      rw [this, Int.emod_self]
    rw [e]
    cases P with
    | nil => rfl
    | cons x P => rfl
  | cons z S =>
    have e : ((((0 + P.length : Nat) : Int) + 1) % ((P.length + (z :: S).length + 1 : Nat) : Int)).toNat = P.length + 1 := by
      rw [Int.emod_eq_of_lt (by omega) (by simp; omega)]
      omega
    rw [e]
    have : (P ++ id :: z :: S)[P.length + 1]? = some z := by
      rw [List.getElem?_append_right (by omega), show P.length + 1 - P.length = 1 by omega]
      rfl
    rw [this]
    rfl
theorem mem_split {o P S : List Int} {id : Int} {k : Int → Nat} (h : SAsc k (P ++ id :: S)) : (∀ x ∈ P, k x < k id) ∧ (∀ x ∈ S, k id < k x) ∧ id ∉ P := by
  unfold SAsc at h
  rw [List.pairwise_append, List.pairwise_cons] at h
  refine ⟨fun x hx => h.2.2 x hx id (by simp), fun x hx => h.2.1.1 x hx, fun hm => ?_⟩
  have := h.2.2 id hm id (by simp)
  omega
/-- On the circle the next one is the one behind, the one ahead is the last one. -/
theorem circle {k : Int → Nat} {o : List Int} {y : Int} {R : List Int} (h : SAsc k o) (hr : Rot o (y :: R)) : nextK o y = (R ++ [y]).head?.getD 0 ∧ aheadK k o y = lastD (y :: R) := by
  obtain ⟨P, S, rfl, hc⟩ := hr
  cases S with
  | nil =>
    simp only [List.nil_append] at hc
    subst hc
    have hs := mem_split (o := []) (P := []) (S := R) (id := y) (k := k) (by simpa using h)
    refine ⟨?_, ?_⟩
    · have := nextK_app (P := []) (S := R) (id := y) (by simp)
      simp only [List.nil_append, List.append_nil] at this ⊢
      exact this
    · have := aheadK_split (k := k) (id := y) (P := []) (S := y :: R) (by simp) (fun x hx => by
        rcases List.mem_cons.1 hx with rfl | hx
        · omega
        · have := hs.2.1 x hx; omega)
      simpa using this
  | cons z S =>
    simp only [List.cons_append, List.cons.injEq] at hc
    obtain ⟨rfl, rfl⟩ := hc
    have hs := mem_split (o := []) (P := P) (S := S) (id := y) (k := k) h
    refine ⟨nextK_app hs.2.2, ?_⟩
    rw [aheadK_split (k := k) (id := y) (P := P) (S := y :: S) hs.1 (fun x hx => by
        rcases List.mem_cons.1 hx with rfl | hx
        · omega
        · have := hs.2.1 x hx; omega)]
    by_cases hP : P = []
    · subst hP; simp
    · rw [getLast_D hP, show y :: (S ++ P) = (y :: S) ++ P from rfl, lastD_app hP]
/-- The one behind y is z: then the one ahead of z is y. -/
theorem circle_two {k : Int → Nat} {o : List Int} {y z : Int} {R : List Int} (h : SAsc k o) (hr : Rot o (y :: z :: R)) : nextK o y = z ∧ aheadK k o z = y := by
  refine ⟨(circle h hr).1, ?_⟩
  have := (circle h (Rot.turn (a := [y]) (b := z :: R) hr)).2
  rw [this]
  exact lastD_snoc (z :: R) y
end Go.Proofs.YtipipjbpjpdcbaaDoor.O

/- Rings as data: observers, subjects, shared rings, neighbours; the laws of the overlay as plain mathematics. -/
namespace Go.Proofs.YtipipjbpjpdcbaaDoor.O
set_option linter.unusedVariables false
open Go.Proofs.YtipipjbpjpdcbaaDoor.V

def rings : List Int := [0, 1, 2, 3, 4]
def obsL (K : Int → Int → Nat) (l : List Int) (id : Int) : List Int := if validM l && isID id && !(decide (l = [id])) then rings.map (fun r => aheadK (K r) (ordK (K r) l) id) else []
def subL (K : Int → Int → Nat) (l : List Int) (id : Int) : List Int := if validM l && decide (2 ≤ l.length) && hasB l id then rings.map (fun r => nextK (ordK (K r) l) id) else []
/-- The places of a in a list. -/
def idxF (a : Int) : Nat → List Int → List Int
  | _, [] => []
  | i, y :: t => if y = a then (i : Int) :: idxF a (i + 1) t else idxF a (i + 1) t
def shL (K : Int → Int → Nat) (l : List Int) (a b : Int) : List Int := idxF a 0 (obsL K l b)
def nbStep (id : Int) (out : List Int) (x : Int) : List Int := if x != id && !(hasB out x) then ins x out else out
def nbF (id : Int) (out l : List Int) : List Int := l.foldl (nbStep id) out
def nbL (K : Int → Int → Nat) (l : List Int) (id : Int) : List Int := nbF id [] (obsL K l id ++ subL K l id)
/-- Different identifiers have different keys on each ring. -/
def Inj (K : Int → Int → Nat) : Prop := ∀ r a b, (1 ≤ a ∧ a ≤ 1000) → (1 ≤ b ∧ b ≤ 1000) → K r a = K r b → a = b
section
variable {K : Int → Int → Nat} {l : List Int}
theorem Inj.on (h : Inj K) (hl : IDs l) (r : Int) : InjOn (K r) l := fun a ha b hb e => h r a b (hl a ha) (hl b hb) e
theorem sasc_of (h : Inj K) (hv : validM l = true) (r : Int) : SAsc (K r) (ordK (K r) l) := by
  obtain ⟨_, _, h3, h4⟩ := validM_iff.1 hv
  exact sasc_ordK (Asc.nodup h3) (h.on h4 r)
theorem isID_mem (hv : validM l = true) {x : Int} (hx : x ∈ l) : isID x = true := isID_iff.2 ((validM_iff.1 hv).2.2.2 x hx)
theorem obsL_eq (hv : validM l = true) {x : Int} (hi : isID x = true) (hx : l ≠ [x]) : obsL K l x = rings.map (fun r => aheadK (K r) (ordK (K r) l) x) := by
  unfold obsL; rw [hv, hi, decide_eq_false hx]; rfl
theorem obsL_mem (hv : validM l = true) (h2 : 2 ≤ l.length) {x : Int} (hx : x ∈ l) : obsL K l x = rings.map (fun r => aheadK (K r) (ordK (K r) l) x) :=
  obsL_eq hv (isID_mem hv hx) fun e => by rw [e] at h2; simp at h2
theorem subL_eq (hv : validM l = true) (h2 : 2 ≤ l.length) {x : Int} (hx : x ∈ l) : subL K l x = rings.map (fun r => nextK (ordK (K r) l) x) := by
  unfold subL; rw [hv, decide_eq_true h2, hasB_iff.2 hx]; rfl
theorem obsL_len {x : Int} : (obsL K l x).length ≤ 5 := by unfold obsL; split <;> simp [rings]
theorem subL_len {x : Int} : (subL K l x).length ≤ 5 := by unfold subL; split <;> simp [rings]
/-- Of each member: the rotation that begins with it. -/
theorem rot_at (h : Inj K) (hv : validM l = true) (h2 : 2 ≤ l.length) (r : Int) {x : Int} (hx : x ∈ l) : ∃ z R, Rot (ordK (K r) l) (x :: z :: R) := by
  obtain ⟨R, hR⟩ := Rot.at_ (mem_ordK (k := K r).2 hx)
  have hl := hR.len
  rw [len_ordK] at hl
  cases R with
  | nil => simp at hl; omega
  | cons z R => exact ⟨z, R, hR⟩
theorem next_facts (h : Inj K) (hv : validM l = true) (h2 : 2 ≤ l.length) (r : Int) {x : Int} (hx : x ∈ l) :
    nextK (ordK (K r) l) x ∈ l ∧ nextK (ordK (K r) l) x ≠ x ∧ aheadK (K r) (ordK (K r) l) (nextK (ordK (K r) l) x) = x := by
  obtain ⟨z, R, hR⟩ := rot_at h hv h2 r hx
  have hs := sasc_of h hv r
  obtain ⟨e1, e2⟩ := circle_two hs hR
  have hn := hR.nodup hs.nodup
  rw [List.nodup_cons] at hn
  refine ⟨?_, ?_, by rw [e1]; exact e2⟩
  · rw [e1, ← mem_ordK (k := K r), ← hR.mem]; simp
  · rw [e1]; intro e; exact hn.1 (by simp [e])
theorem ahead_facts (h : Inj K) (hv : validM l = true) (h2 : 2 ≤ l.length) (r : Int) {x : Int} (hx : x ∈ l) :
    aheadK (K r) (ordK (K r) l) x ∈ l ∧ aheadK (K r) (ordK (K r) l) x ≠ x ∧ nextK (ordK (K r) l) (aheadK (K r) (ordK (K r) l) x) = x := by
  obtain ⟨R, hR⟩ := Rot.at_ (mem_ordK (k := K r).2 hx)
  have hs := sasc_of h hv r
  have hl := hR.len
  rw [len_ordK] at hl
  have hRn : R ≠ [] := fun e => by rw [e] at hl; simp at hl; omega
  obtain ⟨R', y, rfl⟩ : ∃ R' y, R = R' ++ [y] := ⟨_, _, (List.dropLast_concat_getLast hRn).symm⟩
  have hc := (circle hs hR).2
  have ey : aheadK (K r) (ordK (K r) l) x = y := by rw [hc]; exact lastD_snoc (x :: R') y
  have hn := hR.nodup hs.nodup
  rw [List.nodup_cons] at hn
  refine ⟨?_, ?_, ?_⟩
  · rw [ey, ← mem_ordK (k := K r), ← hR.mem]; simp
  · rw [ey]; intro e; exact hn.1 (by simp [e])
  · rw [ey]
    have := Rot.turn (a := x :: R') (b := [y]) (by simpa using hR)
    exact (circle hs (R := x :: R') (by simpa using this)).1
/-- Following subjects. -/
theorem step_at (h : Inj K) (hv : validM l = true) (h2 : 2 ≤ l.length) (r : Int) {c : List Int} (hc : Rot (ordK (K r) l) c) {i : Nat} {x : Int} (hx : c[i]? = some x) :
    nextK (ordK (K r) l) x = (c[i + 1]?).getD (c.head?.getD 0) := by
  have hs := sasc_of h hv r
  have hlen := hc.len
  rw [len_ordK] at hlen
  obtain ⟨hi, hxe⟩ := List.getElem?_eq_some_iff.1 hx
  have e : c = c.take i ++ x :: c.drop (i + 1) := by rw [← hxe, ← List.drop_eq_getElem_cons hi, List.take_append_drop]
  have hr : Rot (ordK (K r) l) (x :: (c.drop (i + 1) ++ c.take i)) := by
    rw [e] at hc
    have := Rot.turn hc
    simpa using this
  rw [(circle hs hr).1]
  cases hd : c.drop (i + 1) with
  | nil =>
    have h1 : c.length ≤ i + 1 := by simpa using hd
    have h3 : c[i + 1]? = none := by simp; omega
    rw [h3]
    cases c with
    | nil => simp at hi
    | cons c0 t =>
      cases i with
      | zero => simp at h1; subst h1; simp at hlen; omega
      | succ i => simp
  | cons z t =>
    have h3 : c[i + 1]? = some z := by
      have := congrArg List.head? hd
      rw [List.head?_drop] at this
      simpa using this
    rw [h3]
    simp
theorem take_not_mem {c : List Int} (hn : c.Nodup) {i : Nat} {x : Int} (hx : c[i]? = some x) : x ∉ c.take i := by
  obtain ⟨hi, hxe⟩ := List.getElem?_eq_some_iff.1 hx
  intro hm
  have e : c = c.take i ++ x :: c.drop (i + 1) := by rw [← hxe, ← List.drop_eq_getElem_cons hi, List.take_append_drop]
  rw [e, List.nodup_append] at hn
  exact hn.2.2 x hm x (by simp) rfl
/-! ### degrees -/
def ind (p : Prop) [Decidable p] : Nat := if p then 1 else 0
theorem idxF_len {a : Int} : ∀ {L : List Int} {i : Nat}, (idxF a i L).length = L.count a
  | [], i => rfl
  | y :: t, i => by
    unfold idxF
    rw [List.count_cons]
    split
    · rename_i h; rw [List.length_cons, idxF_len]; simp [h]
    · rename_i h; rw [idxF_len]; simp [h]
theorem count_rings (f : Int → Int) (m : Int) : (rings.map f).count m = ind (f 0 = m) + ind (f 1 = m) + ind (f 2 = m) + ind (f 3 = m) + ind (f 4 = m) := by
  unfold rings ind
  simp only [List.map_cons, List.map_nil, List.count_cons, List.count_nil, beq_iff_eq]
  omega
theorem sum5 (g0 g1 g2 g3 g4 : Int → Nat) : ∀ l : List Int, (l.map fun y => g0 y + g1 y + g2 y + g3 y + g4 y).sum = (l.map g0).sum + (l.map g1).sum + (l.map g2).sum + (l.map g3).sum + (l.map g4).sum
  | [] => rfl
  | y :: t => by
    simp only [List.map_cons, List.sum_cons, sum5 g0 g1 g2 g3 g4 t]
    omega
theorem sum_none {p : Int → Prop} [DecidablePred p] : ∀ {l : List Int}, (∀ y ∈ l, ¬ p y) → (l.map fun y => ind (p y)).sum = 0
  | [], _ => rfl
  | y :: t, h => by
    rw [List.map_cons, List.sum_cons, sum_none (l := t) fun z hz => h z (by simp [hz])]
    unfold ind
    rw [if_neg (h y (by simp))]
theorem sum_one {p : Int → Prop} [DecidablePred p] : ∀ {l : List Int} {z : Int}, l.Nodup → z ∈ l → p z → (∀ y ∈ l, p y → y = z) → (l.map fun y => ind (p y)).sum = 1
  | [], _, _, hz, _, _ => by simp at hz
  | y :: t, z, hn, hz, hp, hu => by
    rw [List.nodup_cons] at hn
    rw [List.map_cons, List.sum_cons]
    rcases List.mem_cons.1 hz with rfl | hz
    · rw [sum_none (l := t) fun w hw hpw => hn.1 (hu w (by simp [hw]) hpw ▸ hw)]
      unfold ind
      rw [if_pos hp]
    · have hne : ¬ p y := fun hpy => hn.1 (hu y (by simp) hpy ▸ hz)
      rw [sum_one (l := t) hn.2 hz hp fun w hw hpw => hu w (by simp [hw]) hpw]
      unfold ind
      rw [if_neg hne]
theorem map_congr' {α β : Type} {f g : α → β} : ∀ {l : List α}, (∀ x ∈ l, f x = g x) → l.map f = l.map g := fun h => List.map_congr_left h
theorem deg_out (h : Inj K) (hv : validM l = true) (h2 : 2 ≤ l.length) {m : Int} (hm : m ∈ l) : (l.map fun y => (shL K l m y).length).sum = 5 := by
  have hn := Asc.nodup (validM_iff.1 hv).2.2.1
  have e : l.map (fun y => (shL K l m y).length) = l.map (fun y => ind (aheadK (K 0) (ordK (K 0) l) y = m) + ind (aheadK (K 1) (ordK (K 1) l) y = m) + ind (aheadK (K 2) (ordK (K 2) l) y = m) + ind (aheadK (K 3) (ordK (K 3) l) y = m) + ind (aheadK (K 4) (ordK (K 4) l) y = m)) :=
    map_congr' fun y hy => by unfold shL; rw [idxF_len, obsL_mem hv h2 hy, count_rings]
  have one : ∀ r, (l.map fun y => ind (aheadK (K r) (ordK (K r) l) y = m)).sum = 1 := fun r => by
    have hf := next_facts h hv h2 r hm
    exact sum_one hn hf.1 hf.2.2 fun y hy e => by rw [← e, (ahead_facts h hv h2 r hy).2.2]
  rw [e, sum5, one, one, one, one, one]
theorem deg_in (h : Inj K) (hv : validM l = true) (h2 : 2 ≤ l.length) {m : Int} (hm : m ∈ l) : (l.map fun y => (shL K l y m).length).sum = 5 := by
  have hn := Asc.nodup (validM_iff.1 hv).2.2.1
  have e : l.map (fun y => (shL K l y m).length) = l.map (fun y => ind (aheadK (K 0) (ordK (K 0) l) m = y) + ind (aheadK (K 1) (ordK (K 1) l) m = y) + ind (aheadK (K 2) (ordK (K 2) l) m = y) + ind (aheadK (K 3) (ordK (K 3) l) m = y) + ind (aheadK (K 4) (ordK (K 4) l) m = y)) :=
    map_congr' fun y hy => by unfold shL; rw [idxF_len, obsL_mem hv h2 hm, count_rings]
  have one : ∀ r, (l.map fun y => ind (aheadK (K r) (ordK (K r) l) m = y)).sum = 1 := fun r =>
    sum_one hn (ahead_facts h hv h2 r hm).1 rfl fun y hy e => e.symm
  rw [e, sum5, one, one, one, one, one]
/-! ### a member that leaves -/
theorem nodup_valid (hv : validM l = true) : l.Nodup := Asc.nodup (validM_iff.1 hv).2.2.1
theorem rest_valid (hv : validM l = true) (h3 : 3 ≤ l.length) {x : Int} (hx : x ∈ l) : validM (l.filter fun y => y != x) = true ∧ (l.filter fun y => y != x).length + 1 = l.length := by
  obtain ⟨_, g2, g3, g4⟩ := validM_iff.1 hv
  have hlen : (l.filter fun y => y != x).length + 1 = l.length := by
    obtain ⟨P, S, rfl⟩ := List.append_of_mem hx
    have hn := Asc.nodup g3
    rw [List.nodup_append, List.nodup_cons] at hn
    have e1 : P.filter (fun y => y != x) = P := List.filter_eq_self.2 fun y hy => by
      have : y ≠ x := fun e => hn.2.2 y hy x (by simp) e
      simpa using this
    have e2 : S.filter (fun y => y != x) = S := List.filter_eq_self.2 fun y hy => by
      have : y ≠ x := fun e => hn.2.1.1 (e ▸ hy)
      simpa using this
    rw [List.filter_append, List.filter_cons, e1, e2]
    simp
    omega
  refine ⟨validM_iff.2 ⟨by omega, by omega, g3.filter _, g4.filter _⟩, hlen⟩
theorem ord_rest (h : Inj K) (hv : validM l = true) (r x : Int) : ordK (K r) (l.filter fun y => y != x) = (ordK (K r) l).filter fun y => y != x := by
  obtain ⟨_, _, g3, g4⟩ := validM_iff.1 hv
  refine SAsc.ext (sasc_ordK (Asc.nodup (g3.filter _)) (h.on (g4.filter _) r)) ?_ fun y => ?_
  · exact List.Pairwise.filter _ (sasc_of h hv r)
  · rw [mem_ordK, List.mem_filter, List.mem_filter, mem_ordK]
theorem Rot.filter {o c : List Int} (h : Rot o c) (p : Int → Bool) : Rot (o.filter p) (c.filter p) := by
  obtain ⟨P, S, rfl, rfl⟩ := h
  exact ⟨P.filter p, S.filter p, List.filter_append _ _, List.filter_append _ _⟩
theorem removal (h : Inj K) (hv : validM l = true) (h3 : 3 ≤ l.length) (r : Int) {x y : Int} (hx : x ∈ l) (hy : y ∈ l) (hne : y ≠ x) :
    nextK (ordK (K r) (l.filter fun z => z != x)) y = if y = aheadK (K r) (ordK (K r) l) x then nextK (ordK (K r) l) x else nextK (ordK (K r) l) y := by
  have hs := sasc_of h hv r
  obtain ⟨z, R, hR⟩ := rot_at h hv (by omega) r hy
  have hlen := hR.len
  rw [len_ordK] at hlen
  have hR' := hR.filter fun w => w != x
  rw [← ord_rest h hv] at hR'
  have hs' : SAsc (K r) (ordK (K r) (l.filter fun w => w != x)) := sasc_of h (rest_valid hv h3 hx).1 r
  obtain ⟨e1, e2⟩ := circle_two hs hR
  have hnd := hR.nodup hs.nodup
  by_cases hz : z = x
  · subst hz
    rw [if_pos e2.symm]
    rw [List.nodup_cons, List.nodup_cons] at hnd
    have eR : R.filter (fun w => w != z) = R := List.filter_eq_self.2 fun w hw => by
      have : w ≠ z := fun e => hnd.2.1 (e ▸ hw)
      simpa using this
    have ey : (y :: z :: R).filter (fun w => w != z) = y :: R := by
      rw [List.filter_cons, List.filter_cons, eR]
      simp [hne]
    rw [ey] at hR'
    rw [(circle hs' hR').1]
    have ht := Rot.turn (a := [y]) (b := z :: R) hR
    rw [(circle hs (R := R ++ [y]) ht).1]
    cases R with
    | nil => simp at hlen; omega
    | cons w R => rfl
  · have hne2 : ¬ y = aheadK (K r) (ordK (K r) l) x := fun e => by
      have := (ahead_facts h hv (by omega) r hx).2.2
      rw [← e, e1] at this
      exact hz this
    rw [if_neg hne2, e1]
    have ey : (y :: z :: R).filter (fun w => w != x) = y :: z :: R.filter (fun w => w != x) := by
      rw [List.filter_cons, List.filter_cons]
      simp [hne, hz]
    rw [ey] at hR'
    rw [(circle hs' hR').1]
    rfl
/-! ### a member that joins -/
theorem split_by (k : Int → Nat) (id : Int) : ∀ {o : List Int}, SAsc k o → ∃ P S, o = P ++ S ∧ (∀ x ∈ P, k x < k id) ∧ (∀ x ∈ S, ¬ k x < k id)
  | [], _ => ⟨[], [], rfl, by simp, by simp⟩
  | x :: t, h => by
    unfold SAsc at h
    rw [List.pairwise_cons] at h
    by_cases hx : k x < k id
    · obtain ⟨P, S, e, h1, h2⟩ := split_by k id (o := t) h.2
      refine ⟨x :: P, S, by rw [e]; rfl, fun y hy => ?_, h2⟩
      rcases List.mem_cons.1 hy with rfl | hy
      · exact hx
      · exact h1 y hy
    · refine ⟨[], x :: t, rfl, by simp, fun y hy => ?_⟩
      rcases List.mem_cons.1 hy with rfl | hy
      · exact hx
      · have := h.1 y hy; omega
theorem lastD_mem {l : List Int} (h : l ≠ []) : lastD l ∈ l := by
  unfold lastD
  cases hl : l.getLast? with
  | none => rw [List.getLast?_eq_none_iff] at hl; exact absurd hl h
  | some u => exact List.mem_of_getLast? hl
theorem ahead_mem (h : Inj K) (hv : validM l = true) (r x : Int) : aheadK (K r) (ordK (K r) l) x ∈ l := by
  have h1 : l ≠ [] := fun e => by have := (validM_iff.1 hv).1; rw [e] at this; simp at this
  obtain ⟨P, S, e, hP, hS⟩ := split_by (K r) x (sasc_of h hv r)
  rw [← mem_ordK (k := K r), e, aheadK_split hP hS]
  have h2 : P ++ S ≠ [] := fun e2 => by rw [e2] at e; have := len_ordK (k := K r) (l := l); rw [e] at this; simp at this; exact h1 (List.eq_nil_of_length_eq_zero this.symm)
  by_cases hp : P = []
  · subst hp; simpa using lastD_mem h2
  · rw [getLast_D hp]; exact List.mem_append_left _ (lastD_mem hp)
theorem after_valid (hv : validM l = true) {x : Int} (hx : isID x = true) (hn : x ∉ l) (h16 : l.length < 16) : validM (ins x l) = true := by
  obtain ⟨g1, g2, g3, g4⟩ := validM_iff.1 hv
  refine validM_iff.2 ⟨by rw [len_ins]; omega, by rw [len_ins]; omega, g3.ins hn, fun y hy => ?_⟩
  rcases mem_ins.1 hy with rfl | hy
  · exact isID_iff.1 hx
  · exact g4 y hy
theorem joining (h : Inj K) (hv : validM l = true) (r : Int) {x : Int} (hx : isID x = true) (hn : x ∉ l) (h16 : l.length < 16) :
    aheadK (K r) (ordK (K r) (ins x l)) x = aheadK (K r) (ordK (K r) l) x := by
  have hv' := after_valid hv hx hn h16
  have h1 : l ≠ [] := fun e => by have := (validM_iff.1 hv).1; rw [e] at this; simp at this
  obtain ⟨P, S, e, hP, hS⟩ := split_by (K r) x (sasc_of h hv r)
  have hne : ∀ y ∈ l, K r y ≠ K r x := fun y hy e => hn (h r y x ((validM_iff.1 hv).2.2.2 y hy) (isID_iff.1 hx) e ▸ hy)
  have e' : ordK (K r) (ins x l) = P ++ x :: S := by
    refine SAsc.ext (sasc_of h hv' r) ?_ fun y => ?_
    · have hs := sasc_of h hv r
      rw [e] at hs
      unfold SAsc at hs ⊢
      rw [List.pairwise_append] at hs ⊢
      refine ⟨hs.1, ?_, fun a ha b hb => ?_⟩
      · rw [List.pairwise_cons]
        refine ⟨fun b hb => ?_, hs.2.1⟩
        have h5 := hS b hb
        have h6 := hne b (by rw [← mem_ordK (k := K r), e]; simp [hb])
        omega
      · rcases List.mem_cons.1 hb with rfl | hb
        · exact hP a ha
        · exact hs.2.2 a ha b hb
    · rw [mem_ordK, mem_ins, ← mem_ordK (k := K r) (l := l), e]
      simp only [List.mem_append, List.mem_cons]
      constructor
      · rintro (h | h | h)
        · exact .inr (.inl h)
        · exact .inl h
        · exact .inr (.inr h)
      · rintro (h | h | h)
        · exact .inr (.inl h)
        · exact .inl h
        · exact .inr (.inr h)
  rw [e', e, aheadK_split hP hS, aheadK_split (S := x :: S) hP fun y hy => by
    rcases List.mem_cons.1 hy with rfl | hy
    · omega
    · exact hS y hy]
  by_cases hp : P = []
  · subst hp
    have hSn : S ≠ [] := fun e2 => by
      rw [e2] at e
      have := len_ordK (k := K r) (l := l)
      rw [e] at this
      simp at this
      exact h1 (List.eq_nil_of_length_eq_zero this.symm)
    show lastD ([] ++ x :: S) = lastD ([] ++ S)
    rw [List.nil_append, List.nil_append, show x :: S = [x] ++ S from rfl, lastD_app hSn]
  · rw [getLast_D hp, getLast_D hp]
/-! ### neighbours -/
theorem nbF_facts {id : Int} : ∀ {m out : List Int}, Asc out → Asc (nbF id out m) ∧ (∀ x, x ∈ nbF id out m ↔ x ∈ out ∨ (x ≠ id ∧ x ∈ m))
  | [], out, h => ⟨h, fun x => by simp [nbF]⟩
  | y :: t, out, h => by
    have hst : Asc (nbStep id out y) ∧ ∀ x, x ∈ nbStep id out y ↔ x ∈ out ∨ (x ≠ id ∧ x = y) := by
      unfold nbStep
      by_cases h1 : y = id
      · subst h1
        simp only [bne_self_eq_false, Bool.false_and]
        refine ⟨h, fun x => ⟨.inl, ?_⟩⟩
        rintro (h | ⟨h, e⟩)
        · exact h
        · exact absurd e h
      · have e1 : (y != id) = true := by simpa using h1
        rw [e1]
        by_cases h2 : y ∈ out
        · rw [hasB_iff.2 h2]
          simp only [Bool.not_true, Bool.and_false]
          refine ⟨h, fun x => ⟨.inl, ?_⟩⟩
          rintro (h | ⟨_, e⟩)
          · exact h
          · exact e ▸ h2
        · have e2 : hasB out y = false := by rw [hasB_mem]; simpa using h2
          rw [e2]
          refine ⟨h.ins h2, fun x => ?_⟩
          show x ∈ ins y out ↔ _
          rw [mem_ins]
          constructor
          · rintro (rfl | h)
            · exact .inr ⟨h1, rfl⟩
            · exact .inl h
          · rintro (h | ⟨_, h⟩)
            · exact .inr h
            · exact .inl h
    have := nbF_facts (id := id) (m := t) (out := nbStep id out y) hst.1
    refine ⟨this.1, fun x => ?_⟩
    show x ∈ nbF id (nbStep id out y) t ↔ _
    rw [this.2, hst.2, List.mem_cons]
    constructor
    · rintro ((h | ⟨h, e⟩) | ⟨h, e⟩)
      · exact .inl h
      · exact .inr ⟨h, .inl e⟩
      · exact .inr ⟨h, .inr e⟩
    · rintro (h | ⟨h, e | e⟩)
      · exact .inl (.inl h)
      · exact .inl (.inr ⟨h, e⟩)
      · exact .inr ⟨h, e⟩
theorem mem_nbL {id x : Int} : x ∈ nbL K l id ↔ x ≠ id ∧ (x ∈ obsL K l id ∨ x ∈ subL K l id) := by
  unfold nbL
  rw [(nbF_facts (by unfold Asc; simp)).2]
  simp
theorem asc_nbL {id : Int} : Asc (nbL K l id) := (nbF_facts (by unfold Asc; simp)).1
theorem mem_rings {r : Int} : r ∈ rings ↔ r = 0 ∨ r = 1 ∨ r = 2 ∨ r = 3 ∨ r = 4 := by simp [rings]
/-- An edge between two members: on some ring one is ahead of the other. -/
theorem mem_edge (h : Inj K) (hv : validM l = true) (h2 : 2 ≤ l.length) {a b : Int} (ha : a ∈ l) (hb : b ∈ l) (hne : a ≠ b) : b ∈ nbL K l a ↔ 0 < (shL K l a b).length + (shL K l b a).length := by
  rw [mem_nbL, obsL_mem hv h2 ha, subL_eq hv h2 ha]
  unfold shL
  rw [idxF_len, idxF_len, obsL_mem hv h2 hb, obsL_mem hv h2 ha, List.mem_map, List.mem_map]
  constructor
  · rintro ⟨_, ⟨r, hr, e⟩ | ⟨r, hr, e⟩⟩
    · have : 0 < (rings.map fun r => aheadK (K r) (ordK (K r) l) a).count b := List.count_pos_iff.2 (List.mem_map.2 ⟨r, hr, e⟩)
      omega
    · have : 0 < (rings.map fun r => aheadK (K r) (ordK (K r) l) b).count a := List.count_pos_iff.2 (List.mem_map.2 ⟨r, hr, by rw [← e]; exact (next_facts h hv h2 r ha).2.2⟩)
      omega
  · intro hp
    refine ⟨hne.symm, ?_⟩
    by_cases h0 : 0 < (rings.map fun r => aheadK (K r) (ordK (K r) l) a).count b
    · obtain ⟨r, hr, e⟩ := List.mem_map.1 (List.count_pos_iff.1 h0)
      exact .inl ⟨r, hr, e⟩
    · have h1 : 0 < (rings.map fun r => aheadK (K r) (ordK (K r) l) b).count a := by omega
      obtain ⟨r, hr, e⟩ := List.mem_map.1 (List.count_pos_iff.1 h1)
      exact .inr ⟨r, hr, by rw [← e]; exact (ahead_facts h hv h2 r hb).2.2⟩
theorem nbL_sub (h : Inj K) (hv : validM l = true) (h2 : 2 ≤ l.length) {a x : Int} (ha : a ∈ l) (hx : x ∈ nbL K l a) : x ∈ l ∧ x ≠ a := by
  rw [mem_nbL, obsL_mem hv h2 ha, subL_eq hv h2 ha, List.mem_map, List.mem_map] at hx
  obtain ⟨hne, ⟨r, _, e⟩ | ⟨r, _, e⟩⟩ := hx
  · exact ⟨by rw [← e]; exact (ahead_facts h hv h2 r ha).1, hne⟩
  · exact ⟨by rw [← e]; exact (next_facts h hv h2 r ha).1, hne⟩
theorem sub_len : ∀ {a b : List Int}, a.Nodup → (∀ x ∈ a, x ∈ b) → a.length ≤ b.length
  | [], b, _, _ => Nat.zero_le _
  | x :: a, b, hn, hs => by
    rw [List.nodup_cons] at hn
    have hx := hs x (by simp)
    have := sub_len (a := a) (b := b.erase x) hn.2 fun y hy => (List.mem_erase_of_ne (fun (e : y = x) => hn.1 (by rw [← e]; exact hy))).2 (hs y (by simp [hy]))
    rw [List.length_erase_of_mem hx] at this
    have hp := List.length_pos_of_mem hx
    simp
    omega
theorem nbL_len (h : Inj K) (hv : validM l = true) (h2 : 2 ≤ l.length) {a : Int} (ha : a ∈ l) : a ∉ nbL K l a ∧ 1 ≤ (nbL K l a).length ∧ (nbL K l a).length < l.length := by
  refine ⟨fun hm => (nbL_sub h hv h2 ha hm).2 rfl, ?_, ?_⟩
  · have hm : nextK (ordK (K 0) l) a ∈ nbL K l a := by
      rw [mem_nbL, subL_eq hv h2 ha]
      exact ⟨(next_facts h hv h2 0 ha).2.1, .inr (List.mem_map.2 ⟨0, by simp [rings], rfl⟩)⟩
    exact List.length_pos_of_mem hm
  · have := sub_len (a := nbL K l a) (b := l.erase a) (Asc.nodup asc_nbL) fun x hx => by
      have hx' := nbL_sub h hv h2 ha hx
      exact (List.mem_erase_of_ne hx'.2).2 hx'.1
    rw [List.length_erase_of_mem ha] at this
    omega
end
end Go.Proofs.YtipipjbpjpdcbaaDoor.O

/- The reference of layer 4: Order. -/
namespace Go.Proofs.YtipipjbpjpdcbaaDoor.O
set_option linter.unusedVariables false
open Go.RowKit
open Go.Proofs.YtipipjbpjpdcbaaDoor.W
open Go.Proofs.YtipipjbpjpdcbaaDoor.V

/-- The key of an identifier on a ring: its position. -/
def K (r x : Int) : Nat := (H.posW r x).toNat
theorem inj_K : Inj K := fun r a b ha hb e => (H.posW_inj ⟨by omega, by omega⟩ ⟨by omega, by omega⟩).1 (BitVec.eq_of_toNat_eq e)
def orderL (l : List Int) (r : Int) : List Int := if validM l && (decide (0 ≤ r) && decide (r < 5)) then ordK (K r) l else []
/-- Integers appended to a row of the call's own, wherever they lie. -/
theorem wp_append_intsO {ops : Array Oper} {rest : List Oper} {o : Oper} {a : Act} {Q : Exit → Act → World → Prop} (W : World) (hgd : o.guard = none) (s x : Operand)
    (ho : o.op = .call { callee := .builtin .append, args := #[s, x], argTypes := #[22, 22] }) (base : Nat) (v : Value) (l news : List Int) (B m c : Nat) (A : Option Addr) (hs : a.eval s = v)
    (hown : W.ownsRow base 3 1 v l.length (l.map intV)) (hx : a.eval x = .slice A m c) (hr : Reads W B 1 A m (news.map intV)) (hl : l.length + news.length ≤ 1099511627776) (hbase : base ≤ W.heap.size)
    (h : ∀ v' w', w'.ownsRow base 3 1 v' (l ++ news).length ((l ++ news).map intV) → Below base W w' → wpList Tryd.prog ops Q rest (a.put o.dst v') w') : wpList Tryd.prog ops Q (o :: rest) a W := by
  refine wp_append_tri W hgd s x ho base v (.slice none 0 0) (.slice none 0 0) l [] [] news B m c A hs ⟨hown, World.ownsRow_nil _ _ _ _, World.ownsRow_nil _ _ _ _, ?_, ?_, .inl rfl⟩ hx hr hl hbase fun v' w' ht hb => h v' w' ht.o1 hb
  · exact (Apt.symm (.inl rfl))
  · exact (Apt.symm (.inl rfl))
/-- What 's[:k]' gives, of a list of integers. -/
theorem slice_toI {n c k : Nat} {ki : Int} (A : Option Addr) (hn : n ≤ c) (hk : k ≤ n) (hki : ki = (k : Int)) :
    ∀ (W : World), (Instr.slice 22 (.slice A n c) none (some (.int .i64 ki)) none).run Tryd.prog W = .ok (.slice A k c) W := by
  subst hki
  intro W
  rw [run_slice_h W 22 A n c (by simp [go_sem]) .i64 k (by omega) (by omega)]
  simp [go_sem]
theorem Reads.takeI {w : World} {B n k : Nat} {A : Option Addr} {l : List Int} (h : Reads w B 1 A n (l.map intV)) (hk : k ≤ n) : Reads w B 1 A k ((l.take k).map intV) := by
  have hl := h.1
  rw [List.length_map] at hl
  refine ⟨by rw [List.length_map, List.length_take]; omega, fun hn => ?_⟩
  obtain ⟨ad, hA, hb, hcell⟩ := h.2 (by omega)
  refine ⟨ad, hA, hb, fun j u hu => hcell j u ?_⟩
  rw [List.map_take, List.getElem?_take] at hu
  split at hu
  · exact hu
  · cases hu
theorem own_out {w : World} {base : Nat} {v : Value} {P : List Int} (h : w.ownsRow base 3 1 v P.length (P.map intV)) : ∃ A c, v = .slice A P.length c ∧ P.length ≤ c ∧ Reads w w.heap.size 1 A P.length (P.map intV) := by
  obtain ⟨A, c, h1, h2, h3⟩ := SliceOf.of_own (xs := P.map intV) (base := base) (e := 3) (by rw [List.length_map]; exact h)
  rw [List.length_map] at h1 h2 h3
  exact ⟨A, c, h1, h2, h3⟩
theorem quiet_more {P : Program} {f : FuncId} {args : Array Value} {w : World} {k n : Nat} {v : Value}
    (h : Calls P f args (w.drewN (k + n)) fun e w' => e = .returned v ∧ ∃ q, w' = (w.drewN (k + n)).drewN q) : Calls P f args (w.drewN (k + n)) fun e w'' => e = .returned v ∧ ∃ m, w'' = w.drewN (k + m) :=
  h.mono fun _ _ ⟨he, q, hq⟩ => ⟨he, n + q, by rw [hq, World.drewN_drewN, Nat.add_assoc]⟩
set_option maxRecDepth 1000000 in
set_option maxHeartbeats 4000000 in
theorem refOrder_any (r : Int) (L : Option Addr) (c B : Nat) (l : List Int) (w : World) (h : LS w B l L c) (hB : B ≤ w.heap.size) (hr64 : In64 r) :
    Calls Tryd.prog 61 #[.slice L l.length c, .int .i64 r] w (OwnI w (orderL l r)) := by
  have CR := Lib.hid (refValidM_any L c w.heap.size l w (h.rd.more hB) h.l40 h.el)
  have RA := Lib.hid (fun W (hW : Below w.heap.size w W) => (h.rd.more hB).below hW)
  have HE := Lib.hid h.el
  obtain ⟨n0, n1⟩ := hr64
  clear h
  cases hv : validM l
  · have ht := Lib.hid (show orderL l r = [] by unfold orderL; rw [hv]; rfl)
    rw [hv] at CR
    go_enter Tryd.func61, Tryd.ntmps61
    go_wp2_with (go_at_call 40; (with_reducible refine CR.out.mono ?_); rintro e w1 ⟨rfl, q, rfl⟩)
    go_ret
    exact ⟨_, rfl, by rw [ht.out]; exact World.ownsRow_nil _ _ _ _, below_drewN' (Below.refl _ _) q⟩
  rw [hv] at CR
  have hl16 := (validM_iff.1 hv).2.1
  by_cases hr0 : 0 ≤ r
  case neg =>
    have ht := Lib.hid (show orderL l r = [] by unfold orderL; simp [hr0])
    clear hv
    go_enter Tryd.func61, Tryd.ntmps61
    go_wp2_with (go_at_call 40; (with_reducible refine CR.out.mono ?_); rintro e w1 ⟨rfl, q, rfl⟩)
    go_ret
    exact ⟨_, rfl, by rw [ht.out]; exact World.ownsRow_nil _ _ _ _, below_drewN' (Below.refl _ _) q⟩
  by_cases hr5 : r < 5
  case neg =>
    have ht := Lib.hid (show orderL l r = [] by unfold orderL; simp [hr5])
    clear hv
    go_enter Tryd.func61, Tryd.ntmps61
    go_wp2_with (go_at_call 40; (with_reducible refine CR.out.mono ?_); rintro e w1 ⟨rfl, q, rfl⟩)
    go_ret
    exact ⟨_, rfl, by rw [ht.out]; exact World.ownsRow_nil _ _ _ _, below_drewN' (Below.refl _ _) q⟩
  have HT := Lib.hid (show orderL l r = ordK (K r) l by unfold orderL; simp [hv, hr0, hr5])
  have hr0' : ¬ r < 0 := by omega
  have hr5' : ¬ 5 ≤ r := by omega
  clear hv
  obtain ⟨nl, hnl⟩ : ∃ n, n = l.length := ⟨_, rfl⟩
  have HNL := Lib.hid hnl
  rw [← hnl] at CR RA hl16 ⊢
  clear hnl
  go_enter Tryd.func61, Tryd.ntmps61
  go_wp2_with (go_at_call 40; (with_reducible refine CR.out.mono ?_); rintro e w1 ⟨rfl, q, rfl⟩)
  go_loopg [5, 6] nl (fun g s5 s6 wr => ∃ (k : Nat) (P : List Int), k + g = nl ∧ s6 = .int .i64 k ∧ Hid (P = ordK (K r) (l.take k)) ∧ P.length = k ∧ Hid (wr.ownsRow w.heap.size 3 1 s5 P.length (P.map intV)) ∧ Below w.heap.size w wr)
  case atStart => exact ⟨0, [], by omega, rfl, by show _ = _; simp [ordK, ordF], rfl, World.ownsRow_nil _ _ _ _, below_drewN' (Below.refl _ _) q⟩
  case round =>
    obtain ⟨k, P, hkg, rfl, HP, hPk, HOWN, hbel⟩ := hrel
    obtain ⟨wo, rfl⟩ : ∃ wo : World, wo = wr := ⟨_, rfl⟩
    have hbs := hbel.size
    obtain ⟨A5, c5, hv5, hc5, hrd5⟩ := own_out HOWN.out
    obtain ⟨np, hnp⟩ : ∃ n, n = P.length := ⟨_, rfl⟩
    have HNP := Lib.hid hnp
    rw [← hnp] at hv5 hPk hc5 hrd5 HOWN
    subst hv5
    have HR5 := Lib.hid hrd5
    have hnp16 : np ≤ 16 := by omega
    have HPK := Lib.hid hPk
    clear hrd5 hnp hPk
    cases gk with
    | zero =>
      have hkz : ¬ ((k : Int) < (nl : Int)) := by omega
      have ht := Lib.hid (show orderL l r = P by rw [HT.out, HP.out, List.take_of_length_le (by have := HNL.out; omega)])
      go_wp2_with fail
      go_ret
      exact ⟨_, rfl, by rw [ht.out, ← HNP.out]; exact HOWN.out, hbel⟩
    | succ g =>
      have hkz : (k : Int) < (nl : Int) := by omega
      have hkn : k < nl := by omega
      obtain ⟨ad, u, rfl, hadb, hx, hcell⟩ := (RA.out wo hbel).at_ (k := k) (by omega)
      obtain ⟨y, hyk⟩ : ∃ y, l[k]? = some y := ⟨_, List.getElem?_eq_getElem (by have := HNL.out; omega)⟩
      have huy : u = .int .i64 y := by simp [hyk, intV] at hx; exact hx.symm
      rw [huy] at hcell
      have HSN := Lib.hid (show ordK (K r) (l.take (k + 1)) = insK (K r) y P by rw [ordK_snoc hyk, HP.out])
      have CY := Lib.hid (fun W => H.refPosition_any r y W)
      have HRA := Lib.hid (RA.out wo hbel)
      clear hx huy hyk
      go_wp2_with fail
      go_loopg [7] np (fun g2 s7 wy => ∃ (j n : Nat), j + g2 = np ∧ s7 = .int .i64 j ∧ wy = wo.drewN n ∧ Hid (∀ i x, i < j → P[i]? = some x → K r x < K r y))
      case atStart => exact ⟨0, 0, by omega, rfl, rfl, fun i x hi => by omega⟩
      case round =>
        obtain ⟨j, n, hjg, rfl, rfl, HJ⟩ := hrel
        have hj : j ≤ np := by omega
        obtain ⟨A6, hs6, hrt⟩ := slice_fromI (w := wo) (B := wo.heap.size) (l := P) (c := c5) (A := A5) (k := j) (ki := (j : Int)) (by have := HR5.out; rw [HNP.out] at this; exact this) (by rw [← HNP.out]; exact hc5) (by rw [← HNP.out]; exact hj) rfl
        rw [← HNP.out] at hs6 hrt
        have HRT := Lib.hid hrt
        have ht6 := slice_toI (n := np) (c := c5) (k := j) (ki := (j : Int)) A5 hc5 hj rfl
        clear hrt
        cases gk with
        | zero =>
          have hjz : ¬ ((j : Int) < (np : Int)) := by omega
          have hjd : decide (j < np) = false := by simp; omega
          have HIN := Lib.hid (insK_at (k := K r) (m := y) (l := P) (j := j) HJ.out (by rw [← HNP.out]; exact hj) (fun x hx => by
            have := (List.getElem?_eq_some_iff.1 hx).1; have := HNP.out; omega))
          go_wp2_with fail
          go_quiet (fail)
          go_wp2_with (first
            | (at_builtin; refine wp_append_intsO _ rfl (.tmp 47) (.tmp 50) rfl wo.heap.size _ [] (P.take j) _ _ _ _ rfl (World.ownsRow_nil _ _ _ _) rfl (Reads.takeI (n := np) HR5.out hj) (by have := HNP.out; simp; omega) (Nat.le_refl _) ?_; intro v2 w2 ho2 hb2; have hcell2 : w2.cell? (ad.add k) = some (.int .i64 y) := (hb2.cell (p := ad.add k) (by rw [block_of_add]; omega)).trans hcell)
            | (at_builtin; refine wp_append_intsO _ rfl (.tmp 52) (.tmp 57) rfl wo.heap.size _ ([] ++ P.take j) [y] _ _ _ _ rfl (ho2.alloc _) rfl (reads_one _ _) (by have := HNP.out; simp; omega) (Nat.le_trans (show wo.heap.size ≤ w2.heap.size from hb2.size) (by simp)) ?_; intro v3 w3 ho3 hb3; have hb3' : Below wo.heap.size (wo.drewN _) w3 := (hb2.alloc (show wo.heap.size ≤ w2.heap.size from hb2.size) _).trans hb3)
            | (at_builtin; refine wp_append_intsO _ rfl (.tmp 59) (.tmp 62) rfl wo.heap.size _ ([] ++ P.take j ++ [y]) (P.drop j) wo.heap.size _ _ _ rfl ho3 rfl (Reads.below (Reads.drewN HRT.out _) hb3') (by have := HNP.out; simp; omega) hb3'.size ?_; intro v4 w4 ho4 hb4; have hb4' : Below wo.heap.size (wo.drewN _) w4 := hb3'.trans hb4))
          go_roundg g
          case measure => omega
          case rel =>
            have hbw : Below w.heap.size wo w4 := (below_drewN' (Below.refl _ _) _).trans (hb4'.mono hbs)
            refine ⟨k + 1, [] ++ P.take j ++ [y] ++ P.drop j, by omega, by go_num, ?_, ?_, own_base ho4 hbs, hbel.trans hbw⟩
            · show _ = _
              rw [HSN.out, HIN.out]; simp
            · have := HPK.out; have := HNP.out; simp; omega
        | succ g2 =>
          have hjz : (j : Int) < (np : Int) := by omega
          obtain ⟨bd, u', rfl, _, hx', hcell'⟩ := (HR5.out).at_ (k := j) (by omega)
          obtain ⟨x, hxj⟩ : ∃ x, P[j]? = some x := ⟨_, List.getElem?_eq_getElem (by have := HNP.out; omega)⟩
          have hux : u' = .int .i64 x := by simp [hxj, intV] at hx'; exact hx'.symm
          rw [hux] at hcell'
          have CX := Lib.hid (fun W => H.refPosition_any r x W)
          have HXJ := Lib.hid hxj
          clear hx' hux hxj
          have bx := (H.posW r x).isLt
          have by_ := (H.posW r y).isLt
          by_cases hlt : K r x < K r y
          · have hli : ((H.posW r x).toNat : Int) < ((H.posW r y).toNat : Int) := by unfold K at hlt; omega
            have HJ2 := Lib.hid (show ∀ i z, i < j + 1 → P[i]? = some z → K r z < K r y from fun i z hi hz => by
              by_cases e : i = j
              · subst e
                have := HXJ.out.symm.trans hz
                simp only [Option.some.injEq] at this
                subst this
                exact hlt
              · exact HJ.out i z (by omega) hz)
            clear hlt
            generalize H.posW r x = px at *
            generalize H.posW r y = py at *
            go_wp2_with fail
            go_quiet (first
              | (go_at_call 62; with_reducible exact quiet_more (CX.out _))
              | (go_at_call 62; with_reducible exact quiet_more (CY.out _)))
            go_wp2_with fail
            go_roundg g2
            case measure => omega
            case rel => exact ⟨j + 1, _, by omega, by go_num, rfl, HJ2.out⟩
          · have hli : ¬ ((H.posW r x).toNat : Int) < ((H.posW r y).toNat : Int) := by unfold K at hlt; omega
            have HIN := Lib.hid (insK_at (k := K r) (m := y) (l := P) (j := j) HJ.out (by rw [← HNP.out]; exact hj) (fun z hz => by
              have := HXJ.out.symm.trans hz
              simp only [Option.some.injEq] at this
              subst this
              exact hlt))
            clear hlt
            generalize H.posW r x = px at *
            generalize H.posW r y = py at *
            go_wp2_with fail
            go_quiet (first
              | (go_at_call 62; with_reducible exact quiet_more (CX.out _))
              | (go_at_call 62; with_reducible exact quiet_more (CY.out _)))
            go_wp2_with (first
              | (at_builtin; refine wp_append_intsO _ rfl (.tmp 47) (.tmp 50) rfl wo.heap.size _ [] (P.take j) _ _ _ _ rfl (World.ownsRow_nil _ _ _ _) rfl (Reads.takeI (n := np) HR5.out hj) (by have := HNP.out; simp; omega) (Nat.le_refl _) ?_; intro v2 w2 ho2 hb2; have hcell2 : w2.cell? (ad.add k) = some (.int .i64 y) := (hb2.cell (p := ad.add k) (by rw [block_of_add]; omega)).trans hcell)
              | (at_builtin; refine wp_append_intsO _ rfl (.tmp 52) (.tmp 57) rfl wo.heap.size _ ([] ++ P.take j) [y] _ _ _ _ rfl (ho2.alloc _) rfl (reads_one _ _) (by have := HNP.out; simp; omega) (Nat.le_trans (show wo.heap.size ≤ w2.heap.size from hb2.size) (by simp)) ?_; intro v3 w3 ho3 hb3; have hb3' : Below wo.heap.size (wo.drewN _) w3 := (hb2.alloc (show wo.heap.size ≤ w2.heap.size from hb2.size) _).trans hb3)
              | (at_builtin; refine wp_append_intsO _ rfl (.tmp 59) (.tmp 62) rfl wo.heap.size _ ([] ++ P.take j ++ [y]) (P.drop j) wo.heap.size _ _ _ rfl ho3 rfl (Reads.below (Reads.drewN HRT.out _) hb3') (by have := HNP.out; simp; omega) hb3'.size ?_; intro v4 w4 ho4 hb4; have hb4' : Below wo.heap.size (wo.drewN _) w4 := hb3'.trans hb4))
            go_roundg g
            case measure => omega
            case rel =>
              have hbw : Below w.heap.size wo w4 := (below_drewN' (Below.refl _ _) _).trans (hb4'.mono hbs)
              refine ⟨k + 1, [] ++ P.take j ++ [y] ++ P.drop j, by omega, by go_num, ?_, ?_, own_base ho4 hbs, hbel.trans hbw⟩
              · show _ = _
                rw [HSN.out, HIN.out]; simp
              · have := HPK.out; have := HNP.out; simp; omega
end Go.Proofs.YtipipjbpjpdcbaaDoor.O

/- The reference of layer 4: Ahead, Observers, Subjects. -/
namespace Go.Proofs.YtipipjbpjpdcbaaDoor.O
set_option linter.unusedVariables false
open Go.RowKit
open Go.Proofs.YtipipjbpjpdcbaaDoor.W
open Go.Proofs.YtipipjbpjpdcbaaDoor.V

theorem orderL_eq {l : List Int} {r : Int} (hv : validM l = true) (h0 : 0 ≤ r) (h5 : r < 5) : orderL l r = ordK (K r) l := by unfold orderL; simp [hv, h0, h5]
theorem lastD_get {o : List Int} {x : Int} (h : o[o.length - 1]? = some x) : lastD o = x := by
  unfold lastD
  rw [List.getLast?_eq_getElem?, h]
  rfl
theorem aheadF_cons {k : Int → Nat} {id last x : Int} {t : List Int} : aheadF k id last (x :: t) = aheadF k id (if k x < k id then x else last) t := rfl
set_option maxRecDepth 1000000 in
set_option maxHeartbeats 2000000 in
theorem refAhead_any (r id : Int) (L : Option Addr) (c B : Nat) (l : List Int) (w : World) (h : LS w B l L c) (hB : B ≤ w.heap.size) (hv : validM l = true) (h0 : 0 ≤ r) (h5 : r < 5) :
    Calls Tryd.prog 42 #[.slice L l.length c, .int .i64 r, .int .i64 id] w (PI w (aheadK (K r) (ordK (K r) l) id)) := by
  have CO := Lib.hid ((refOrder_any r L c B l w h hB ⟨by omega, by omega⟩).mono fun _ _ h => h.to (ordK (K r) l) (ordK (K r) l).length (orderL_eq hv h0 h5) rfl)
  have hlo := len_ordK (k := K r) (l := l)
  have hl16 := (validM_iff.1 hv).2.1
  have hl1 := (validM_iff.1 hv).1
  have CI := Lib.hid (fun W => H.refPosition_any r id W)
  clear h
  obtain ⟨no, hno⟩ : ∃ n, n = (ordK (K r) l).length := ⟨_, rfl⟩
  rw [← hno] at hlo CO
  have HNO := Lib.hid hno
  have hn16 : no ≤ 16 := by omega
  have hn1 : 1 ≤ no := by omega
  obtain ⟨x0, hx0⟩ : ∃ x, (ordK (K r) l)[no - 1]? = some x := ⟨_, List.getElem?_eq_getElem (by omega)⟩
  have HX0 := Lib.hid hx0
  have HT := Lib.hid (show aheadK (K r) (ordK (K r) l) id = aheadF (K r) id x0 (ordK (K r) l) by unfold aheadK; rw [lastD_get (by rw [← hno]; exact hx0)])
  generalize aheadK (K r) (ordK (K r) l) id = res at *
  generalize ordK (K r) l = o at *
  clear hno hlo hx0
  have wn1 : IntKind.i64.wrap ((no : Int) - 1) = ((no - 1 : Nat) : Int) := by rw [IntWalk.i64_in _ (by omega)]; omega
  have hq1 : ((no - 1 : Nat) : Int) < (no : Int) := by omega
  obtain ⟨nl, hnl⟩ : ∃ n, n = no - 1 := ⟨_, rfl⟩
  have HNL := Lib.hid hnl
  rw [← hnl] at wn1 hq1 HX0
  have hql : nl < no := by omega
  clear hnl
  go_enter Tryd.func42, Tryd.ntmps42
  go_upto_region 2 with (go_at_call 61; (with_reducible refine CO.out.mono ?_); rintro e w1 ⟨A1, c1, rfl, hc1, ho1, hr1, hq1'⟩)
  obtain ⟨ad, u, rfl, _, hx, hcell⟩ := hr1.at_ hql
  have hux : u = .int .i64 x0 := by have := HX0.out; simp [this, intV] at hx; exact hx.symm
  rw [hux] at hcell
  have HR1 := Lib.hid hr1
  clear hx hux hr1
  go_wp2_with fail
  go_loopg [8, 9] no (fun g s8 s9 wr => ∃ (k n : Nat) (last : Int), k + g = no ∧ s9 = .int .i64 k ∧ s8 = .int .i64 last ∧ wr = w1.drewN n ∧ Hid (aheadF (K r) id last (o.drop k) = aheadF (K r) id x0 o))
  case atStart => exact ⟨0, 0, x0, by omega, rfl, rfl, rfl, rfl⟩
  case round =>
    obtain ⟨k, n, last, hkg, rfl, rfl, rfl, HD⟩ := hrel
    cases gk with
    | zero =>
      have hkz : ¬ ((k : Int) < (no : Int)) := by omega
      have ht := Lib.hid (show last = res by
        rw [HT.out, ← HD.out, List.drop_eq_nil_of_le (by have := HNO.out; omega)]; rfl)
      go_wp2_with fail
      go_ret
      exact ⟨retI64 ht.out, below_drewN' hq1' _⟩
    | succ g =>
      have hkz : (k : Int) < (no : Int) := by omega
      obtain ⟨bd, u', hA, _, hx', hcell'⟩ := HR1.out.at_ (k := k) (by omega)
      obtain rfl := Option.some.inj hA
      obtain ⟨x, hxk⟩ : ∃ x, o[k]? = some x := ⟨_, List.getElem?_eq_getElem (by have := HNO.out; omega)⟩
      have hux : u' = .int .i64 x := by simp [hxk, intV] at hx'; exact hx'.symm
      rw [hux] at hcell'
      have CX := Lib.hid (fun W => H.refPosition_any r x W)
      have HDX := Lib.hid (show aheadF (K r) id (if K r x < K r id then x else last) (o.drop (k + 1)) = aheadF (K r) id x0 o by rw [← HD.out, (List.drop_eq_getElem_cons (List.getElem?_eq_some_iff.1 hxk).1), (List.getElem?_eq_some_iff.1 hxk).2]; rfl)
      clear hx' hux hxk
      have bx := (H.posW r x).isLt
      have bi := (H.posW r id).isLt
      by_cases hlt : K r x < K r id
      · have hli : ((H.posW r x).toNat : Int) < ((H.posW r id).toNat : Int) := by unfold K at hlt; omega
        have HDY := Lib.hid (show aheadF (K r) id x (o.drop (k + 1)) = aheadF (K r) id x0 o by have := HDX.out; rwa [if_pos hlt] at this)
        clear hlt HDX
        generalize H.posW r x = px at *
        generalize H.posW r id = pi at *
        go_wp2_with (first
          | (go_at_call 62; (with_reducible refine (CX.out _).mono ?_); rintro e w' ⟨rfl, q, rfl⟩)
          | (go_at_call 62; (with_reducible refine (CI.out _).mono ?_); rintro e w' ⟨rfl, q2, rfl⟩))
        go_roundg g
        case measure => omega
        case rel => exact ⟨k + 1, _, x, by omega, by go_num, rfl, rfl, HDY.out⟩
      · have hli : ¬ ((H.posW r x).toNat : Int) < ((H.posW r id).toNat : Int) := by unfold K at hlt; omega
        have HDY := Lib.hid (show aheadF (K r) id last (o.drop (k + 1)) = aheadF (K r) id x0 o by have := HDX.out; rwa [if_neg hlt] at this)
        clear hlt HDX
        generalize H.posW r x = px at *
        generalize H.posW r id = pi at *
        go_wp2_with (first
          | (go_at_call 62; (with_reducible refine (CX.out _).mono ?_); rintro e w' ⟨rfl, q, rfl⟩)
          | (go_at_call 62; (with_reducible refine (CI.out _).mono ?_); rintro e w' ⟨rfl, q2, rfl⟩))
        go_roundg g
        case measure => omega
        case rel => exact ⟨k + 1, _, last, by omega, by go_num, rfl, rfl, HDY.out⟩
theorem one_of : ∀ {l : List Int} {x : Int}, l.length = 1 → l[0]? = some x → l = [x]
  | [y], x, _, h => by simp at h; rw [h]
theorem rings_at {k : Nat} (h : k < 5) : rings[k]? = some (k : Int) := by
  match k, h with
  | 0, _ => rfl
  | 1, _ => rfl
  | 2, _ => rfl
  | 3, _ => rfl
  | 4, _ => rfl
theorem map_snoc {f : Int → Int} {k : Nat} (h : k < 5) : (rings.take (k + 1)).map f = (rings.take k).map f ++ [f k] := by
  rw [List.take_add_one, rings_at h, List.map_append]
  rfl
theorem take_rings : rings.take 5 = rings := rfl
theorem len_take {f : Int → Int} {k : Nat} (h : k ≤ 5) : ((rings.take k).map f).length = k := by simp [rings]; omega
set_option maxRecDepth 1000000 in
set_option maxHeartbeats 2000000 in
theorem refObservers_any (id : Int) (L : Option Addr) (c B : Nat) (l : List Int) (w : World) (h : LS w B l L c) (hB : B ≤ w.heap.size) (hid : In64 id) :
    Calls Tryd.prog 22 #[.slice L l.length c, .int .i64 id] w (OwnI w (obsL K l id)) := by
  have CR := Lib.hid ((refValidM_any L c w.heap.size l w (h.rd.more hB) h.l40 h.el).mono fun _ _ h => h.pb)
  have CD := Lib.hid (fun W => refIsID_any id W hid)
  cases hv : validM l
  · have ht := Lib.hid (show obsL K l id = [] by unfold obsL; rw [hv]; rfl)
    rw [hv] at CR
    clear h
    go_enter Tryd.func22, Tryd.ntmps22
    go_wp2_with (go_at_call 40; (with_reducible refine CR.out.mono ?_); rintro e w1 ⟨rfl, b1⟩)
    go_ret
    exact ⟨_, rfl, by rw [ht.out]; exact World.ownsRow_nil _ _ _ _, b1⟩
  rw [hv] at CR
  cases hi : isID id
  · have ht := Lib.hid (show obsL K l id = [] by unfold obsL; rw [hv, hi]; rfl)
    rw [hi] at CD
    clear h
    go_enter Tryd.func22, Tryd.ntmps22
    go_wp2_with (first
      | (go_at_call 40; (with_reducible refine CR.out.mono ?_); rintro e w1 ⟨rfl, b1⟩)
      | (go_at_call 41; (with_reducible refine (CD.out _).mono ?_); rintro e w2 ⟨rfl, rfl⟩))
    go_ret
    exact ⟨_, rfl, by rw [ht.out]; exact World.ownsRow_nil _ _ _ _, b1⟩
  rw [hi] at CD
  have hl16 := (validM_iff.1 hv).2.1
  have hl1 := (validM_iff.1 hv).1
  obtain ⟨x0, hx0⟩ : ∃ x, l[0]? = some x := ⟨_, List.getElem?_eq_getElem (by omega)⟩
  obtain ⟨ad, u, rfl, had, hx, hcell⟩ := (h.rd.more hB).at_ (k := 0) (by omega)
  have hux : u = .int .i64 x0 := by simp [hx0, intV] at hx; exact hx.symm
  rw [hux] at hcell
  have hcell0 : w.cell? ad = some (.int .i64 x0) := by simpa [Addr.add] using hcell
  clear hx hux hcell
  have hpos : (0 : Int) < (l.length : Int) := by omega
  have CA := Lib.hid (fun r W (hW : Below w.heap.size w W) (h0 : 0 ≤ r) (h5 : r < 5) => refAhead_any r id (some ad) c w.heap.size l W ((h.more hB).below hW) hW.size hv h0 h5)
  clear h
  by_cases hone : l = [id]
  · have ht := Lib.hid (show obsL K l id = [] by unfold obsL; rw [hv, hi, decide_eq_true hone]; rfl)
    have f1 : ((l.length : Int) == 1) = true := beqT (by rw [hone]; rfl)
    have f2 : (x0 == id) = true := beqT (by rw [hone] at hx0; simp at hx0; exact hx0.symm)
    clear hone hx0
    go_enter Tryd.func22, Tryd.ntmps22
    go_wp2_with (first
      | (go_at_call 40; (with_reducible refine CR.out.mono ?_); rintro e w1 ⟨rfl, b1⟩; have hcell1 : w1.cell? ad = some (.int .i64 x0) := (b1.cell had).trans hcell0)
      | (go_at_call 41; (with_reducible refine (CD.out _).mono ?_); rintro e w2 ⟨rfl, rfl⟩))
    go_ret
    exact ⟨_, rfl, by rw [ht.out]; exact World.ownsRow_nil _ _ _ _, b1⟩
  have HT := Lib.hid (show obsL K l id = rings.map (fun r => aheadK (K r) (ordK (K r) l) id) from obsL_eq hv hi hone)
  obtain ⟨f, hf⟩ : ∃ f : Int → Int, f = (fun r => aheadK (K r) (ordK (K r) l) id) := ⟨_, rfl⟩
  have HF0 := Lib.hid hf
  have HF := Lib.hid (show ∀ r, aheadK (K r) (ordK (K r) l) id = f r from fun r => by rw [HF0.out])
  rw [← hf] at HT
  have HX0 := Lib.hid hx0
  have HONE := Lib.hid hone
  clear hf hone hx0 hv hi
  by_cases h1 : l.length = 1
  · have f1 : ((l.length : Int) == 1) = true := beqT (by omega)
    have f2 : (x0 == id) = false := beqF fun e => HONE.out (by rw [← e]; exact one_of h1 HX0.out)
    clear h1 hl16 hl1
    go_enter Tryd.func22, Tryd.ntmps22
    go_wp2_with (first
      | (go_at_call 40; (with_reducible refine CR.out.mono ?_); rintro e w1 ⟨rfl, b1⟩; have hcell1 : w1.cell? ad = some (.int .i64 x0) := (b1.cell had).trans hcell0)
      | (go_at_call 41; (with_reducible refine (CD.out _).mono ?_); rintro e w2 ⟨rfl, rfl⟩))
    clear f1 f2
    go_loopg [5, 6] 5 (fun g s5 s6 wr => ∃ k : Nat, k + g = 5 ∧ s6 = .int .i64 k ∧ Hid (wr.ownsRow w.heap.size 3 1 s5 ((rings.take k).map f).length (((rings.take k).map f).map intV)) ∧ Below w.heap.size w wr)
    case atStart => exact ⟨0, by omega, rfl, World.ownsRow_nil _ _ _ _, b1⟩
    case round =>
      obtain ⟨k, hkg, rfl, HOWN, hbel⟩ := hrel
      obtain ⟨wo, rfl⟩ : ∃ wo : World, wo = wr := ⟨_, rfl⟩
      have hbs := hbel.size
      cases gk with
      | zero =>
        have hkz : ¬ ((k : Int) < 5) := by omega
        have ht := Lib.hid (show obsL K l id = (rings.take k).map f by rw [HT.out, show k = 5 by omega, take_rings])
        go_wp2_with fail
        go_ret
        exact ⟨_, rfl, by rw [ht.out]; exact HOWN.out, hbel⟩
      | succ g =>
        have hkz : (k : Int) < 5 := by omega
        have CA2 := Lib.hid (show Calls Tryd.prog 42 #[.slice (some ad) l.length c, .int .i64 (k : Int), .int .i64 id] wo (PI wo (f k)) from by have := CA.out (k : Int) wo hbel (by omega) (by omega); rw [← HF.out]; exact this)
        have HSN := Lib.hid (map_snoc (f := f) (k := k) (by omega))
        have hlk := len_take (f := f) (k := k) (by omega)
        generalize f k = z at *
        generalize (rings.take k).map f = P at *
        have HLK := Lib.hid hlk
        clear hlk
        go_wp2_with (first
          | (go_at_call 42; (with_reducible refine CA2.out.mono ?_); rintro e w3 ⟨rfl, hq3⟩; (have hb3 : Below w.heap.size w w3 := hbel.trans (hq3.mono hbs)))
          | (at_builtin; refine wp_append_intsO _ rfl (.tmp 31) (.tmp 36) rfl w.heap.size _ P [z] _ _ _ _ rfl ((own_below HOWN.out hq3).alloc _) rfl (reads_one _ _) (by have := HLK.out; simp; omega) (Nat.le_trans hb3.size (by simp)) ?_; intro v4 w4 ho4 hb4))
        go_roundg g
        case measure => omega
        case rel => exact ⟨k + 1, by omega, by go_num, by rw [HSN.out]; exact ho4, (hb3.alloc hb3.size _).trans hb4⟩
  · have f1 : ((l.length : Int) == 1) = false := beqF (by omega)
    clear h1 hl16 hl1
    go_enter Tryd.func22, Tryd.ntmps22
    go_wp2_with (first
      | (go_at_call 40; (with_reducible refine CR.out.mono ?_); rintro e w1 ⟨rfl, b1⟩; have hcell1 : w1.cell? ad = some (.int .i64 x0) := (b1.cell had).trans hcell0)
      | (go_at_call 41; (with_reducible refine (CD.out _).mono ?_); rintro e w2 ⟨rfl, rfl⟩))
    clear f1
    go_loopg [5, 6] 5 (fun g s5 s6 wr => ∃ k : Nat, k + g = 5 ∧ s6 = .int .i64 k ∧ Hid (wr.ownsRow w.heap.size 3 1 s5 ((rings.take k).map f).length (((rings.take k).map f).map intV)) ∧ Below w.heap.size w wr)
    case atStart => exact ⟨0, by omega, rfl, World.ownsRow_nil _ _ _ _, b1⟩
    case round =>
      obtain ⟨k, hkg, rfl, HOWN, hbel⟩ := hrel
      obtain ⟨wo, rfl⟩ : ∃ wo : World, wo = wr := ⟨_, rfl⟩
      have hbs := hbel.size
      cases gk with
      | zero =>
        have hkz : ¬ ((k : Int) < 5) := by omega
        have ht := Lib.hid (show obsL K l id = (rings.take k).map f by rw [HT.out, show k = 5 by omega, take_rings])
        go_wp2_with fail
        go_ret
        exact ⟨_, rfl, by rw [ht.out]; exact HOWN.out, hbel⟩
      | succ g =>
        have hkz : (k : Int) < 5 := by omega
        have CA2 := Lib.hid (show Calls Tryd.prog 42 #[.slice (some ad) l.length c, .int .i64 (k : Int), .int .i64 id] wo (PI wo (f k)) from by have := CA.out (k : Int) wo hbel (by omega) (by omega); rw [← HF.out]; exact this)
        have HSN := Lib.hid (map_snoc (f := f) (k := k) (by omega))
        have hlk := len_take (f := f) (k := k) (by omega)
        generalize f k = z at *
        generalize (rings.take k).map f = P at *
        have HLK := Lib.hid hlk
        clear hlk
        go_wp2_with (first
          | (go_at_call 42; (with_reducible refine CA2.out.mono ?_); rintro e w3 ⟨rfl, hq3⟩; (have hb3 : Below w.heap.size w w3 := hbel.trans (hq3.mono hbs)))
          | (at_builtin; refine wp_append_intsO _ rfl (.tmp 31) (.tmp 36) rfl w.heap.size _ P [z] _ _ _ _ rfl ((own_below HOWN.out hq3).alloc _) rfl (reads_one _ _) (by have := HLK.out; simp; omega) (Nat.le_trans hb3.size (by simp)) ?_; intro v4 w4 ho4 hb4))
        go_roundg g
        case measure => omega
        case rel => exact ⟨k + 1, by omega, by go_num, by rw [HSN.out]; exact ho4, (hb3.alloc hb3.size _).trans hb4⟩
end Go.Proofs.YtipipjbpjpdcbaaDoor.O

/- The reference of layer 4: Subjects, Shared. -/
namespace Go.Proofs.YtipipjbpjpdcbaaDoor.O
set_option linter.unusedVariables false
open Go.RowKit
open Go.Proofs.YtipipjbpjpdcbaaDoor.W
open Go.Proofs.YtipipjbpjpdcbaaDoor.V

theorem placeF_lt {id : Int} : ∀ {l : List Int} {i : Nat}, id ∈ l → ∃ p, p < l.length ∧ placeF id i l = ((i + p : Nat) : Int) ∧ l[p]? = some id
  | [], i, h => by simp at h
  | x :: t, i, h => by
    unfold placeF
    by_cases hx : x = id
    · rw [if_pos hx]; exact ⟨0, by simp, rfl, by simp [hx]⟩
    · rw [if_neg hx]
      obtain ⟨p, h1, h2, h3⟩ := placeF_lt (l := t) (i := i + 1) ((List.mem_cons.1 h).resolve_left fun e => hx e.symm)
      exact ⟨p + 1, by simp; omega, by rw [h2]; congr 1; omega, by simpa using h3⟩
theorem mod_nat (p n : Nat) : ((p : Int) + 1) % (n : Int) = (((p + 1) % n : Nat) : Int) := by
  rw [Int.natCast_emod, Int.natCast_add]
  rfl
/-- The step to the next one, as the walk reckons it. -/
theorem next_walk {o : List Int} {id : Int} {n : Nat} (hn : n = o.length) (hm : id ∈ o) : ∃ p j : Nat, p < n ∧ place o id = (p : Int) ∧ j < n ∧ (((p : Int) + 1) % (n : Int)) = (j : Int) ∧ o[j]? = some (nextK o id) := by
  obtain ⟨p, h1, h2, h3⟩ := placeF_lt (i := 0) hm
  have hp : place o id = (p : Int) := by unfold place; rw [h2]; simp
  have hj : (p + 1) % n < n := Nat.mod_lt _ (by omega)
  refine ⟨p, (p + 1) % n, by omega, hp, hj, mod_nat p n, ?_⟩
  unfold nextK
  rw [hp, ← hn]
  have e : (((p : Int) + 1) % (n : Int)).toNat = (p + 1) % n := by rw [mod_nat]; rfl
  rw [e]
  obtain ⟨x, hx⟩ : ∃ x, o[(p + 1) % n]? = some x := ⟨_, List.getElem?_eq_getElem (by omega)⟩
  rw [hx]
  rfl
theorem idxF_snoc {a : Int} : ∀ {L : List Int} {i k : Nat} {y : Int}, L[k]? = some y → idxF a i (L.take (k + 1)) = idxF a i (L.take k) ++ if y = a then [((i + k : Nat) : Int)] else []
  | [], i, k, y, h => by simp at h
  | x :: t, i, 0, y, h => by
    simp at h
    subst h
    show idxF a i [x] = idxF a i [] ++ _
    unfold idxF idxF
    split <;> simp
  | x :: t, i, k + 1, y, h => by
    have := idxF_snoc (a := a) (L := t) (i := i + 1) (k := k) (y := y) (by simpa using h)
    show idxF a i (x :: t.take (k + 1)) = idxF a i (x :: t.take k) ++ _
    unfold idxF
    rw [this, show i + 1 + k = i + (k + 1) by omega]
    split <;> simp
theorem idxF_le {a : Int} : ∀ {L : List Int} {i : Nat}, (idxF a i L).length ≤ L.length := by
  intro L i
  rw [idxF_len]
  exact List.count_le_length
end Go.Proofs.YtipipjbpjpdcbaaDoor.O

/- The reference of layer 4: Neighbours. -/
namespace Go.Proofs.YtipipjbpjpdcbaaDoor.O
set_option linter.unusedVariables false
open Go.RowKit
open Go.Proofs.YtipipjbpjpdcbaaDoor.W
open Go.Proofs.YtipipjbpjpdcbaaDoor.V

/-- An empty row, laid new. -/
theorem own_empty (w : World) : (w.alloc (.cells #[] 3)).ownsRow w.heap.size 3 1 (.slice (some ⟨w.heap.size, 0, none⟩) 0 0) ([] : List Int).length (([] : List Int).map intV) :=
  World.ownsRow_lit (base := w.heap.size) (e := 3) (size := 1) w #[] 0 (Nat.le_refl _) (by unfold maxLen; omega) (by simp)
theorem nbF_snoc {id : Int} {out m : List Int} {k : Nat} {x : Int} (h : m[k]? = some x) : nbF id out (m.take (k + 1)) = nbStep id (nbF id out (m.take k)) x := by
  unfold nbF
  rw [List.take_add_one, h, List.foldl_append]
  rfl
theorem nbStep_len {id x : Int} {out : List Int} : (nbStep id out x).length ≤ out.length + 1 := by
  unfold nbStep
  split
  · rw [len_ins]; omega
  · omega
end Go.Proofs.YtipipjbpjpdcbaaDoor.O

/- Layer 4: what the walks share: valid lists of whatever size, the law's own same, has, without; literals. -/
namespace Go.Proofs.YtipipjbpjpdcbaaDoor.O
set_option linter.unusedVariables false
open Go.RowKit
open Go.Proofs.YtipipjbpjpdcbaaDoor.W
open Go.Proofs.YtipipjbpjpdcbaaDoor.V

/-- A list as it comes in: of whatever size. -/
structure LR (w : World) (B : Nat) (l : List Int) (A : Option Addr) (c : Nat) : Prop where
  rd : Reads w B 1 A l.length (l.map intV)
  l63 : l.length ≤ 9223372036854775807
  el : ∀ x ∈ l, In64 x
  cap : l.length ≤ c
theorem LR.ls {w : World} {B : Nat} {l : List Int} {A : Option Addr} {c : Nat} (h : LR w B l A c) (hs : l.length ≤ 1000) : LS w B l A c := ⟨h.rd, by omega, h.el, h.cap⟩
theorem LR.up {w W : World} {l : List Int} {A : Option Addr} {c : Nat} (h : LR w w.heap.size l A c) (hq : Below w.heap.size w W) : LR W W.heap.size l A c := { h with rd := (h.rd.below hq).more hq.size }
theorem LS.up {w W : World} {l : List Int} {A : Option Addr} {c : Nat} (h : LS w w.heap.size l A c) (hq : Below w.heap.size w W) : LS W W.heap.size l A c := { h with rd := (h.rd.below hq).more hq.size }
theorem in_ids {l : List Int} (h : IDs l) : ∀ x ∈ l, In64 x := fun x hx => by have := h x hx; exact ⟨by omega, by omega⟩
theorem in_lit {l : List Int} (h : (l.all fun x => decide (-9223372036854775808 ≤ x) && decide (x ≤ 9223372036854775807)) = true) : ∀ x ∈ l, In64 x := by
  intro x hx
  have := List.all_eq_true.1 h x hx
  simp at this
  exact ⟨by omega, by omega⟩
/-- A literal row of ints. -/
theorem ls_lit (W : World) (cs : Array Value) (l : List Int) (n : Nat) (h : cs.toList = l.map intV) (hn : l.length = n) (hl : n ≤ 1000)
    (hel : ∀ x ∈ l, In64 x) : LS (W.alloc (.cells cs 3)) (W.alloc (.cells cs 3)).heap.size l (some ⟨W.heap.size, 0, none⟩) n := by
  subst hn
  refine ⟨⟨by simp, fun _ => ⟨_, rfl, by simp, fun j u hu => ?_⟩⟩, by omega, hel, Nat.le_refl _⟩
  have e : (⟨W.heap.size, 0, none⟩ : Addr).add j = ⟨W.heap.size, j, none⟩ := by unfold Addr.add; split <;> simp_all
  rw [e, World.cell?_alloc_mark W cs 3 (0, 0) j, ← hu, ← h]
  simp
theorem bstep {w a b : World} (h : Below w.heap.size w a) (h1 : Below a.heap.size a b) : Below w.heap.size w b := h.trans (h1.mono h.size)
set_option maxRecDepth 100000 in
set_option maxHeartbeats 400000 in
theorem refValidM_big (L : Option Addr) (c : Nat) (l : List Int) (w : World) (h : LR w w.heap.size l L c) :
    Calls Tryd.prog 40 #[.slice L l.length c] w (PB w (validM l)) := by
  by_cases h2 : l.length ≤ 16
  · exact (refValidM_any L c w.heap.size l w h.rd (by omega) h.el).mono fun _ _ h => h.pb
  · have ht := Lib.hid (show validM l = false by simp [validM, h2])
    have f1 : (1 : Int) ≤ (l.length : Int) := by omega
    have f2 : ¬ (l.length : Int) ≤ 16 := by omega
    have hl := h.l63
    clear h
    go_enter Tryd.func40, Tryd.ntmps40
    go_wp2_with fail
    go_ret
    exact ⟨retB' ht.out, Below.refl _ _⟩
theorem hasB_at {l : List Int} {k : Nat} {x : Int} (h : l[k]? = some x) : hasB l x = true := hasB_iff.2 (List.mem_of_getElem? h)
theorem filter_snoc' {l : List Int} {k : Nat} {x id : Int} (h : l[k]? = some x) : ((l.take (k + 1)).filter fun y => y != id) = ((l.take k).filter fun y => y != id) ++ if x != id then [x] else [] := by
  rw [List.take_add_one, h, List.filter_append]
  simp only [Option.toList_some, List.filter_cons, List.filter_nil]
end Go.Proofs.YtipipjbpjpdcbaaDoor.O
