/- Package view: the merging of two ascending lists as plain mathematics; rows of the call's own side by side. -/
import Derived.Test.YteiolhbjgfkdeaaVView1
namespace Go.Proofs.Yteiolhbjgfkdeaa.V
set_option linter.unusedVariables false
open Go.RowKit
open Go.Proofs.Yteiolhbjgfkdeaa.W

/-- What the labelled loop gives: only the first list has, both have, only the second one has. -/
def mrg : List Int → List Int → List Int × List Int × List Int
  | [], b => ([], [], b)
  | x :: a, [] => (x :: (mrg a []).1, (mrg a []).2.1, (mrg a []).2.2)
  | x :: a, y :: b =>
    if y < x then ((mrg (x :: a) b).1, (mrg (x :: a) b).2.1, y :: (mrg (x :: a) b).2.2)
    else if y = x then ((mrg a b).1, x :: (mrg a b).2.1, (mrg a b).2.2)
    else (x :: (mrg a (y :: b)).1, (mrg a (y :: b)).2.1, (mrg a (y :: b)).2.2)
termination_by a b => a.length + b.length
theorem among_cons (x : Int) (l m : List Int) (b : Bool) : among (x :: l) m b = if decide (x ∈ m) = b then x :: among l m b else among l m b := by
  unfold among
  rw [List.filter_cons, hasB_mem]
  cases b <;> by_cases h : x ∈ m <;> simp [h]
theorem among_congr {l m m' : List Int} {b : Bool} (h : ∀ x ∈ l, x ∈ m ↔ x ∈ m') : among l m b = among l m' b := by
  unfold among
  refine List.filter_congr fun x hx => ?_
  rw [hasB_mem, hasB_mem, decide_eq_decide.2 (h x hx)]
theorem among_nil_left (m : List Int) (b : Bool) : among [] m b = [] := rfl
theorem among_nil_right (l : List Int) : among l [] false = l ∧ among l [] true = [] := by
  unfold among
  constructor
  · rw [List.filter_eq_self]; intro x hx; rfl
  · rw [List.filter_eq_nil_iff]; intro x hx; simp [hasB, place, placeF]
theorem Asc.tail {x : Int} {t : List Int} (h : Asc (x :: t)) : Asc t ∧ ∀ y ∈ t, x < y := by
  unfold Asc at h ⊢
  rw [List.pairwise_cons] at h
  exact ⟨h.2, h.1⟩
theorem mrg_eq : ∀ {a b : List Int}, Asc a → Asc b → mrg a b = (among a b false, among a b true, among b a false)
  | [], b, _, _ => by rw [mrg, among_nil_left, among_nil_left, (among_nil_right b).1]
  | x :: a, [], ha, hb => by
    rw [mrg, mrg_eq (a := a) (b := []) ha.tail.1 hb]
    simp only [among_nil_left, (among_nil_right _).1, (among_nil_right _).2]
  | x :: a, y :: b, ha, hb => by
    rw [mrg]
    obtain ⟨ha', hxa⟩ := ha.tail
    obtain ⟨hb', hyb⟩ := hb.tail
    by_cases h1 : y < x
    · rw [if_pos h1, mrg_eq (a := x :: a) (b := b) ha hb']
      have hy : y ∉ x :: a := fun hm => by
        rcases List.mem_cons.1 hm with e | hm
        · omega
        · have := hxa y hm; omega
      have hc : ∀ c, among (x :: a) (y :: b) c = among (x :: a) b c := fun c => among_congr fun z hz => by
        rw [List.mem_cons]
        exact ⟨fun h => h.resolve_left fun e => hy (e ▸ hz), .inr⟩
      rw [hc, hc, among_cons y b]
      simp [hy]
    · rw [if_neg h1]
      by_cases h2 : y = x
      · subst h2
        rw [if_pos rfl, mrg_eq (a := a) (b := b) ha' hb']
        have e1 : ∀ c, among a (y :: b) c = among a b c := fun c => among_congr fun z hz => by
          rw [List.mem_cons]
          exact ⟨fun h => h.resolve_left fun e => by have := hxa z hz; omega, .inr⟩
        have e2 : among b (y :: a) false = among b a false := among_congr fun z hz => by
          rw [List.mem_cons]
          exact ⟨fun h => h.resolve_left fun e => by have := hyb z hz; omega, .inr⟩
        rw [among_cons, among_cons, among_cons, e1, e1, e2]
        simp
      · rw [if_neg h2, mrg_eq (a := a) (b := y :: b) ha' hb]
        have hx : x ∉ y :: b := fun hm => by
          rcases List.mem_cons.1 hm with e | hm
          · omega
          · have := hyb x hm; omega
        have hc : among (y :: b) (x :: a) false = among (y :: b) a false := among_congr fun z hz => by
          rw [List.mem_cons]
          exact ⟨fun h => h.resolve_left fun e => hx (e ▸ hz), .inr⟩
        rw [among_cons x a, among_cons x a, hc]
        simp [hx]
termination_by a b => a.length + b.length
theorem mrg_nil (b : List Int) : mrg [] b = ([], [], b) := by rw [mrg]
theorem mrg_left (x : Int) (a : List Int) : mrg (x :: a) [] = (x :: (mrg a []).1, (mrg a []).2.1, (mrg a []).2.2) := by rw [mrg]
theorem mrg_lt {x y : Int} {a b : List Int} (h : y < x) : mrg (x :: a) (y :: b) = ((mrg (x :: a) b).1, (mrg (x :: a) b).2.1, y :: (mrg (x :: a) b).2.2) := by rw [mrg, if_pos h]
theorem mrg_same {x : Int} {a b : List Int} : mrg (x :: a) (x :: b) = ((mrg a b).1, x :: (mrg a b).2.1, (mrg a b).2.2) := by rw [mrg, if_neg (by omega), if_pos rfl]
theorem mrg_gt {x y : Int} {a b : List Int} (h : x < y) : mrg (x :: a) (y :: b) = (x :: (mrg a (y :: b)).1, (mrg a (y :: b)).2.1, (mrg a (y :: b)).2.2) := by rw [mrg, if_neg (by omega), if_neg (by omega)]
/-- How far the labelled loop has come: what it holds, ahead of what is to come, is the whole. -/
def Came (a b L M R ra rb : List Int) : Prop := mrg a b = (L ++ (mrg ra rb).1, M ++ (mrg ra rb).2.1, R ++ (mrg ra rb).2.2)
theorem Came.start (a b : List Int) : Came a b [] [] [] a b := by unfold Came; simp
theorem Came.left {a b L M R : List Int} {x : Int} {ra rb : List Int} (h : Came a b L M R (x :: ra) rb) (hr : rb = [] ∨ ∃ y t, rb = y :: t ∧ x < y) : Came a b (L ++ [x]) M R ra rb := by
  unfold Came at h ⊢
  rw [h]
  rcases hr with rfl | ⟨y, t, rfl, hlt⟩
  · rw [mrg_left]; simp
  · rw [mrg_gt hlt]; simp
theorem Came.both {a b L M R : List Int} {x : Int} {ra rb : List Int} (h : Came a b L M R (x :: ra) (x :: rb)) : Came a b L (M ++ [x]) R ra rb := by
  unfold Came at h ⊢
  rw [h, mrg_same]; simp
theorem Came.right {a b L M R : List Int} {x y : Int} {ra rb : List Int} (h : Came a b L M R (x :: ra) (y :: rb)) (hlt : y < x) : Came a b L M (R ++ [y]) (x :: ra) rb := by
  unfold Came at h ⊢
  rw [h, mrg_lt hlt]; simp
theorem Came.done {a b L M R rb : List Int} (h : Came a b L M R [] rb) (ha : Asc a) (hb : Asc b) : L = among a b false ∧ M = among a b true ∧ R ++ rb = among b a false := by
  unfold Came at h
  rw [mrg_eq ha hb, mrg_nil] at h
  simp only [Prod.mk.injEq, List.append_nil] at h
  exact ⟨h.1.symm, h.2.1.symm, h.2.2.symm⟩

/-- The merging of two ascending lists. -/
def mgF : List Int → List Int → List Int
  | [], b => b
  | x :: a, [] => x :: mgF a []
  | x :: a, y :: b => if y < x then y :: mgF (x :: a) b else x :: mgF a (y :: b)
termination_by a b => a.length + b.length
theorem mgF_nil (b : List Int) : mgF [] b = b := by rw [mgF]
theorem mgF_left (x : Int) (a : List Int) : mgF (x :: a) [] = x :: mgF a [] := by rw [mgF]
theorem mgF_lt {x y : Int} {a b : List Int} (h : y < x) : mgF (x :: a) (y :: b) = y :: mgF (x :: a) b := by rw [mgF, if_pos h]
theorem mgF_ge {x y : Int} {a b : List Int} (h : ¬ y < x) : mgF (x :: a) (y :: b) = x :: mgF a (y :: b) := by rw [mgF, if_neg h]
theorem mem_mgF {z : Int} : ∀ {a b : List Int}, z ∈ mgF a b ↔ z ∈ a ∨ z ∈ b
  | [], b => by simp [mgF_nil]
  | x :: a, [] => by rw [mgF_left, List.mem_cons, mem_mgF (a := a) (b := [])]; simp
  | x :: a, y :: b => by
    by_cases h : y < x
    · rw [mgF_lt h, List.mem_cons, mem_mgF (a := x :: a) (b := b), List.mem_cons (l := b)]
      constructor
      · rintro (h | h | h)
        · exact .inr (.inl h)
        · exact .inl h
        · exact .inr (.inr h)
      · rintro (h | h | h)
        · exact .inr (.inl h)
        · exact .inl h
        · exact .inr (.inr h)
    · rw [mgF_ge h, List.mem_cons, mem_mgF (a := a) (b := y :: b), List.mem_cons (l := a), or_assoc]
termination_by a b => a.length + b.length
theorem len_mgF : ∀ {a b : List Int}, (mgF a b).length = a.length + b.length
  | [], b => by simp [mgF_nil]
  | x :: a, [] => by rw [mgF_left, List.length_cons, len_mgF (a := a) (b := [])]; simp
  | x :: a, y :: b => by
    by_cases h : y < x
    · rw [mgF_lt h, List.length_cons, len_mgF (a := x :: a) (b := b)]; simp; omega
    · rw [mgF_ge h, List.length_cons, len_mgF (a := a) (b := y :: b)]; simp; omega
termination_by a b => a.length + b.length
theorem asc_mgF : ∀ {a b : List Int}, Asc a → Asc b → (∀ x ∈ a, x ∉ b) → Asc (mgF a b)
  | [], b, _, hb, _ => by rw [mgF_nil]; exact hb
  | x :: a, [], ha, hb, hd => by
    rw [mgF_left]
    have h := asc_mgF ha.tail.1 hb fun z hz => by simp
    unfold Asc at h ⊢
    rw [List.pairwise_cons]
    exact ⟨fun z hz => (mem_mgF.1 hz).elim (ha.tail.2 z) fun h => by simp at h, h⟩
  | x :: a, y :: b, ha, hb, hd => by
    obtain ⟨ha', hxa⟩ := ha.tail
    obtain ⟨hb', hyb⟩ := hb.tail
    have hxy : x ≠ y := fun e => hd x (by simp) (by simp [e])
    by_cases h : y < x
    · rw [mgF_lt h]
      have hh := asc_mgF ha hb' fun z hz hm => hd z hz (by simp [hm])
      unfold Asc at hh ⊢
      rw [List.pairwise_cons]
      refine ⟨fun z hz => ?_, hh⟩
      rcases mem_mgF.1 hz with hz | hz
      · rcases List.mem_cons.1 hz with e | hz
        · omega
        · have := hxa z hz; omega
      · exact hyb z hz
    · rw [mgF_ge h]
      have hh := asc_mgF ha' hb fun z hz hm => hd z (by simp [hz]) hm
      unfold Asc at hh ⊢
      rw [List.pairwise_cons]
      refine ⟨fun z hz => ?_, hh⟩
      rcases mem_mgF.1 hz with hz | hz
      · exact hxa z hz
      · rcases List.mem_cons.1 hz with e | hz
        · omega
        · have := hyb z hz; omega
termination_by a b => a.length + b.length
theorem mgF_eq {a b : List Int} (ha : Asc a) (hb : Asc b) (hd : ∀ x ∈ b, x ∉ a) : mgF a b = insAll a b :=
  Asc.ext (asc_mgF ha hb fun x hx hm => hd x hm hx) (Asc.insAll ha hb hd) fun x => by rw [mem_mgF, mem_insAll]

/-! ### rows of the call's own side by side -/
def Apt (v u : Value) : Prop := v.ownBlock = none ∨ v.ownBlock ≠ u.ownBlock
theorem Apt.symm {v u : Value} (h : Apt v u) : Apt u v := by
  unfold Apt at h ⊢
  rcases h with h | h
  · cases hu : u.ownBlock with
    | none => exact .inl rfl
    | some k => exact .inr (by rw [h]; simp)
  · exact .inr fun e => h e.symm
/-- Three rows that share no block. -/
structure Row3 (w : World) (base : Nat) (v1 v2 v3 : Value) (l1 l2 l3 : List Int) : Prop where
  o1 : w.ownsRow base 3 1 v1 l1.length (l1.map intV)
  o2 : w.ownsRow base 3 1 v2 l2.length (l2.map intV)
  o3 : w.ownsRow base 3 1 v3 l3.length (l3.map intV)
  a12 : Apt v1 v2
  a13 : Apt v1 v3
  a23 : Apt v2 v3
theorem Row3.turn {w : World} {base : Nat} {v1 v2 v3 : Value} {l1 l2 l3 : List Int} (h : Row3 w base v1 v2 v3 l1 l2 l3) : Row3 w base v2 v3 v1 l2 l3 l1 := ⟨h.o2, h.o3, h.o1, h.a23, h.a12.symm, h.a13.symm⟩
theorem Row3.nil_ (w : World) (base : Nat) : Row3 w base (.slice none 0 0) (.slice none 0 0) (.slice none 0 0) [] [] [] :=
  ⟨World.ownsRow_nil _ _ _ _, World.ownsRow_nil _ _ _ _, World.ownsRow_nil _ _ _ _, .inl rfl, .inl rfl, .inl rfl⟩
theorem Row3.alloc {w : World} {base : Nat} {v1 v2 v3 : Value} {l1 l2 l3 : List Int} (h : Row3 w base v1 v2 v3 l1 l2 l3) (o : Obj) : Row3 (w.alloc o) base v1 v2 v3 l1 l2 l3 :=
  { h with o1 := h.o1.alloc o, o2 := h.o2.alloc o, o3 := h.o3.alloc o }
theorem Row3.below {w w' : World} {base : Nat} {v1 v2 v3 : Value} {l1 l2 l3 : List Int} (h : Row3 w base v1 v2 v3 l1 l2 l3) (hb : Below w.heap.size w w') : Row3 w' base v1 v2 v3 l1 l2 l3 :=
  { h with o1 := own_below h.o1 hb, o2 := own_below h.o2 hb, o3 := own_below h.o3 hb }
theorem apt_new {w : World} {base : Nat} {v v' u : Value} {l : List Int} (ho : w.ownsRow base 3 1 u l.length (l.map intV)) (ha : Apt v u) (hv : v'.ownBlock = v.ownBlock ∨ v'.ownBlock = some w.heap.size) : Apt v' u := by
  rcases hv with hv | hv
  · unfold Apt; rw [hv]; exact ha
  · refine .inr fun e => ?_
    rw [hv] at e
    have := (ho.lt _ e.symm).2
    omega
/-- Integers appended to the first of three rows. -/
theorem wp_append_tri {ops : Array Oper} {rest : List Oper} {o : Oper} {a : Act} {Q : Exit → Act → World → Prop} (W : World) (hgd : o.guard = none) (s x : Operand)
    (ho : o.op = .call { callee := .builtin .append, args := #[s, x], argTypes := #[22, 22] }) (base : Nat) (v v2 v3 : Value) (l l2 l3 news : List Int) (B m c : Nat) (A : Option Addr) (hs : a.eval s = v)
    (hown : Row3 W base v v2 v3 l l2 l3) (hx : a.eval x = .slice A m c) (hr : Reads W B 1 A m (news.map intV)) (hl : l.length + news.length ≤ 1099511627776) (hbase : base ≤ W.heap.size)
    (h : ∀ v' w', Row3 w' base v' v2 v3 (l ++ news) l2 l3 → Below base W w' → wpList Try.prog ops Q rest (a.put o.dst v') w') : wpList Try.prog ops Q (o :: rest) a W := by
  obtain ⟨i0, hi, hz0, hz1, hz2⟩ := info_parts intInfo
  have hm : m = news.length := by have := hr.1; rw [List.length_map] at this; omega
  refine wpList_append_any W hgd s x 22 ho base 3 i0 _ 1 8 Try.underlying22 hi hz0 hz1 hz2 rfl (by decide) v _ _ hs hown.o1 B A m c _ hx hr ?_ ?_ ?_ hbase ?_
  · intro u hu
    obtain ⟨z, _, rfl⟩ := List.mem_map.1 hu
    rfl
  · unfold maxLen; omega
  · omega
  · intro v' w' h1 h2 h3
    refine h v' w' ⟨?_, ?_, ?_, ?_, ?_, hown.a23⟩ ((Below.refl _ _).grown h2 hbase fun q hq => (hown.o1.lt q hq).1)
    · rw [List.map_append, List.length_append, ← hm]; exact h1
    · exact hown.o2.kept h2 hown.a12.symm
    · exact hown.o3.kept h2 hown.a13.symm
    · exact apt_new hown.o2 hown.a12 h3
    · exact apt_new hown.o3 hown.a13 h3
/-- .. one that lies in a new block. -/
theorem reads_one (w : World) (x : Int) : Reads (w.alloc (.cells #[.int .i64 x] 3)) (w.heap.size + 1) 1 (some ⟨w.heap.size, 0, none⟩) 1 (([x] : List Int).map intV) := by
  refine ⟨rfl, fun _ => ⟨_, rfl, Nat.lt_succ_self _, fun j u hu => ?_⟩⟩
  match j, hu with
  | 0, hu =>
    simp at hu; subst hu
    exact cell_new1 _ _ _
/-- What 's[k:]' gives, of a list of integers. -/
theorem slice_fromI {w : World} {B c k : Nat} {ki : Int} {A : Option Addr} {l : List Int} (h : Reads w B 1 A l.length (l.map intV)) (hn : l.length ≤ c) (hk : k ≤ l.length) (hki : ki = (k : Int)) :
    ∃ A', (∀ (W : World), (Instr.slice 22 (.slice A l.length c) (some (.int .i64 ki)) none none).run Try.prog W = .ok (.slice A' (l.length - k) (c - k)) W) ∧ Reads w B 1 A' (l.length - k) ((l.drop k).map intV) := by
  subst hki
  refine ⟨if c = k then A else A.map (·.add (k * 1)), fun W => ?_, ?_⟩
  · rw [run_slice_l W 22 A l.length c (by simp [go_sem]) .i64 k (by omega) (by omega)]
    simp [go_sem]
  · have := h.cut hk hn
    simpa using this
end Go.Proofs.Yteiolhbjgfkdeaa.V
