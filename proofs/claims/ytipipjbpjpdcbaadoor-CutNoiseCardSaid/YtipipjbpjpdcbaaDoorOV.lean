import Derived.Test.YtipipjbpjpdcbaaDoorOB
import Derived.Test.YtipipjbpjpdcbaaDoorShelf
import Derived.Sort.OwnSortedInts
import Derived.Lib.SliceRun
import Derived.BigQuiet
/- Package overlay: the comparison closure, Order (slices.Clone, slices.SortFunc). -/
namespace Go.Proofs.YtipipjbpjpdcbaaDoor.O
set_option linter.unusedVariables false
open Go.RowKit Go.Sort
open Go.Proofs.YtipipjbpjpdcbaaDoor.W
open Go.Proofs.YtipipjbpjpdcbaaDoor.V

theorem quiet_one {P : Program} {f : FuncId} {args : Array Value} {w : World} {n : Nat} {v : Value}
    (h : Calls P f args (w.drewN n) fun e w' => e = .returned v ∧ ∃ q, w' = (w.drewN n).drewN q) : Calls P f args (w.drewN n) fun e w'' => e = .returned v ∧ ∃ m, w'' = w.drewN m :=
  h.mono fun _ _ ⟨he, q, hq⟩ => ⟨he, n + q, by rw [hq, World.drewN_drewN]⟩
/-- What cmp.Compare gives of two words. -/
def cmpW (x y : Nat) : Int := if x < y then -1 else if y < x then 1 else 0
def cfP (r x y : Int) : Int := cmpW (K r x) (K r y)
theorem ltP (r x y : Int) : ltOf (cfP r) x y = decide (K r x < K r y) := by
  unfold ltOf cfP cmpW
  by_cases h1 : K r x < K r y
  · simp [h1]
  · by_cases h2 : K r y < K r x <;> simp [h1, h2]
theorem swoP (r : Int) : SWO (ltOf (cfP r)) where
  irrefl x := by rw [ltP]; simp
  trans x y z h1 h2 := by rw [ltP] at *; simp at *; omega
  ntrans x y z h1 h2 := by rw [ltP] at *; simp at *; omega
set_option maxRecDepth 1000000 in
set_option maxHeartbeats 2000000 in
theorem cmpU_any (x y : BitVec 64) (w : World) : Calls Tryd.prog 82 #[.int .u64 (x.toNat : Int), .int .u64 (y.toNat : Int)] w fun e w' => e = .returned (.int .i64 (cmpW x.toNat y.toNat)) ∧ ∃ q, w' = w.drewN q := by
  have bx := x.isLt
  have by_ := y.isLt
  generalize x.toNat = a at *
  generalize y.toNat = b at *
  have HT := Lib.hid (show cmpW a b = if a < b then -1 else if b < a then 1 else 0 from rfl)
  generalize cmpW a b = t at *
  rcases Nat.lt_trichotomy a b with h | h | h
  · have h1 : (a : Int) < (b : Int) := by omega
    have ht := Lib.hid (show t = -1 by rw [HT.out, if_pos h])
    clear h HT
    go_enter Tryd.func82, Tryd.ntmps82
    go_wp2_with (go_in)
    go_ret
    exact ⟨by rw [ht.out]; rfl, 0, rfl⟩
  · have ht := Lib.hid (show t = 0 by rw [HT.out]; simp [h])
    subst h
    clear HT
    go_enter Tryd.func82, Tryd.ntmps82
    go_wp2_with (go_in)
    go_ret
    exact ⟨by rw [ht.out]; rfl, 0, rfl⟩
  · have h1 : (b : Int) < (a : Int) := by omega
    have h2 : ¬ (a : Int) < (b : Int) := by omega
    have ht := Lib.hid (show t = 1 by rw [HT.out, if_neg (by omega), if_pos h])
    clear h HT
    go_enter Tryd.func82, Tryd.ntmps82
    go_wp2_with (go_in)
    go_ret
    exact ⟨by rw [ht.out]; rfl, 0, rfl⟩
set_option maxRecDepth 1000000 in
set_option maxHeartbeats 2000000 in
theorem less_any (r x y : Int) (b : Nat) (W : World) (ht : H.Tab W) (hc : W.cell? ⟨b, 0, none⟩ = some (.int .i64 r)) :
    Calls Tryd.prog 81 #[.int .i64 x, .int .i64 y, .pointer (some ⟨b, 0, none⟩)] W fun e w' => e = .returned (.int .i64 (cfP r x y)) ∧ ∃ q, w' = W.drewN q := by
  have CX := Lib.hid (fun k => H.position_any r x (W.drewN k) (ht.drewN k))
  have CY := Lib.hid (fun k => H.position_any r y (W.drewN k) (ht.drewN k))
  have CC := Lib.hid (fun V => cmpU_any (H.posW r x) (H.posW r y) V)
  have HT := Lib.hid (show cfP r x y = cmpW (H.posW r x).toNat (H.posW r y).toNat from rfl)
  generalize cmpW (H.posW r x).toNat (H.posW r y).toNat = t at *
  generalize H.posW r x = px at *
  generalize H.posW r y = py at *
  go_enter Tryd.func81, Tryd.ntmps81
  go_wp2_with fail
  go_quiet (first
    | (go_at_call 83; with_reducible exact quiet_one (CX.out _))
    | (go_at_call 83; with_reducible exact quiet_one (CY.out _))
    | (go_at_call 82; with_reducible exact quiet_one (CC.out _))
    | fail)
  go_wp2_with fail
  go_ret
  exact ⟨by rw [HT.out]; rfl, _, rfl⟩
theorem below_sort {B g m : Nat} {w : World} {d : Array Int} {os : Array Obj} (hg : B ≤ g) (hgw : g < w.heap.size) : Below B w (sortWorld intV w g 0 m d os) := by
  have h := grownBy_sortedI (w := w) (g := g) (n := m) (os := os) d
  exact ⟨h.os, h.tape, h.output, h.size, fun k hk => h.block k (by omega) (fun e => by have := Option.some.inj e; omega)⟩
theorem Tab.far {B : Nat} {w W : World} (h : H.Tab w) (hb : Below B w W) (h0 : 0 < B) (h1 : 1 < B) : H.Tab W :=
  ⟨(hb.cell h0).trans h.s0, (hb.cell h0).trans h.s1, (hb.cell h0).trans h.s2, (hb.cell h1).trans h.f0, (hb.cell h1).trans h.f1⟩
theorem sorted_eq {r : Int} {l : List Int} {d' : Array Int} (hn : l.Nodup) (hi : InjOn (K r) l) (hp : PermIn 0 l.toArray.size l.toArray d') (hs : SortedIn (ltOf (cfP r)) 0 l.toArray.size d') : d'.toList = ordK (K r) l := by
  have hsz : d'.size = l.length := by have := hp.1; simpa using this
  have hperm : d'.toList.Perm l := by
    have := hp.2.2
    have e1 : d'.extract 0 l.toArray.size = d' := by rw [List.size_toArray, ← hsz]; exact Array.extract_size
    have e2 : l.toArray.extract 0 l.toArray.size = l.toArray := Array.extract_size
    rw [e1, e2] at this
    exact this
  have hnd : d'.toList.Nodup := hperm.nodup_iff.2 hn
  refine SAsc.ext ?_ (sasc_ordK hn hi) (fun x => by rw [mem_ordK]; exact hperm.mem_iff)
  refine List.pairwise_iff_getElem.2 fun i j hi' hj' hij => ?_
  have hji : j < l.length := by rw [Array.length_toList] at hj'; omega
  have h1 := hs i j (Nat.zero_le _) hij (by simpa using hji)
  rw [ltP, getElem!_pos d' j (by omega), getElem!_pos d' i (by omega)] at h1
  simp only [decide_eq_false_iff_not, Nat.not_lt] at h1
  simp only [Array.getElem_toList]
  rcases Nat.lt_or_ge (K r d'[i]) (K r d'[j]) with h | h
  · exact h
  · exfalso
    have he : K r d'[i] = K r d'[j] := by omega
    have := hi _ (hperm.mem_iff.1 (List.getElem_mem hi')) _ (hperm.mem_iff.1 (List.getElem_mem hj')) (by simpa using he)
    have hne := (List.pairwise_iff_getElem.1 hnd) i j hi' hj' hij
    exact hne this
theorem sort_own {r : Int} {b base g cap : Nat} {l : List Int} {w : World} (ht : H.Tab w) (hc : w.cell? ⟨b, 0, none⟩ = some (.int .i64 r)) (hb : b ≠ g) (hbl : b < w.heap.size) (h0 : 0 < g) (h1 : 1 < g)
    (hn : l.Nodup) (hi : InjOn (K r) l) (hl : l.length ≤ 1000) (hown : w.ownsRow base 3 1 (.slice (some ⟨g, 0, none⟩) l.length cap) l.length (l.map intV)) :
    Calls Tryd.prog 89 #[.slice (some ⟨g, 0, none⟩) l.length cap, .func (.func 81) #[] #[.pointer (some ⟨b, 0, none⟩)]] w fun e w' =>
      e = .returned (.tuple #[]) ∧ w'.ownsRow base 3 1 (.slice (some ⟨g, 0, none⟩) l.length cap) l.length ((ordK (K r) l).map intV) ∧ Below base w w' := by
  rcases hown.2 with ⟨h, _⟩ | ⟨g', cap', cur, hv, hbase, hgb, r1, r2, r3, r4⟩
  · cases h
  cases hv
  have hH : Holds intV w g 0 l.toArray := holds_of_blockI hgb (by have := r4; rw [Nat.mul_one] at this; exact this)
  have hgl : g < w.heap.size := (Array.getElem?_eq_some_iff.1 hgb).1
  have eg : ∀ args w, (callFunc 81 args).run Tryd.prog w = .ok (.enter 81 args) w := enters_of Tryd.func81 (by kernel_rfl) rfl
  have hcmp : CmpReads Tryd.prog 81 #[.pointer (some ⟨b, 0, none⟩)] intV (cfP r) g 0 l.toArray.size w := fun m os dk hs x y =>
    less_any r x y b _ (Tab.far ht (below_sort (Nat.le_refl g) hgl) h0 h1) ((World.cell?_of_block (a := ⟨b, 0, none⟩) ((grownBy_sortedI (w := w) (g := g) (n := m) (os := os) dk).block b hbl (fun e => hb (Option.some.inj e)))).trans hc)
  have hcon := Tryd.slices_SortFunc intV (fun _ => rfl) (cfP r) (swoP r) _ _ g 0 cap l.toArray w eg hcmp.lays hH hgl (by simp; omega)
  rw [List.size_toArray] at hcon
  refine hcon.mono ?_
  rintro e w' ⟨rfl, d', n, os, hp, hs, rfl⟩
  have hd : d' = (ordK (K r) l).toArray := by rw [← sorted_eq hn hi (by simpa using hp) (by simpa using hs)]
  subst hd
  refine ⟨rfl, ?_, below_sort hbase hgl⟩
  exact ownsRow_sortedI (ss := l) (by rw [len_ordK]) hbase hgb r1 r2 r3
set_option maxRecDepth 1000000 in
set_option maxHeartbeats 2000000 in
theorem clone_any (L : Option Addr) (c B : Nat) (l : List Int) (w : World) (h : LS w B l L c) (hB : B ≤ w.heap.size) (h1 : 1 ≤ l.length) :
    Calls Tryd.prog 88 #[.slice L l.length c] w (OwnI w l) := by
  obtain ⟨ad, u, rfl, _, _, _⟩ := h.rd.at_ (k := 0) (by omega)
  have HR := Lib.hid (fun o => (h.rd.more hB).below ((Below.refl w.heap.size w).alloc (Nat.le_refl _) o))
  have hl40 := h.l40
  obtain ⟨n, hn⟩ : ∃ n, n = l.length := ⟨_, rfl⟩
  have HN := Lib.hid hn
  rw [← hn] at HR hl40 ⊢
  clear h hn
  have q22 : ∀ (W : World) (a : Option Addr) (n c n' c' : Nat), (binOp .eql 22 (.slice a n c) (.slice none n' c')).run Tryd.prog W = .ok (.bool a.isNone) W := fun W a n c n' c' => Lib.run_eql_slice_nil W _ _ a n c n' c' Tryd.underlying22
  go_enter Tryd.func88, Tryd.ntmps88
  go_wp2_with (at_builtin; go_loud (refine wp_append_intsO _ rfl (.tmp 5) (.tmp 6) rfl w.heap.size _ [] l _ _ _ _ rfl (World.ownsRow_made w #[] 0 (Nat.le_refl _) (by decide) rfl) rfl (HR.out _) (by have := HN.out; simp; omega) (by simp) ?_; intro v2 w2 ho2 hb2))
  go_ret
  exact ⟨_, rfl, ho2, ((Below.refl w.heap.size w).alloc (Nat.le_refl _) _).trans hb2⟩
/-- A list of the call's own that is not empty: its block. -/
theorem own_open {w w' : World} {l : List Int} {e : Ending} (h : OwnI w l e w') (h1 : 1 ≤ l.length) : ∃ g cap, e = .returned (.slice (some ⟨g, 0, none⟩) l.length cap) ∧ w.heap.size ≤ g ∧ w'.ownsRow w.heap.size 3 1 (.slice (some ⟨g, 0, none⟩) l.length cap) l.length (l.map intV) ∧ Below w.heap.size w w' := by
  obtain ⟨v, rfl, hown, hb⟩ := h
  rcases hown.2 with ⟨_, h0⟩ | ⟨g, cap, cur, rfl, hbase, _⟩
  · omega
  · exact ⟨g, cap, rfl, hbase, hown, hb⟩
set_option maxRecDepth 1000000 in
set_option maxHeartbeats 2000000 in
theorem byPos_any (r : Int) (w : World) :
    Calls Tryd.prog 72 #[.int .i64 r] w fun e w' => e = .returned (.func (.func 81) #[] #[.pointer (some ⟨w.heap.size, 0, none⟩)]) ∧ w' = w.alloc (.cells #[.int .i64 r] 3) := by
  go_enter Tryd.func72, Tryd.ntmps72
  go_wp2_with fail
  go_ret
  exact ⟨rfl, rfl⟩
set_option maxRecDepth 1000000 in
set_option maxHeartbeats 2000000 in
theorem overOrder_any (r : Int) (L : Option Addr) (c B : Nat) (l : List Int) (w : World) (h : LS w B l L c) (hB : B ≤ w.heap.size) (hr64 : In64 r) (ht : H.Tab w) :
    Calls Tryd.prog 80 #[.slice L l.length c, .int .i64 r] w (OwnI w (orderL l r)) := by
  have CV := Lib.hid (viewValidM_any L c B l w h hB)
  obtain ⟨n0, n1⟩ := hr64
  cases hv : validM l
  · have hT := Lib.hid (show orderL l r = [] by unfold orderL; rw [hv]; rfl)
    rw [hv] at CV
    clear h
    go_enter Tryd.func80, Tryd.ntmps80
    go_wp2_with (go_at_call 63; (with_reducible refine CV.out.mono ?_); rintro e w1 ⟨rfl, b1⟩)
    go_ret
    exact ⟨_, rfl, by rw [hT.out]; exact World.ownsRow_nil _ _ _ _, b1⟩
  rw [hv] at CV
  by_cases hr0 : 0 ≤ r
  case neg =>
    have hT := Lib.hid (show orderL l r = [] by unfold orderL; simp [hr0])
    clear hv h
    go_enter Tryd.func80, Tryd.ntmps80
    go_wp2_with (go_at_call 63; (with_reducible refine CV.out.mono ?_); rintro e w1 ⟨rfl, b1⟩)
    go_ret
    exact ⟨_, rfl, by rw [hT.out]; exact World.ownsRow_nil _ _ _ _, b1⟩
  by_cases hr5 : r < 5
  case neg =>
    have hT := Lib.hid (show orderL l r = [] by unfold orderL; simp [hr5])
    clear hv h
    go_enter Tryd.func80, Tryd.ntmps80
    go_wp2_with (go_at_call 63; (with_reducible refine CV.out.mono ?_); rintro e w1 ⟨rfl, b1⟩)
    go_ret
    exact ⟨_, rfl, by rw [hT.out]; exact World.ownsRow_nil _ _ _ _, b1⟩
  have hT := Lib.hid (show orderL l r = ordK (K r) l by unfold orderL; simp [hv, hr0, hr5])
  have hr0' : ¬ r < 0 := by omega
  have hr5' : ¬ 5 ≤ r := by omega
  have h3 := (validM_iff.1 hv).2.2.1
  have h4 := (validM_iff.1 hv).2.2.2
  have hl1 := (validM_iff.1 hv).1
  have hl16 := (validM_iff.1 hv).2.1
  have hnd := Lib.hid (Asc.nodup h3)
  have hin := Lib.hid (Inj.on inj_K h4 r)
  have K1 := Lib.hid (fun W (hW : Below w.heap.size w W) => (clone_any L c w.heap.size l W ((h.more hB).below hW) hW.size hl1).mono fun _ _ h => own_open h hl1)
  have HT := Lib.hid ht
  have KS := Lib.hid (fun (W w2 : World) (g cap : Nat) (hW : H.Tab W) (hq : Below W.heap.size W w2) (hg : W.heap.size ≤ g) (hgl : g < w2.heap.size) (hown : w2.ownsRow W.heap.size 3 1 (.slice (some ⟨g, 0, none⟩) l.length cap) l.length (l.map intV)) =>
    sort_own (r := r) (b := w2.heap.size) (base := W.heap.size) (g := g) (cap := cap) (l := l) (w := w2.alloc (.cells #[.int .i64 r] 3)) ((hW.on hq).on ((Below.refl _ _).alloc (Nat.le_refl _) _)) (by simp) (by omega) (by simp) (Nat.lt_of_lt_of_le (H.cell_lt hW.s0) hg) (Nat.lt_of_lt_of_le (H.cell_lt hW.f0) hg) hnd.out hin.out (by omega) (hown.alloc _))
  have HLO := Lib.hid (len_ordK (k := K r) (l := l))
  generalize ordK (K r) l = o at *
  clear h hv h3 h4 ht
  obtain ⟨n, hn⟩ : ∃ n, n = l.length := ⟨_, rfl⟩
  rw [← hn] at CV K1 KS HLO ⊢
  clear hn hl1 hl16
  go_enter Tryd.func80, Tryd.ntmps80
  go_wp2_with (first
    | (go_at_call 63; (with_reducible refine CV.out.mono ?_); rintro e w1 ⟨rfl, b1⟩)
    | (go_at_call 88; (with_reducible refine (K1.out _ b1).mono ?_); rintro e w2 ⟨g, cap, rfl, hg, hown, hq⟩; (have hgl := (hown.lt g rfl).2))
    | (go_at_call 72; (with_reducible refine (byPos_any _ _).mono ?_); rintro e w3 ⟨rfl, rfl⟩)
    | (go_at_call 89; go_loud ((with_reducible refine (KS.out _ _ _ _ (HT.out.on b1) hq hg hgl hown).mono ?_); rintro e w4 ⟨rfl, hown3, hq3⟩))
    | fail)
  go_ret
  exact ⟨_, rfl, by rw [hT.out, HLO.out]; exact own_base hown3 b1.size, b1.trans ((hq.trans ((((Below.refl _ _).alloc (Nat.le_refl _) _).mono hq.size).trans hq3)).mono b1.size)⟩
end Go.Proofs.YtipipjbpjpdcbaaDoor.O

/- Package overlay: Observers and Subjects (their closures over the order of a ring, the loop over the rings). -/
namespace Go.Proofs.YtipipjbpjpdcbaaDoor.O
set_option linter.unusedVariables false
open Go.RowKit Go.Sort Go.Lib
open Go.Proofs.YtipipjbpjpdcbaaDoor.W
open Go.Proofs.YtipipjbpjpdcbaaDoor.V

/-! ### the place found by the search -/
theorem ahead_at {k : Int → Nat} {o : List Int} {id : Int} (h : SAsc k o) (hne : 1 ≤ o.length) :
    o.countP (fun x => decide (k x < k id)) ≤ o.length ∧ o[(o.countP (fun x => decide (k x < k id)) + o.length - 1) % o.length]? = some (aheadK k o id) := by
  obtain ⟨P, S, rfl, hP, hS⟩ := split_by k id h
  have hc : (P ++ S).countP (fun x => decide (k x < k id)) = P.length := by
    rw [List.countP_append, List.countP_eq_length.2 (fun x hx => by simpa using hP x hx), List.countP_eq_zero.2 (fun x hx => by simpa using hS x hx)]
    omega
  rw [hc, aheadK_split hP hS]
  have hn : (P ++ S).length = P.length + S.length := List.length_append
  refine ⟨by omega, ?_⟩
  rw [hn] at hne ⊢
  cases P with
  | nil =>
    have hs1 : 1 ≤ S.length := by simpa using hne
    have e : (([] : List Int).length + (([] : List Int).length + S.length) - 1) % (([] : List Int).length + S.length) = S.length - 1 := by
      simp only [List.length_nil, Nat.zero_add]
      exact Nat.mod_eq_of_lt (by omega)
    rw [e]
    have h2 : ([] ++ S : List Int)[S.length - 1]? = S.getLast? := by rw [List.nil_append, List.getLast?_eq_getElem?]
    rw [h2]
    unfold lastD
    rw [List.nil_append]
    cases hl : S.getLast? with
    | none => rw [List.getLast?_eq_none_iff] at hl; rw [hl] at hs1; simp at hs1
    | some u => rfl
  | cons x P =>
    have e : ((x :: P).length + ((x :: P).length + S.length) - 1) % ((x :: P).length + S.length) = P.length := by
      rw [show (x :: P).length + ((x :: P).length + S.length) - 1 = P.length + ((x :: P).length + S.length) by simp, Nat.add_mod_right]
      exact Nat.mod_eq_of_lt (by simp; omega)
    rw [e, List.getElem?_append_left (by simp), List.getLast?_eq_getElem?]
    have : (x :: P).length - 1 = P.length := by simp
    rw [this]
    obtain ⟨u, hu⟩ : ∃ u, (x :: P)[P.length]? = some u := ⟨_, List.getElem?_eq_getElem (by simp)⟩
    rw [hu]; rfl
theorem cfP_neg (r x y : Int) : decide (cfP r x y < 0) = decide (K r x < K r y) := ltP r x y
theorem dr0 (W : World) : ∃ n, W = W.drewN n := ⟨0, rfl⟩
theorem dr1 (W : World) : ∃ n, W.drew = W.drewN n := ⟨1, rfl⟩
/-- A search that gives a place p. -/
def SearchPost (w : World) (p : Nat) (e : Ending) (w' : World) : Prop := ∃ tf : Bool, e = .returned (.tuple #[.int .i64 (p : Int), .bool tf]) ∧ Below w.heap.size w w'
theorem below_grown {B : Nat} {w : World} (hB : B ≤ w.heap.size) (n : Nat) (os : Array Obj) : Below B w (grow (Sort.ahead w n) os) :=
  ⟨rfl, rfl, rfl, by simp [grow, Sort.ahead], fun k hk => by simp [grow, Sort.ahead, Array.getElem?_append_left (show k < w.heap.size by omega)]⟩
theorem search_own {r id : Int} {b base g cap : Nat} {o : List Int} {w : World} (ht : H.Tab w) (hc : w.cell? ⟨b, 0, none⟩ = some (.int .i64 r)) (hb : b ≠ g) (hbl : b < w.heap.size) (h0 : 0 < g) (h1 : 1 < g)
    (hs : SAsc (K r) o) (hl1 : 1 ≤ o.length) (hl : o.length ≤ 1000) (hown : w.ownsRow base 3 1 (.slice (some ⟨g, 0, none⟩) o.length cap) o.length (o.map intV)) :
    Calls Tryd.prog 71 #[.slice (some ⟨g, 0, none⟩) o.length cap, .int .i64 id, .func (.func 81) #[] #[.pointer (some ⟨b, 0, none⟩)]] w
      (SearchPost w (o.countP (fun x => decide (K r x < K r id)))) := by
  rcases hown.2 with ⟨h, _⟩ | ⟨g', cap', cur, hv, hbase, hgb, r1, r2, r3, r4⟩
  · cases h
  cases hv
  have hH : Holds intV w g 0 o.toArray := holds_of_blockI hgb (by have := r4; rw [Nat.mul_one] at this; exact this)
  have hgl : g < w.heap.size := (Array.getElem?_eq_some_iff.1 hgb).1
  have eg : ∀ args w, (callFunc 81 args).run Tryd.prog w = .ok (.enter 81 args) w := enters_of Tryd.func81 (by kernel_rfl) rfl
  have hcmp : CmpLaysT Tryd.prog 81 #[.pointer (some ⟨b, 0, none⟩)] intV (.int .i64 id) (fun x => cfP r x id) g 0 o.toArray.size w := fun m os dk _ x =>
    (less_any r x id b _ (Tab.far ht (below_sort (Nat.le_refl g) hgl) h0 h1) ((World.cell?_of_block (a := ⟨b, 0, none⟩) ((grownBy_sortedI (w := w) (g := g) (n := m) (os := os) dk).block b hbl (fun e => hb (Option.some.inj e)))).trans hc)).mono
      fun _ _ ⟨he, q, hq⟩ => ⟨he, q, #[], by rw [hq, grow_empty]⟩
  have hcon := Any.slices_BinarySearchFunc Tryd.searchL intV (fun _ => rfl) (.int .i64 id) (fun x => cfP r x id) 81 #[.pointer (some ⟨b, 0, none⟩)] g 0 cap o.toArray w eg hcmp hH hgl (by simp; omega)
    (fun a c hac hcn h => by
      have hcn' : c < o.length := by simpa using hcn
      have h2 := cfP_neg r o.toArray[c]! id
      have h3 := cfP_neg r o.toArray[a]! id
      simp only [decide_eq_decide] at h2 h3
      rw [h2] at h
      rw [h3]
      rw [getElem!_pos o.toArray a (by simp; omega)]
      rw [getElem!_pos o.toArray c (by simpa using hcn')] at h
      simp only [List.getElem_toArray] at h ⊢
      rcases Nat.lt_or_ge a c with hlt | hge
      · have := (List.pairwise_iff_getElem.1 hs) a c (by omega) hcn' hlt
        omega
      · have : a = c := by omega
        subst this
        exact h)
  change Calls Tryd.prog 71 _ _ _ at hcon
  rw [List.size_toArray] at hcon
  refine hcon.mono ?_
  rintro e w' ⟨rfl, n, os, rfl⟩
  refine ⟨_, by rw [show (fun x => decide (cfP r x id < 0)) = (fun x => decide (K r x < K r id)) from funext fun x => cfP_neg r x id], ?_⟩
  unfold sortWorld
  rw [putRow_self _ _ _ _ _ (show Holds intV (Sort.ahead w n) g 0 o.toArray from hH)]
  exact below_grown (Nat.le_refl _) n os
theorem own_at {w : World} {base g cap n j : Nat} {o : List Int} {z : Int} (hown : w.ownsRow base 3 1 (.slice (some ⟨g, 0, none⟩) n cap) n (o.map intV)) (hn : j < n) (hj : o[j]? = some z) : w.cell? ⟨g, j, none⟩ = some (.int .i64 z) := by
  have := hown.cellAt j (by omega)
  rw [this, List.getElem?_map, hj]; rfl
set_option maxRecDepth 1000000 in
set_option maxHeartbeats 2000000 in
theorem obs1_any (r id : Int) (bi base g cap : Nat) (l : List Int) (W : World) (hv : validM l = true) (ht : H.Tab W) (hc : W.cell? ⟨bi, 0, none⟩ = some (.int .i64 id)) (hbi : bi < W.heap.size)
    (h0 : 0 < base) (h1 : 1 < base) (hown : W.ownsRow base 3 1 (.slice (some ⟨g, 0, none⟩) l.length cap) l.length ((ordK (K r) l).map intV)) :
    Calls Tryd.prog 70 #[.int .i64 r, .slice (some ⟨g, 0, none⟩) l.length cap, .pointer (some ⟨bi, 0, none⟩)] W (PI W (aheadK (K r) (ordK (K r) l) id)) := by
  have hl1 := (validM_iff.1 hv).1
  have hl16 := (validM_iff.1 hv).2.1
  have hlo := len_ordK (k := K r) (l := l)
  have hs := sasc_of inj_K hv r
  have hA := ahead_at (id := id) hs (by omega)
  have hgl := (hown.lt g rfl).2
  have hgb := (hown.lt g rfl).1
  have KS := Lib.hid (fun (W1 W2 : World) (hW : Below W.heap.size W W1) (hW2 : W2 = W1.alloc (.cells #[.int .i64 r] 3)) (W3 : World) (hW3 : ∃ n, W3 = W2.drewN n) =>
    show Calls Tryd.prog 71 #[.slice (some ⟨g, 0, none⟩) l.length cap, .int .i64 id, .func (.func 81) #[] #[.pointer (some ⟨W1.heap.size, 0, none⟩)]] W3 (SearchPost W3 ((ordK (K r) l).countP (fun x => decide (K r x < K r id)))) from by
      obtain ⟨n, rfl⟩ := hW3
      subst hW2
      have hb : Below W.heap.size W ((W1.alloc (.cells #[.int .i64 r] 3)).drewN n) := below_drewN' (hW.alloc hW.size _) n
      have := search_own (r := r) (id := id) (b := W1.heap.size) (base := base) (g := g) (cap := cap) (o := ordK (K r) l) (w := (W1.alloc (.cells #[.int .i64 r] 3)).drewN n) (ht.on hb) (by show (W1.alloc _).cell? _ = _; simp) (by have := hW.size; omega) (by show W1.heap.size < (W1.alloc _).heap.size; simp) (by omega) (by omega) hs (by omega) (by omega) (by rw [hlo]; exact own_below hown hb)
      rw [hlo] at this
      exact this)
  have HO := Lib.hid hown
  have HFB := Lib.hid (fun (W1 : World) (hW : Below W.heap.size W W1) => show W1.cell? ⟨bi, 0, none⟩ = some (.int .i64 id) from (hW.cell (p := ⟨bi, 0, none⟩) hbi).trans hc)
  rw [hlo] at hA
  generalize (ordK (K r) l).countP (fun x => decide (K r x < K r id)) = p at *
  obtain ⟨hp, hpx⟩ := hA
  generalize aheadK (K r) (ordK (K r) l) id = z at *
  obtain ⟨n, hn⟩ : ∃ n, n = l.length := ⟨_, rfl⟩
  rw [← hn] at KS HO hp hpx hl1 hl16 ⊢
  obtain ⟨j, hj⟩ : ∃ j, j = (p + n - 1) % n := ⟨_, rfl⟩
  have hjn : j < n := by rw [hj]; exact Nat.mod_lt _ (by omega)
  rw [← hj] at hpx
  have HJ := Lib.hid (fun (W1 : World) (hW : Below W.heap.size W W1) => own_at (own_below HO.out hW) hjn hpx)
  have hmod : ((p : Int) + (n : Int) - 1).tmod (n : Int) = (j : Int) := by
    rw [IntWalk.rem_in _ _ (by omega), show (p : Int) + (n : Int) - 1 = ((p + n - 1 : Nat) : Int) by omega, hj, Int.natCast_emod]
  have w1 : IntKind.i64.wrap ((p : Int) + (n : Int)) = (p : Int) + (n : Int) := IntWalk.i64_in _ (by omega)
  have w2 : IntKind.i64.wrap ((p : Int) + (n : Int) - 1) = (p : Int) + (n : Int) - 1 := IntWalk.i64_in _ (by omega)
  have hn2 : ((n : Int) == 0) = false := beqF (by omega)
  have hjl : (j : Int) < (n : Int) := by omega
  have hj0 : (0 : Int) ≤ (j : Int) := by omega
  have hc' := hc
  clear hown hs hlo hv hj hpx hn hgl hgb hl1 h0 h1 hc
  have b0 := Below.refl W.heap.size W
  go_enter Tryd.func70, Tryd.ntmps70
  go_wp2_with fail
  go_region_held3 (fun w' => w'.cell? ⟨bi, 0, none⟩ = some (.int .i64 id))
    (first | exact HFB.out _ b4 | exact HFB.out _ b2 | exact HFB.out _ b2.drew | exact HFB.out _ b0.drew | exact HFB.out _ b0 | fail)
    (first
      | (go_at_call 72; (with_reducible refine (byPos_any _ _).mono ?_); rintro e w3 ⟨rfl, rfl⟩; (have b2 : Below W.heap.size W (W.alloc (.cells #[.int .i64 r] 3)) := b0.alloc (Nat.le_refl _) _))
      | (go_at_call 71; go_loud (with_reducible refine (KS.out _ _ b0 rfl _ (dr1 _)).mono ?_); rintro e w4 ⟨tf, rfl, hq4⟩; (have b4 : Below W.heap.size W w4 := b2.drew.trans (hq4.mono b2.size)))
      | fail)
  have hcj := HJ.out _ b4
  go_wp2_with fail
  go_ret
  exact ⟨rfl, b4⟩
end Go.Proofs.YtipipjbpjpdcbaaDoor.O

/- Package overlay: Subjects' closure, the loop over the rings, Observers, Subjects. -/
namespace Go.Proofs.YtipipjbpjpdcbaaDoor.O
set_option linter.unusedVariables false
open Go.RowKit Go.Sort Go.Lib
open Go.Proofs.YtipipjbpjpdcbaaDoor.W
open Go.Proofs.YtipipjbpjpdcbaaDoor.V

theorem own_ls {w : World} {base g n cap : Nat} {o : List Int} (hown : w.ownsRow base 3 1 (.slice (some ⟨g, 0, none⟩) n cap) n (o.map intV)) (hn : o.length = n) (h40 : o.length ≤ 1099511627776) (hel : ∀ x ∈ o, In64 x) : LS w w.heap.size o (some ⟨g, 0, none⟩) cap := by
  subst hn
  rcases hown.2 with ⟨h, _⟩ | ⟨g', cap', cur, hv, hbase, hgb, r1, r2, r3, r4⟩
  · cases h
  cases hv
  refine ⟨?_, h40, hel, r1⟩
  exact Reads.of_own (base := base) (e := 3) hown
theorem make5 : ∀ w, (Instr.makeSlice 22 (.int .i64 5) (.int .i64 5)).run Tryd.prog w = .ok (.slice (some ⟨w.heap.size, 0, none⟩) 5 5) (w.alloc (.cells #[.int .i64 0, .int .i64 0, .int .i64 0, .int .i64 0, .int .i64 0] 3)) := fun _ => by kernel_rfl
/-- The rings that are done, and zeros. -/
def partR (f : Int → Int) (k : Nat) : List Int := (rings.take k).map f ++ List.replicate (5 - k) 0
theorem partR_len {f : Int → Int} {k : Nat} (hk : k ≤ 5) : (partR f k).length = 5 := by
  unfold partR; rw [List.length_append, len_take hk, List.length_replicate]; omega
theorem partR_set {f : Int → Int} {k : Nat} (hk : k < 5) : ((partR f k).map intV).set k (.int .i64 (f k)) = (partR f (k + 1)).map intV := by
  match k, hk with
  | 0, _ => rfl
  | 1, _ => rfl
  | 2, _ => rfl
  | 3, _ => rfl
  | 4, _ => rfl
theorem partR_full {f : Int → Int} : partR f 5 = rings.map f := by unfold partR; simp [rings]
theorem partR_zero {f : Int → Int} : partR f 0 = [0, 0, 0, 0, 0] := rfl
theorem cell_some {w : World} {base g cap k n : Nat} {P : List Int} (hn : P.length = n) (hk : k < n) (h : w.ownsRow base 3 1 (.slice (some ⟨g, 0, none⟩) n cap) n (P.map intV)) : ∃ u, w.cell? ⟨g, k, none⟩ = some u := by
  have := h.cellAt k (by omega)
  rw [List.getElem?_map, List.getElem?_eq_getElem (by omega)] at this
  exact ⟨_, this⟩
set_option maxRecDepth 1000000 in
set_option maxHeartbeats 2000000 in
theorem onRings_any (q : Nat) (cb : Array Value) (f : Int → Int) (L : Option Addr) (c B : Nat) (l : List Int) (w : World) (h : LS w B l L c) (hB : B ≤ w.heap.size) (hv : validM l = true) (ht : H.Tab w)
    (eg : ∀ args w, (callFunc q args).run Tryd.prog w = .ok (.enter q args) w)
    (hp : ∀ (r : Int) (base g cap : Nat) (W : World), Below w.heap.size w W → w.heap.size ≤ base → 0 ≤ r → r < 5 → W.ownsRow base 3 1 (.slice (some ⟨g, 0, none⟩) l.length cap) l.length ((ordK (K r) l).map intV) →
      Calls Tryd.prog q (#[.int .i64 r, .slice (some ⟨g, 0, none⟩) l.length cap] ++ cb) W (PI W (f r))) :
    Calls Tryd.prog 69 #[.slice L l.length c, .func (.func q) #[] cb] w (OwnI w (rings.map f)) := by
  have HP := Lib.hid hp
  have hl1 := (validM_iff.1 hv).1
  have hl16 := (validM_iff.1 hv).2.1
  have CO := Lib.hid (fun (r : Int) (W : World) (hW : Below w.heap.size w W) (h0 : 0 ≤ r) (h5 : r < 5) =>
    (overOrder_any r L c w.heap.size l W ((h.more hB).below hW) hW.size ⟨by omega, by omega⟩ (ht.on hW)).mono fun _ _ h => own_open (show OwnI W (ordK (K r) l) _ _ by rw [← orderL_eq hv h0 h5]; exact h) (by rw [len_ordK]; exact hl1))
  have HLO := Lib.hid (fun r => len_ordK (k := K r) (l := l))
  have MK := Lib.hid make5
  have EG := Lib.hid eg
  obtain ⟨n, hn⟩ : ∃ n, n = l.length := ⟨_, rfl⟩
  simp only [len_ordK] at CO
  rw [← hn] at CO HP hl16 ⊢
  have hmk := MK.out
  have b1 : Below w.heap.size w (w.alloc (.cells #[.int .i64 0, .int .i64 0, .int .i64 0, .int .i64 0, .int .i64 0] 3)) := (Below.refl _ _).alloc (Nat.le_refl _) _
  have o1 : (w.alloc (.cells #[.int .i64 0, .int .i64 0, .int .i64 0, .int .i64 0, .int .i64 0] 3)).ownsRow w.heap.size 3 1 (.slice (some ⟨w.heap.size, 0, none⟩) 5 5) 5 ((partR f 0).map intV) :=
    ⟨by rw [List.length_map, partR_len (by omega)], .inr ⟨w.heap.size, 5, _, rfl, Nat.le_refl _, heap_alloc_new w _, Nat.le_refl _, by unfold maxLen; omega, rfl, by rw [partR_zero]; rfl⟩⟩
  have B1 := Lib.hid b1
  have O1 := Lib.hid o1
  clear h hv ht hp eg hl1 b1 o1 hn
  go_enter Tryd.func69, Tryd.ntmps69
  go_wp2_with fail
  generalize hw1 : w.alloc (.cells #[.int .i64 0, .int .i64 0, .int .i64 0, .int .i64 0, .int .i64 0] 3) = w1 at *
  clear hmk hw1
  go_loopg [6, 10] 5 (fun gk _ s10 wr => ∃ k : Nat, k + gk = 5 ∧ s10 = .int .i64 k ∧ Hid (wr.ownsRow w.heap.size 3 1 (.slice (some ⟨w.heap.size, 0, none⟩) 5 5) 5 ((partR f k).map intV)) ∧ Below w.heap.size w wr)
  case atStart => exact ⟨0, by omega, rfl, O1.out, B1.out⟩
  case round =>
    obtain ⟨k, hkg, rfl, HOWN, hbel⟩ := hrel
    obtain ⟨wo, rfl⟩ : ∃ wo : World, wo = wr := ⟨_, rfl⟩
    have hbs := hbel.size
    cases gk with
    | zero =>
      have hkz : ¬ ((k : Int) < 5) := by omega
      have HF := Lib.hid (show wo.ownsRow w.heap.size 3 1 (.slice (some ⟨w.heap.size, 0, none⟩) 5 5) (rings.map f).length ((rings.map f).map intV) from by
        have := HOWN.out
        rw [show k = 5 by omega, partR_full] at this
        exact this)
      clear HOWN
      go_wp2_with fail
      go_ret
      exact ⟨_, rfl, HF.out, hbel⟩
    | succ gk =>
      have hkz : (k : Int) < 5 := by omega
      have hk5 : k < 5 := by omega
      have CO2 := Lib.hid (CO.out (k : Int) wo hbel (by omega) (by omega))
      have HP2 := Lib.hid (HP.out (k : Int))
      have HSET := Lib.hid (partR_set (f := f) hk5)
      have egk := EG.out
      have HLEN := Lib.hid (partR_len (f := f) (k := k) (by omega))
      generalize f k = z at *
      go_wp2_with (first
        | (go_at_call 80; (with_reducible refine CO2.out.mono ?_); rintro e w3 ⟨g, cap, rfl, hg, hown3, hq3⟩; (have hb3 : Below w.heap.size w w3 := hbel.trans (hq3.mono hbs)))
        | (go_at_fn q; go_loud (with_reducible refine (HP2.out _ g cap w3 hb3 hbs (by omega) (by omega) hown3).mono ?_); rintro e w4 ⟨rfl, hq4⟩; (have hb4 : Below wo.heap.size wo w4 := hq3.trans (hq4.mono hq3.size)); (have ho4 := own_below HOWN.out hb4); (have hst := Lib.hid (ho4.stored k (.int .i64 z))); (have hfz := ho4.frozenAt k); obtain ⟨u4, hcu⟩ := cell_some HLEN.out hk5 ho4; clear ho4)
        | fail)
      go_roundg gk
      case measure => omega
      case rel =>
        refine ⟨k + 1, by omega, by go_num, ?_, ?_⟩
        · show World.ownsRow _ _ _ _ _ _ _
          rw [← HSET.out]
          exact hst.out.1
        · exact (hbel.trans (hb4.mono hbs)).setCell (Nat.le_refl _) _
def lonely (l : List Int) (id : Int) : Bool := decide (l = [id])
set_option maxRecDepth 1000000 in
set_option maxHeartbeats 2000000 in
theorem alone_any (id : Int) (L : Option Addr) (c B : Nat) (l : List Int) (w : World) (h : LS w B l L c) :
    Calls Tryd.prog 68 #[.slice L l.length c, .int .i64 id] w fun e w' => e = .returned (.bool (lonely l id)) ∧ w = w' := by
  by_cases h1 : l.length = 1
  · obtain ⟨x0, hx0⟩ : ∃ x, l[0]? = some x := ⟨_, List.getElem?_eq_getElem (by omega)⟩
    obtain ⟨ad, u, rfl, had, hx, hcell⟩ := h.rd.at_ (k := 0) (by omega)
    have hux : u = .int .i64 x0 := by simp [hx0, intV] at hx; exact hx.symm
    rw [hux] at hcell
    have hcell0 : w.cell? ad = some (.int .i64 x0) := by simpa [Addr.add] using hcell
    have hT := Lib.hid (show lonely l id = (x0 == id) by
      unfold lonely
      rw [one_of h1 hx0, Bool.eq_iff_iff]; simp)
    have f1 : ((l.length : Int) == 1) = true := beqT (by omega)
    have f0 : (0 : Int) < (l.length : Int) := by omega
    clear h hx hcell hux hx0
    generalize lonely l id = b at *
    clear h1
    go_enter Tryd.func68, Tryd.ntmps68
    go_wp2_with fail
    go_ret
    exact ⟨by rw [hT.out]; rfl, rfl⟩
  · have hT := Lib.hid (show lonely l id = false by
      unfold lonely
      exact decide_eq_false fun e => h1 (by rw [e]; rfl))
    have f1 : ((l.length : Int) == 1) = false := beqF (by omega)
    generalize lonely l id = b at *
    clear h h1
    go_enter Tryd.func68, Tryd.ntmps68
    go_wp2_with fail
    go_ret
    exact ⟨by rw [hT.out]; rfl, rfl⟩
theorem possible_any (id : Int) (w : World) (h : In64 id) :
    Calls Tryd.prog 67 #[.int .i64 id] w fun e w' => e = .returned (.bool (isID id)) ∧ w = w' := by
  obtain ⟨n0, n1⟩ := h
  by_cases h1 : 1 ≤ id
  · by_cases h2 : id ≤ 1000
    · have ht := Lib.hid (show isID id = true by simp [isID, h1, h2])
      generalize isID id = r at *
      go_enter Tryd.func67, Tryd.ntmps67
      go_wp2
      go_ret
      exact ⟨by rw [ht.out]; rfl, rfl⟩
    · have ht := Lib.hid (show isID id = false by simp [isID, h2])
      generalize isID id = r at *
      go_enter Tryd.func67, Tryd.ntmps67
      go_wp2
      go_ret
      exact ⟨by rw [ht.out]; rfl, rfl⟩
  · have ht := Lib.hid (show isID id = false by simp [isID, h1])
    generalize isID id = r at *
    go_enter Tryd.func67, Tryd.ntmps67
    go_wp2
    go_ret
    exact ⟨by rw [ht.out]; rfl, rfl⟩
set_option maxRecDepth 1000000 in
set_option maxHeartbeats 2000000 in
theorem overObservers_any (id : Int) (L : Option Addr) (c B : Nat) (l : List Int) (w : World) (h : LS w B l L c) (hB : B ≤ w.heap.size) (hid : In64 id) (ht : H.Tab w) :
    Calls Tryd.prog 50 #[.slice L l.length c, .int .i64 id] w (OwnI w (obsL K l id)) := by
  have bx := (Below.refl w.heap.size w).alloc (Nat.le_refl _) (.cells #[.int .i64 id] 3)
  have HS := Lib.hid (fun W (hW : Below w.heap.size w W) => ((h.more hB).below hW))
  have CV := Lib.hid (fun W (hW : Below w.heap.size w W) => viewValidM_any L c w.heap.size l W (HS.out W hW) hW.size)
  have CP := Lib.hid (fun W => possible_any id W hid)
  have CA := Lib.hid (fun W (hW : Below w.heap.size w W) => alone_any id L c w.heap.size l W (HS.out W hW))
  have BX := Lib.hid bx
  have HC := Lib.hid (fun W (hW : Below (w.alloc (.cells #[.int .i64 id] 3)).heap.size (w.alloc (.cells #[.int .i64 id] 3)) W) => show W.cell? ⟨w.heap.size, 0, none⟩ = some (.int .i64 id) from (hW.cell (p := ⟨w.heap.size, 0, none⟩) (by simp)).trans (by simp))
  have HT := Lib.hid ht
  clear bx h ht
  cases hv : validM l
  · have hT := Lib.hid (show obsL K l id = [] by unfold obsL; rw [hv]; rfl)
    rw [hv] at CV
    go_enter Tryd.func50, Tryd.ntmps50
    go_wp2_with (go_at_call 63; (with_reducible refine (CV.out _ BX.out).mono ?_); rintro e w1 ⟨rfl, b1⟩)
    go_ret
    exact ⟨_, rfl, by rw [hT.out]; exact World.ownsRow_nil _ _ _ _, BX.out.trans (b1.mono BX.out.size)⟩
  rw [hv] at CV
  cases hi : isID id
  · have hT := Lib.hid (show obsL K l id = [] by unfold obsL; rw [hv, hi]; rfl)
    rw [hi] at CP
    go_enter Tryd.func50, Tryd.ntmps50
    go_wp2_with (first
      | (go_at_call 63; (with_reducible refine (CV.out _ BX.out).mono ?_); rintro e w1 ⟨rfl, b1⟩; (have hcx := HC.out _ b1))
      | (go_at_call 67; (with_reducible refine (CP.out _).mono ?_); rintro e w2 ⟨rfl, rfl⟩)
      | fail)
    go_ret
    exact ⟨_, rfl, by rw [hT.out]; exact World.ownsRow_nil _ _ _ _, BX.out.trans (b1.mono BX.out.size)⟩
  rw [hi] at CP
  cases hal : lonely l id
  case true =>
    have hT := Lib.hid (show obsL K l id = [] by unfold obsL; rw [hv, hi]; unfold lonely at hal; rw [hal]; rfl)
    rw [hal] at CA
    go_enter Tryd.func50, Tryd.ntmps50
    go_wp2_with (first
      | (go_at_call 63; (with_reducible refine (CV.out _ BX.out).mono ?_); rintro e w1 ⟨rfl, b1⟩; (have hcx := HC.out _ b1); (have b1w : Below w.heap.size w w1 := BX.out.trans (b1.mono BX.out.size)))
      | (go_at_call 67; (with_reducible refine (CP.out _).mono ?_); rintro e w2 ⟨rfl, rfl⟩)
      | (go_at_call 68; (with_reducible refine (CA.out _ b1w).mono ?_); rintro e w2 ⟨rfl, rfl⟩)
      | fail)
    go_ret
    exact ⟨_, rfl, by rw [hT.out]; exact World.ownsRow_nil _ _ _ _, b1w⟩
  rw [hal] at CA
  have hne : ¬ l = [id] := by unfold lonely at hal; simpa using hal
  have HO := Lib.hid (obsL_eq (K := K) hv hi hne)
  have e0 : 0 < w.heap.size := H.cell_lt HT.out.s0
  have e1 : 1 < w.heap.size := H.cell_lt HT.out.f0
  have eg : ∀ args w, (callFunc 70 args).run Tryd.prog w = .ok (.enter 70 args) w := enters_of Tryd.func70 (by kernel_rfl) rfl
  have CR := Lib.hid (fun W (hW : Below (w.alloc (.cells #[.int .i64 id] 3)).heap.size (w.alloc (.cells #[.int .i64 id] 3)) W) (hWw : Below w.heap.size w W) =>
    onRings_any 70 #[.pointer (some ⟨w.heap.size, 0, none⟩)] (fun r => aheadK (K r) (ordK (K r) l) id) L c w.heap.size l W (HS.out W hWw) hWw.size hv (HT.out.on hWw) eg
      (fun r base g cap W2 hW2 hb h0 h5 hown => obs1_any r id w.heap.size base g cap l W2 hv (HT.out.on (hWw.trans (hW2.mono hWw.size)))
        (HC.out _ (hW.trans (hW2.mono hW.size))) (by have := hW.size; have := hW2.size; simp at *; omega) (by have := hWw.size; omega) (by have := hWw.size; omega) hown))
  clear hv hi hal hne eg e0 e1
  generalize hf : (fun r => aheadK (K r) (ordK (K r) l) id) = f at *
  go_enter Tryd.func50, Tryd.ntmps50
  go_wp2_with (first
    | (go_at_call 63; (with_reducible refine (CV.out _ BX.out).mono ?_); rintro e w1 ⟨rfl, b1⟩; (have hcx := HC.out _ b1); (have b1w : Below w.heap.size w w1 := BX.out.trans (b1.mono BX.out.size)))
    | (go_at_call 67; (with_reducible refine (CP.out _).mono ?_); rintro e w2 ⟨rfl, rfl⟩)
    | (go_at_call 68; (with_reducible refine (CA.out _ b1w).mono ?_); rintro e w2 ⟨rfl, rfl⟩)
    | (go_at_call 69; (with_reducible refine (CR.out _ b1 b1w).mono ?_); rintro e w3 ⟨v, rfl, ho3, b3⟩)
    | fail)
  go_ret
  exact ⟨_, rfl, by rw [HO.out]; exact own_base ho3 b1w.size, b1w.trans (b3.mono b1w.size)⟩
end Go.Proofs.YtipipjbpjpdcbaaDoor.O

/- Package overlay: all its contracts. -/
