/- Package alerts: pair, aboutNumber, Decode. -/
import Derived.Test.YtojhdljbpmjigaaGreatDoorAP8
namespace Go.Proofs.YtojhdljbpmjigaaGreatDoor.Al
set_option linter.unusedVariables false
set_option linter.unusedSimpArgs false
open Go.RowKit
open Go.Proofs.YtojhdljbpmjigaaGreatDoor.W
open Go.Proofs.YtojhdljbpmjigaaGreatDoor.V
open Go.Proofs.YtojhdljbpmjigaaGreatDoor.O
open Go.Proofs.YtojhdljbpmjigaaGreatDoor.Pb (Alr alrC alrsC len_alrsC alrsC_app alrsC_one alrsC_get alrsC_cell alrInfo step_append_alr reads_blk two_blk)
open Go.Lib (byteCells byteCells_length byteCells_append)

theorem results_tmp4 {fn : Func} {t u v x : Tmp} (h : fn.results = #[.tmp t, .tmp u, .tmp v, .tmp x]) (tmps : Array Value) (P : Program) (w : World) :
    (results fn tmps).run P w = .ok (.tuple #[tmps.getD t undef, tmps.getD u undef, tmps.getD v undef, tmps.getD x undef]) w := by
  simp [results, h]
/-- Two numbers read. -/
def rdP (r : List UInt8) : Nat × Nat × Nat × Nat :=
  if (rdU r).2.2 ≠ 0 then (0, 0, 0, (rdU r).2.2)
  else if (rdU (r.drop (rdU r).2.1)).2.2 ≠ 0 then (0, 0, 0, (rdU (r.drop (rdU r).2.1)).2.2)
  else ((rdU r).1, (rdU (r.drop (rdU r).2.1)).1, (rdU r).2.1 + (rdU (r.drop (rdU r).2.1)).2.1, 0)
set_option maxRecDepth 1000000 in
set_option maxHeartbeats 4000000 in
theorem alPair_any (A : Option Addr) (c B n : Nat) (bs : List UInt8) (w : World) (hr : Reads w B 1 A n (byteCells bs)) (hn : n = bs.length) (hcap : n ≤ c) (hl : n ≤ 1099511627776) (x y m e : Nat) (hq : rdP bs = (x, y, m, e)) :
    Calls Tryz.prog 30 #[.slice A n c] w fun en w' => en = .returned (.tuple #[.int .u64 (x : Int), .int .u64 (y : Int), .int .i64 (m : Int), .int .i64 (e : Int)]) ∧ w = w' := by
  obtain ⟨⟨x1, n1, e1⟩, hx⟩ : ∃ r, rdU bs = r := ⟨_, rfl⟩
  have K1 := Lib.hid (show Calls Tryz.prog 29 #[.slice A n c] w _ from by
    have := uint_any A c B bs w (by rw [← hn]; exact hr) (by omega)
    rw [hx, ← hn] at this
    exact this)
  unfold rdP at hq
  rw [hx] at hq
  simp only [] at hq
  by_cases he1 : e1 = 0
  case neg =>
    rw [if_pos he1] at hq
    obtain ⟨rfl, rfl, rfl, rfl⟩ : x = 0 ∧ y = 0 ∧ m = 0 ∧ e = e1 := by simp at hq; omega
    have hb : ((e : Int) != 0) = true := bneT (by omega)
    clear hx he1 hn
    go_enter Tryz.func30, Tryz.ntmps30
    go_wp2_with (go_at_call 29; go_loud ((with_reducible refine K1.out.mono ?_); rintro e w3 ⟨rfl, rfl⟩))
    (try simp only [Exit.inBlock, Exit.then])
    refine bodyPost_ret (results_tmp4 rfl _ _ _) rfl ?_
    exact ⟨rfl, rfl⟩
  subst he1
  rw [if_neg (by simp)] at hq
  obtain ⟨hx1, hx2, hx3, hx4⟩ := rdU_used hx
  obtain ⟨A2, hs2, hr2⟩ := slice_from (k := n1) (ki := (n1 : Int)) hr hcap (by omega) rfl
  obtain ⟨⟨y1, n2, e2⟩, hy⟩ : ∃ r, rdU (bs.drop n1) = r := ⟨_, rfl⟩
  have hdl : (bs.drop n1).length = n - n1 := by rw [List.length_drop, hn]
  have K2 := Lib.hid (show Calls Tryz.prog 29 #[.slice A2 (n - n1) (c - n1)] w _ from by
    have := uint_any A2 (c - n1) B (bs.drop n1) w (by rw [hdl]; exact hr2) (by omega)
    rw [hy, hdl] at this
    exact this)
  rw [hy] at hq
  simp only [] at hq
  by_cases he2 : e2 = 0
  case neg =>
    rw [if_pos he2] at hq
    obtain ⟨rfl, rfl, rfl, rfl⟩ : x = 0 ∧ y = 0 ∧ m = 0 ∧ e = e2 := by simp at hq; omega
    have hb : ((e : Int) != 0) = true := bneT (by omega)
    clear hx hy he2 hr2 hn hdl
    go_enter Tryz.func30, Tryz.ntmps30
    go_wp2_with (first
      | (go_at_call 29; (with_reducible refine K1.out.mono ?_); rintro e w3 ⟨rfl, rfl⟩)
      | (go_at_call 29; (with_reducible refine K2.out.mono ?_); rintro e w3 ⟨rfl, rfl⟩)
      | fail)
    (try simp only [Exit.inBlock, Exit.then])
    refine bodyPost_ret (results_tmp4 rfl _ _ _) rfl ?_
    exact ⟨rfl, rfl⟩
  subst he2
  rw [if_neg (by simp)] at hq
  obtain ⟨hy1, hy2, hy3, hy4⟩ := rdU_used hy
  cases hq
  have wn : IntKind.i64.wrap ((n1 : Int) + (n2 : Int)) = (n1 : Int) + (n2 : Int) := IntWalk.i64_in _ (by omega)
  clear hx hy hr2 hn hdl
  go_enter Tryz.func30, Tryz.ntmps30
  go_wp2_with (first
    | (go_at_call 29; (with_reducible refine K1.out.mono ?_); rintro e w3 ⟨rfl, rfl⟩)
    | (go_at_call 29; (with_reducible refine K2.out.mono ?_); rintro e w3 ⟨rfl, rfl⟩)
    | fail)
  (try simp only [Exit.inBlock, Exit.then])
  refine bodyPost_ret (results_tmp4 rfl _ _ _) rfl ?_
  exact ⟨rfl, rfl⟩

/-- The alerts about a decoded number. -/
def abN (num : Int) (l : List Int) (x : Nat) : List Alr := if 1000 < x then [] else aboL K num l (x : Int)
theorem abN_len {num : Int} {l : List Int} {x : Nat} : (abN num l x).length ≤ 5 := by
  unfold abN
  split
  · simp
  · exact aboL_len
theorem abN_el {num : Int} {l : List Int} {x : Nat} (h : In64 num) : ∀ a ∈ abN num l x, El a := by
  unfold abN
  split
  · intro a ha; cases ha
  · exact aboL_el h
set_option maxRecDepth 1000000 in
set_option maxHeartbeats 4000000 in
theorem alAboutN_any (num : Int) (l : List Int) (A : Option Addr) (c B x : Nat) (w : World) (h : VW w B num l A c) (hB : B ≤ w.heap.size) (ht : H.Tab w) :
    Calls Tryz.prog 31 #[.agg #[.int .i64 num, .slice A l.length c], .int .u64 (x : Int)] w (OwnS w (abN num l x)) := by
  have hb0 := (Below.refl w.heap.size w).alloc (Nat.le_refl _) (.cells #[.int .i64 num, .slice A l.length c] 24)
  have hz := Blk.new w 24 #[.int .i64 num, .slice A l.length c]
  have B0 := Lib.hid hb0
  clear hb0
  by_cases hx : 1000 < x
  · have HP := Lib.hid (show abN num l x = [] from if_pos hx)
    have hxi : (1000 : Int) < (x : Int) := by omega
    clear hx h ht hz
    generalize l.length = n at *
    go_enter Tryz.func31, Tryz.ntmps31
    go_wp2_with fail
    go_ret
    rw [HP.out]
    exact ⟨_, rfl, World.ownsRow_nil _ _ _ _, B0.out⟩
  · have HP := Lib.hid (show abN num l x = aboL K num l (x : Int) from if_neg hx)
    have KA := Lib.hid (fun W (hW : Below w.heap.size w W) => (alAbout_any num l A c w.heap.size (x : Int) W ((h.more hB).below hW) hW.size ⟨by omega, by omega⟩ (ht.on hW)))
    have hxi : ¬ (1000 : Int) < (x : Int) := by omega
    have wx : IntKind.i64.wrap (x : Int) = (x : Int) := IntWalk.i64_in _ (by omega)
    rw [HP.out]
    generalize aboL K num l (x : Int) = P at *
    clear hx h ht HP
    generalize l.length = n at *
    go_enter Tryz.func31, Tryz.ntmps31
    go_upto_region 1 with fail
    generalize w.alloc (.cells #[.int .i64 num, .slice A n c] 24) = w0 at *
    have p0 := blk2 hz
    go_wp2_with (go_at_call 34; (with_reducible refine (KA.out _ B0.out).mono ?_); rintro e w4 ⟨v4, rfl, ho4, b4⟩)
    go_ret
    exact ⟨_, rfl, own_base ho4 B0.out.size, below2 B0.out b4⟩

theorem fol_match {O : List Alr} {a : Alr} : (match O.getLast? with | none => false | some p => !(lessA p a)) = !(folA O a) := by
  unfold folA
  cases O.getLast? <;> rfl
/-- One alert read, as the program reads it. -/
theorem items_none {num : Int} {l : List Int} {k at_ n1 n2 x y : Nat} {O : List Alr} {bs : List UInt8} (hv : validV num l = true) (h1 : rdU (bs.drop at_) = (x, n1, 0)) (h2 : rdU (bs.drop (at_ + n1)) = (y, n2, 0)) (hp : (abN num l x)[y]? = none) :
    rdItems K num l (k + 1) O at_ (bs.drop at_) = ([], 0, 3) := by
  rw [rdItems_at h1 h2, if_neg (by simp), if_neg (by simp)]
  by_cases hb : 1000 < x ∨ 5 ≤ y
  · rw [if_pos hb]
  rw [if_neg hb]
  unfold abN aboL at hp
  rw [if_neg (by omega), if_pos hv, aboF_get] at hp
  cases ho : (obsL K l (x : Int))[y]? with
  | none => rfl
  | some z => rw [ho] at hp; cases hp
theorem items_some {num : Int} {l : List Int} {k at_ n1 n2 x y : Nat} {O : List Alr} {bs : List UInt8} {a : Alr} (hv : validV num l = true) (h1 : rdU (bs.drop at_) = (x, n1, 0)) (h2 : rdU (bs.drop (at_ + n1)) = (y, n2, 0)) (hp : (abN num l x)[y]? = some a) :
    rdItems K num l (k + 1) O at_ (bs.drop at_) = if folA O a then rdItems K num l k (O ++ [a]) (at_ + n1 + n2) (bs.drop (at_ + n1 + n2)) else ([], 0, 3) := by
  have h5 : y < 5 := by
    have := (List.getElem?_eq_some_iff.1 hp).1
    have := abN_len (num := num) (l := l) (x := x)
    omega
  rw [rdItems_at h1 h2, if_neg (by simp), if_neg (by simp)]
  unfold abN at hp
  by_cases hx : 1000 < x
  · rw [if_pos hx] at hp; cases hp
  rw [if_neg hx] at hp
  rw [if_neg (by omega)]
  unfold aboL at hp
  rw [if_pos hv, aboF_get] at hp
  cases ho : (obsL K l (x : Int))[y]? with
  | none => rw [ho] at hp; cases hp
  | some z =>
    rw [ho] at hp
    simp at hp
    subst hp
    show (if (match O.getLast? with | none => false | some p => !(lessA p ⟨num, (y : Int), z, (x : Int)⟩)) then ([], 0, 3) else _) = _
    rw [fol_match]
    cases folA O ⟨num, (y : Int), z, (x : Int)⟩ <;> rfl
theorem rdP_no {r : List UInt8} {x y m e : Nat} (h : rdP r = (x, y, m, e)) (he : e ≠ 0) : x = 0 ∧ y = 0 ∧ m = 0 ∧ (rdU r).2.2 = e ∨ (rdU r).2.2 = 0 ∧ (rdU (r.drop (rdU r).2.1)).2.2 = e := by
  unfold rdP at h
  split at h
  · cases h; left; exact ⟨rfl, rfl, rfl, rfl⟩
  · rename_i h1
    split at h
    · cases h; right; exact ⟨by omega, rfl⟩
    · cases h; exact absurd rfl he
theorem rdP_ok {r : List UInt8} {x y m : Nat} (h : rdP r = (x, y, m, 0)) : ∃ n1 n2, rdU r = (x, n1, 0) ∧ rdU (r.drop n1) = (y, n2, 0) ∧ m = n1 + n2 := by
  unfold rdP at h
  split at h
  · rename_i h1; simp at h; omega
  · rename_i h1
    split at h
    · rename_i h2; simp at h; omega
    · rename_i h2
      cases h
      refine ⟨(rdU r).2.1, (rdU (r.drop (rdU r).2.1)).2.1, ?_, ?_, rfl⟩
      · have : (rdU r).2.2 = 0 := by omega
        rw [← this]
      · have : (rdU (r.drop (rdU r).2.1)).2.2 = 0 := by omega
        rw [← this]
theorem items_err {num : Int} {l : List Int} {k at_ x y m e : Nat} {O : List Alr} {bs : List UInt8} (h : rdP (bs.drop at_) = (x, y, m, e)) (he : e ≠ 0) : rdItems K num l (k + 1) O at_ (bs.drop at_) = ([], 0, e) := by
  rw [rdItems]
  rcases rdP_no h he with ⟨_, _, _, h1⟩ | ⟨h1, h2⟩
  · rw [if_pos (by omega), h1]
  · rw [if_neg (by omega), if_pos (by omega), h2]
end Go.Proofs.YtojhdljbpmjigaaGreatDoor.Al
