/- Layer 5: what ProbeSilent and ProbeOnce lean on: views of whatever length, rows of alerts, the detector behind rounds. -/
import Derived.Test.YtihgbadglaogdaaDoorBTwo
namespace Go.Proofs.YtihgbadglaogdaaDoor.Pb
set_option linter.unusedVariables false
open Go.RowKit
open Go.Proofs.YtihgbadglaogdaaDoor.W
open Go.Proofs.YtihgbadglaogdaaDoor.V
open Go.Proofs.YtihgbadglaogdaaDoor.O

set_option maxRecDepth 100000 in
set_option maxHeartbeats 400000 in
theorem refValidM_long (L : Option Addr) (c : Nat) (l : List Int) (w : World) (hl : 16 < l.length) :
    Calls Tryd.prog 40 #[.slice L l.length c] w (PB w false) := by
  have h1 : (1 : Int) ≤ (l.length : Int) := by omega
  have h2 : ¬ (l.length : Int) ≤ 16 := by omega
  go_enter Tryd.func40, Tryd.ntmps40
  go_wp2_with fail
  go_ret
  exact ⟨rfl, Below.refl _ _⟩
set_option maxRecDepth 100000 in
set_option maxHeartbeats 400000 in
theorem refValid_long (num : Int) (l : List Int) (A : Option Addr) (c : Nat) (w : World) (hn : In64 num) (hl : 16 < l.length) :
    Calls Tryd.prog 27 #[.agg #[.int .i64 num, .slice A l.length c]] w (PB w false) := by
  have hb0 := (Below.refl w.heap.size w).alloc (Nat.le_refl _) (.cells #[.int .i64 num, .slice A l.length c] 31)
  have CM := Lib.hid (fun W => refValidM_long A c l W hl)
  obtain ⟨n1, n2⟩ := hn
  clear hl
  by_cases h1 : 0 ≤ num
  · by_cases h2 : num ≤ 1099511627776
    · go_enter Tryd.func27, Tryd.ntmps27
      go_wp2_with (go_at_call 40; (with_reducible refine (CM.out _).mono ?_); rintro e w1 ⟨rfl, q⟩)
      go_ret
      exact ⟨rfl, hb0.trans (q.mono hb0.size)⟩
    · clear CM
      go_enter Tryd.func27, Tryd.ntmps27
      go_wp2_with fail
      go_ret
      exact ⟨rfl, hb0⟩
  · clear CM
    go_enter Tryd.func27, Tryd.ntmps27
    go_wp2_with fail
    go_ret
    exact ⟨rfl, hb0⟩
/-- Valid, of a view of whatever length. -/
theorem refValid_all (num : Int) (l : List Int) (A : Option Addr) (c B : Nat) (w : World) (hn : In64 num) (hr : Reads w B 1 A l.length (l.map intV)) (hel : ∀ x ∈ l, In64 x) (hc : l.length ≤ c) (hB : B ≤ w.heap.size) :
    Calls Tryd.prog 27 #[.agg #[.int .i64 num, .slice A l.length c]] w (PB w (validV num l)) := by
  by_cases h : l.length ≤ 16
  · exact refValid_any num l A c B w ⟨hn, hr, by omega, hel, hc⟩ hB
  · have : validV num l = false := by
      rw [← Bool.not_eq_true, validV_iff]
      intro hv
      have := (validM_iff.1 hv.2.2).2.1
      omega
    rw [this]
    exact refValid_long num l A c w hn (by omega)

/-- A row of alerts appended to one of the call's own. -/
theorem wp_append_alrs {ops : Array Oper} {rest : List Oper} {o : Oper} {a : Act} {Q : Exit → Act → World → Prop} (W : World) (hgd : o.guard = none) (s x : Operand)
    (ho : o.op = .call { callee := .builtin .append, args := #[s, x], argTypes := #[39, 39] }) (base : Nat) (v : Value) (es news : List Alr) (B m c : Nat) (A : Option Addr) (hs : a.eval s = v)
    (hown : W.ownsRow base 52 4 v es.length (alrsC es)) (hx : a.eval x = .slice A m c) (hr : Reads W B 4 A m (alrsC news)) (hm : news.length = m)
    (hl : es.length + m ≤ 1099511627776) (hbase : base ≤ W.heap.size)
    (h : ∀ v' w', w'.ownsRow base 52 4 v' (es ++ news).length (alrsC (es ++ news)) → Below base W w' → W.grownBy w' v.ownBlock → wpList Tryd.prog ops Q rest (a.put o.dst v') w') : wpList Tryd.prog ops Q (o :: rest) a W := by
  subst hm
  obtain ⟨i0, hi, hz0, hz1, hz2⟩ := info_parts alrInfo
  refine wpList_append_any W hgd s x 39 ho base 52 i0 _ 4 32 Tryd.underlying39 hi hz0 hz1 hz2 rfl (by decide) v _ _ hs hown B A news.length c _ hx hr (alrsC_cell _) ?_ ?_ hbase ?_
  · unfold maxLen; omega
  · omega
  · intro v' w' h1 h2 _
    have h3 : w'.ownsRow base 52 4 v' (es ++ news).length (alrsC (es ++ news)) := by
      rw [alrsC_app, List.length_append]
      exact h1
    exact h v' w' h3 ((Below.refl _ _).grown h2 hbase fun q hq => (hown.lt q hq).1) h2

/-! ### the detector behind rounds in which all but one were heard -/
def dS (num : Int) (l : List Int) (me gone : Int) (i k : Nat) : Dt := ⟨me, num, l, hearAll (l.take k) gone (stS gone i (newE K l me))⟩
theorem okD_hearAll {num me gone : Int} {l : List Int} : ∀ {ms : List Int} {es : List Edge}, okD K num l me es = true → okD K num l me (hearAll ms gone es) = true
  | [], _, h => h
  | m :: ms, es, h => by
    show okD K num l me (hearAll ms gone (if m = gone then es else hear m es)) = true
    refine okD_hearAll ?_
    split
    · exact h
    · exact okD_hear h
section
variable {num me gone : Int} {l : List Int}
theorem hearS_all (hv : validM l = true) (i : Nat) : hearAll l gone (stS gone i (newE K l me)) = heardS l gone i (newE K l me) := heard_eq fun e he => (subj_mem inj_K hv he).1
theorem okSt (hk : okN num l me = true) (hv : validM l = true) : ∀ i, okD K num l me (stS gone i (newE K l me)) = true
  | 0 => by unfold newE; rw [st_zero]; exact okD_new hk
  | i + 1 => by rw [← tick_S (ms := l), ← hearS_all hv]; exact okD_tick (okD_hearAll (okSt hk hv i))
theorem okS (hk : okN num l me = true) (hv : validM l = true) (i k : Nat) : (dS num l me gone i k).ok = true := okD_hearAll (okSt hk hv i)
theorem newS (hk : okN num l me = true) : Dt.new num l me = dS num l me gone 0 0 := by
  unfold Dt.new dS
  rw [hk]
  show (⟨me, num, l, newE K l me⟩ : Dt) = ⟨me, num, l, stS gone 0 (newE K l me)⟩
  congr 1
  unfold newE; rw [st_zero]
theorem hearS_yes (hk : okN num l me = true) (hv : validM l = true) {i k : Nat} {x : Int} (hx : l[k]? = some x) (hne : x ≠ gone) : (dS num l me gone i k).hear x = dS num l me gone i (k + 1) := by
  unfold Dt.hear
  rw [okS hk hv]
  unfold dS
  rw [hearAll_snoc hx, if_neg hne]; rfl
theorem hearS_no {i k : Nat} {x : Int} (hx : l[k]? = some x) (he : x = gone) : dS num l me gone i (k + 1) = dS num l me gone i k := by
  unfold dS
  rw [hearAll_snoc hx, if_pos he]
theorem tickS (hk : okN num l me = true) (hv : validM l = true) (i : Nat) : (dS num l me gone i l.length).tick = dS num l me gone (i + 1) 0 := by
  unfold Dt.tick
  rw [okS hk hv]
  unfold dS
  rw [List.take_length, hearS_all hv]
  show (⟨me, num, l, tick (heardS l gone i (newE K l me))⟩ : Dt) = ⟨me, num, l, stS gone (i + 1) (newE K l me)⟩
  rw [tick_S]
theorem alrS (hk : okN num l me = true) (hv : validM l = true) (i : Nat) : gotS num me gone i (newE K l me) ++ (dS num l me gone i l.length).alr = gotS num me gone (i + 1) (newE K l me) := by
  unfold Dt.alr
  rw [okS hk hv]
  unfold dS
  rw [List.take_length, hearS_all hv]
  exact got_S (ms := l)
theorem gotS_len (i : Nat) : (gotS num me gone i (newE K l me)).length ≤ 5 := by
  unfold gotS
  split
  · rw [List.length_map]
    exact Nat.le_trans (List.length_filter_le _ _) (len_newE K l me)
  · simp
theorem dS_len {i k : Nat} : (dS num l me gone i k).es.length ≤ 5 := by
  unfold dS
  show (hearAll _ _ _).length ≤ _
  rw [hearAll_eq, List.length_map]
  unfold stS
  rw [List.length_map]
  exact len_newE K l me
end
theorem okN_of {num : Int} {l : List Int} {me : Int} (hv : validV num l = true) (hm : me ∈ l) : okN num l me = true := by unfold okN; rw [hv, hasB_iff.2 hm]; rfl
end Go.Proofs.YtihgbadglaogdaaDoor.Pb
