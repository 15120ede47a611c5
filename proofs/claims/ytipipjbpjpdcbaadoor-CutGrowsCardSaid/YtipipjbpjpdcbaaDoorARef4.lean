/- The reference of layer 6: Put. -/
import Derived.Test.YtipipjbpjpdcbaaDoorARef3
namespace Go.Proofs.YtipipjbpjpdcbaaDoor.Al
set_option linter.unusedVariables false
open Go.RowKit
open Go.Proofs.YtipipjbpjpdcbaaDoor.W
open Go.Proofs.YtipipjbpjpdcbaaDoor.V
open Go.Proofs.YtipipjbpjpdcbaaDoor.O
open Go.Proofs.YtipipjbpjpdcbaaDoor.Pb (Alr alrC alrsC len_alrsC alrsC_app alrsC_one alrsC_get alrsC_cell alrInfo step_append_alr reads_blk two_blk)

/-- What Put's loop holds behind a part of the set: whether the alert stands in it, and the list. -/
def pA (a : Alr) (t : List Alr) : Bool := t.any (lessA a)
def outA (a : Alr) (t : List Alr) : List Alr := if pA a t then putF a t else t
theorem putF_none {a : Alr} {r : List Alr} : ∀ {t : List Alr}, (∀ y ∈ t, lessA a y = false) → putF a (t ++ r) = t ++ putF a r
  | [], _ => rfl
  | x :: t, h => by
    have h1 := h x (by simp)
    have h2 := putF_none (a := a) (r := r) (t := t) fun y hy => h y (by simp [hy])
    simp [putF, h1, h2]
theorem putF_some {a : Alr} {r : List Alr} : ∀ {t : List Alr}, pA a t = true → putF a (t ++ r) = putF a t ++ r
  | [], h => by cases h
  | x :: t, h => by
    cases hx : lessA a x
    · unfold pA at h
      simp only [List.any_cons, hx, Bool.false_or] at h
      have h2 := putF_some (a := a) (r := r) (t := t) h
      simp [putF, hx, h2]
    · simp [putF, hx]
theorem pA_none {a : Alr} {t : List Alr} (h : pA a t = false) : ∀ y ∈ t, lessA a y = false := by
  unfold pA at h
  intro y hy
  have := List.any_eq_false.1 h y hy
  simpa using this
theorem pA_snoc {a x : Alr} {t : List Alr} : pA a (t ++ [x]) = (pA a t || lessA a x) := by unfold pA; simp
theorem outA_true {a x : Alr} {t : List Alr} (h : pA a t = true) : outA a (t ++ [x]) = outA a t ++ [x] := by
  unfold outA
  rw [pA_snoc, h, Bool.true_or, if_pos rfl, if_pos rfl, putF_some h]
theorem outA_no {a x : Alr} {t : List Alr} (h : pA a t = false) (hx : lessA a x = false) : outA a (t ++ [x]) = outA a t ++ [x] := by
  unfold outA
  rw [pA_snoc, h, hx]
  rfl
theorem outA_new {a x : Alr} {t : List Alr} (h : pA a t = false) (hx : lessA a x = true) : outA a (t ++ [x]) = outA a t ++ [a] ++ [x] := by
  unfold outA
  rw [pA_snoc, h, hx]
  simp only [Bool.or_true, if_true, Bool.false_eq_true, if_false]
  rw [putF_none (pA_none h)]
  simp [putF, hx]
theorem outA_end {a : Alr} {s : List Alr} (h : pA a s = true) : outA a s = putF a s := by unfold outA; rw [h]; rfl
theorem outA_end' {a : Alr} {s : List Alr} (h : pA a s = false) : outA a s ++ [a] = putF a s := by
  unfold outA
  rw [h]
  have := putF_none (r := []) (pA_none h)
  simp only [List.append_nil] at this
  rw [this]
  rfl
theorem outA_len {a : Alr} {t : List Alr} : (outA a t).length ≤ t.length + 1 := by
  unfold outA
  split
  · rw [len_putF]; omega
  · omega
theorem take_snoc {s : List Alr} {k : Nat} {x : Alr} (h : s[k]? = some x) : s.take (k + 1) = s.take k ++ [x] := by rw [List.take_add_one, h]; rfl
theorem own_empty {W : World} {base g : Nat} (hb : base ≤ W.heap.size) (hg : W.heap.size = g) : (W.alloc (.cells #[] 48)).ownsRow base 48 4 (.slice (some ⟨g, 0, none⟩) 0 0) ([] : List Alr).length (alrsC []) := by
  subst hg
  exact World.ownsRow_made W #[] 0 hb (by decide) rfl
theorem alr_at2 {w : World} {B n : Nat} {ad : Addr} {es : List Alr} {k : Nat} {x : Alr} (h : Reads w B 4 (some ad) n (alrsC es)) (hx : es[k]? = some x) :
    w.cell? (ad.add (k * 4)) = some (.int .i64 x.view) ∧ w.cell? ⟨(ad.add (k * 4)).block, (ad.add (k * 4)).off + 1, none⟩ = some (.int .i64 x.ring) ∧
      w.cell? ⟨(ad.add (k * 4)).block, (ad.add (k * 4)).off + 2, none⟩ = some (.int .i64 x.obs) ∧ w.cell? ⟨(ad.add (k * 4)).block, (ad.add (k * 4)).off + 3, none⟩ = some (.int .i64 x.subj) := by
  obtain ⟨ad', e, _, _, h0⟩ := alr_at h hx
  cases e
  exact h0
theorem len_of_own {W : World} {B n : Nat} {v : Value} {s : List Alr} (h : W.ownsRow B 48 4 v n (alrsC s)) : n = s.length := by
  have := h.1
  rw [len_alrsC] at this
  omega
/-- One alert appended, in a plain region. -/
theorem wp_append_alr {ops : Array Oper} {rest : List Oper} {o : Oper} {a : Act} {Q : Exit → Act → World → Prop} (W : World) (hgd : o.guard = none) (s x : Operand)
    (ho : o.op = .call { callee := .builtin .append, args := #[s, x], argTypes := #[25, 25] }) (base : Nat) (v : Value) (es : List Alr) (e : Alr) (B c : Nat) (A : Option Addr) (hs : a.eval s = v)
    (hown : W.ownsRow base 48 4 v es.length (alrsC es)) (hx : a.eval x = .slice A 1 c) (hr : Reads W B 4 A 1 (alrC e))
    (hl : es.length ≤ 1099511627775) (hbase : base ≤ W.heap.size)
    (h : ∀ v' w', w'.ownsRow base 48 4 v' (es ++ [e]).length (alrsC (es ++ [e])) → Below base W w' → wpList Tryd.prog ops Q rest (a.put o.dst v') w') : wpList Tryd.prog ops Q (o :: rest) a W :=
  wp_append_alrs W hgd s x ho base v es [e] B 1 c A hs hown hx (by rw [alrsC_one]; exact hr) rfl (by omega) hbase fun v' w' h1 h2 _ => h v' w' h1 h2
set_option maxRecDepth 1000000 in
set_option maxHeartbeats 4000000 in
theorem refPut_any (A : Option Addr) (c B : Nat) (s : List Alr) (a : Alr) (w : World) (h : AS w B s A c) (hB : B ≤ w.heap.size) (hm : s.length ≤ 1000000) :
    Calls Tryd.prog 24 #[.slice A s.length c, alrV a] w (OwnS w (putA s a)) := by
  have hb0 := (Below.refl w.heap.size w).alloc (Nat.le_refl _) (.cells #[.int .i64 a.view, .int .i64 a.ring, .int .i64 a.obs, .int .i64 a.subj] 48)
  have hz := Blk.new w 48 #[.int .i64 a.view, .int .i64 a.ring, .int .i64 a.obs, .int .i64 a.subj]
  have hs := h.more hB
  have KH := Lib.hid (fun W (hW : Below w.heap.size w W) => refHas_any A c w.heap.size s a.subj a.ring W (hs.below hW))
  have RS := Lib.hid (fun W (hW : Below w.heap.size w W) => (hs.below hW).rd)
  have HT := Lib.hid (show putA s a = (if hasA s a.subj a.ring then s else putF a s) from rfl)
  have hl40 := h.l40
  obtain ⟨n, hn⟩ : ∃ n, n = s.length := ⟨_, rfl⟩
  have HN := Lib.hid hn
  rw [← hn] at KH RS hl40 hm ⊢
  obtain ⟨P, hP⟩ : ∃ P, P = putA s a := ⟨_, rfl⟩
  rw [← hP] at HT ⊢
  have B0 := Lib.hid hb0
  have Z0 := Lib.hid hz
  clear h hb0 hz hs hn hP
  obtain ⟨av, ar, ao, as'⟩ := a
  dsimp only [alrV] at *
  cases hh : hasA s as' ar
  case true =>
    have HP := Lib.hid (show P = s by rw [HT.out, hh]; rfl)
    rw [hh] at KH
    clear hh HT
    go_enter Tryd.func24, Tryd.ntmps24
    have p0 := blk4 Z0.out
    go_wp2_with (first
      | (go_at_call 35; (with_reducible refine (KH.out _ B0.out).mono ?_); rintro e w1 ⟨rfl, rfl⟩)
      | (at_builtin; go_loud (refine wp_append_alrs _ rfl (.tmp 14) (.tmp 15) rfl w.heap.size _ [] s w.heap.size n _ _ rfl (own_empty (by simp) (by simp)) rfl (RS.out _ (B0.out.alloc (by simp) _)) HN.out.symm (by simpa using hl40) (by simp; omega) ?_; intro v2 w2 ho2 hb2 hgx))
      | fail)
    go_ret
    exact ⟨_, rfl, by rw [HP.out]; exact ho2, (B0.out.alloc (by simp) _).trans hb2⟩
  have HP := Lib.hid (show P = putF ⟨av, ar, ao, as'⟩ s by rw [HT.out, hh]; rfl)
  rw [hh] at KH
  clear hh HT
  go_enter Tryd.func24, Tryd.ntmps24
  have p0 := blk4 Z0.out
  go_wp2_with (first
      | (go_at_call 35; (with_reducible refine (KH.out _ B0.out).mono ?_); rintro e w1 ⟨rfl, rfl⟩)
      | fail)
  generalize w.alloc (.cells #[.int .i64 av, .int .i64 ar, .int .i64 ao, .int .i64 as'] 48) = w0 at *
  have hlt := Z0.out.lt
  go_loopg [5, 6, 7] n (fun gk s5 s6 s7 wr => ∃ (k : Nat), k + gk = n ∧ s7 = .int .i64 k ∧ s6 = .bool (pA ⟨av, ar, ao, as'⟩ (s.take k)) ∧ Hid (wr.ownsRow w0.heap.size 48 4 s5 (outA ⟨av, ar, ao, as'⟩ (s.take k)).length (alrsC (outA ⟨av, ar, ao, as'⟩ (s.take k)))) ∧ Hid (Below w0.heap.size w0 wr))
  case atStart => exact ⟨0, by omega, rfl, rfl, World.ownsRow_nil _ _ _ _, Below.refl _ _⟩
  case round =>
    obtain ⟨k, hkg, rfl, rfl, HO, HW⟩ := hrel
    have hws := HW.out.size
    have p1 := blk4 (Z0.out.below HW.out hlt)
    have LO := Lib.hid (show (outA ⟨av, ar, ao, as'⟩ (s.take k)).length ≤ n + 1 from Nat.le_trans outA_len (by rw [List.length_take]; have := HN.out; omega))
    have BW := Lib.hid (B0.out.trans (HW.out.mono B0.out.size))
    cases gk with
    | zero =>
      have hkz : ¬ ((k : Int) < (n : Int)) := by omega
      have HK := Lib.hid (show s.take k = s from List.take_of_length_le (by have := HN.out; omega))
      rw [HK.out] at HO LO ⊢
      cases hp : pA ⟨av, ar, ao, as'⟩ s
      · have HE := Lib.hid (outA_end' hp)
        generalize outA ⟨av, ar, ao, as'⟩ s = O at *
        clear hp
        go_wp2_with (first
          | (at_builtin; go_loud (refine wp_append_alr _ rfl (.tmp 46) (.tmp 48) rfl w0.heap.size _ O ⟨av, ar, ao, as'⟩ _ _ _ rfl (World.ownsRow.alloc HO.out _) rfl (reads_blk _ _ _) (by have := LO.out; omega) (by simp; omega) ?_; intro v4 w4 ho4 hb4))
          | fail)
        go_ret
        exact ⟨_, rfl, by rw [HP.out, ← HE.out]; exact own_base ho4 (by have := B0.out.size; omega), BW.out.trans ((((Below.refl _ _).alloc (by have := B0.out.size; omega) _).trans (hb4.mono (by have := B0.out.size; omega))).mono (Nat.le_refl _) |> fun h => h)⟩
      · have HE := Lib.hid (outA_end hp)
        clear hp
        go_wp2_with fail
        go_ret
        exact ⟨_, rfl, by rw [HP.out, ← HE.out]; exact own_base HO.out (by have := B0.out.size; omega), BW.out⟩
    | succ gk =>
      have hkz : (k : Int) < (n : Int) := by omega
      obtain ⟨x, hx⟩ : ∃ x, s[k]? = some x := ⟨_, List.getElem?_eq_getElem (by have := HN.out; omega)⟩
      obtain ⟨ad, rfl, hadb, -, x0, x1, x2, x3⟩ := alr_at (RS.out _ BW.out) hx
      have HX := Lib.hid hx
      have HSN := Lib.hid (take_snoc hx)
      have HAD := Lib.hid hadb
      clear hx hadb
      cases hp : pA ⟨av, ar, ao, as'⟩ (s.take k)
      case true =>
        have HPT := Lib.hid (show pA ⟨av, ar, ao, as'⟩ (s.take (k + 1)) = true from by rw [HSN.out, pA_snoc, hp]; rfl)
        have HOT := Lib.hid (show outA ⟨av, ar, ao, as'⟩ (s.take (k + 1)) = outA ⟨av, ar, ao, as'⟩ (s.take k) ++ [x] from by rw [HSN.out]; exact outA_true hp)
        clear hp
        generalize outA ⟨av, ar, ao, as'⟩ (s.take k) = O at *
        go_wp2_with fail
        go_quiet (fail)
        go_wp2_with (first
          | (at_builtin; go_loud (refine wp_append_alr _ rfl (.tmp 37) (.tmp 42) rfl w0.heap.size _ O x _ _ _ rfl (World.ownsRow.alloc (show (wr.drewN nq).ownsRow _ _ _ _ _ _ from HO.out) _) rfl (reads_blk _ _ _) (by have := LO.out; omega) (by simp; omega) ?_; intro v4 w4 ho4 hb4))
          | fail)
        have HB4 := Lib.hid ((show Below w0.heap.size wr (wr.drewN nq) from below_drewN' (Below.refl _ _) _).alloc hws _ |>.trans hb4)
        have HO4 := Lib.hid ho4
        clear ho4 hb4
        go_roundg gk
        case measure => omega
        case rel => exact ⟨k + 1, by omega, by go_num, by rw [HPT.out], by rw [HOT.out]; exact HO4.out, HW.out.trans HB4.out⟩
      case false =>
        have KL := Lib.hid (fun W => refLess_any ⟨av, ar, ao, as'⟩ x W)
        cases hxl : lessA ⟨av, ar, ao, as'⟩ x
        · have HPT := Lib.hid (show pA ⟨av, ar, ao, as'⟩ (s.take (k + 1)) = false from by rw [HSN.out, pA_snoc, hp, hxl]; rfl)
          have HOT := Lib.hid (show outA ⟨av, ar, ao, as'⟩ (s.take (k + 1)) = outA ⟨av, ar, ao, as'⟩ (s.take k) ++ [x] from by rw [HSN.out]; exact outA_no hp hxl)
          rw [hxl] at KL
          dsimp only [alrV] at KL
          clear hp hxl
          generalize outA ⟨av, ar, ao, as'⟩ (s.take k) = O at *
          go_upto_region 8 with fail
          go_region_law (go_simp; go_at_call 44; (with_reducible refine (KL.out _).mono ?_); rintro e w3 ⟨rfl, q3⟩)
          all_goals
            have b3 : Below wr.heap.size wr w3 := by first | exact (Below.refl _ _).drew.trans q3 | exact q3
            have W3 := Lib.hid (HW.out.trans (b3.mono hws))
            have p3 := blk4 (Z0.out.below W3.out hlt)
            have ho3 := Lib.hid (own_below HO.out b3)
            have hs3 : w0.heap.size ≤ w3.heap.size := W3.out.size
            clear p1 x0 x1 x2 x3 q3 b3
            obtain ⟨y0, y1, y2, y3⟩ := alr_at2 (RS.out w3 (B0.out.trans (W3.out.mono B0.out.size))) HX.out
            go_wp2_with (first
              | (at_builtin; go_loud (refine wp_append_alr _ rfl (.tmp 37) (.tmp 42) rfl w0.heap.size _ O x _ _ _ rfl (World.ownsRow.alloc ho3.out _) rfl (reads_blk _ _ _) (by have := LO.out; omega) (by simp; omega) ?_; intro v4 w4 ho4 hb4))
              | fail)
            have HB4 := Lib.hid (((Below.refl _ _).alloc hs3 _).trans hb4)
            have HO4 := Lib.hid ho4
            clear ho4 hb4
            go_roundg gk
            case measure => omega
            case rel => exact ⟨k + 1, by omega, by go_num, by rw [HPT.out], by rw [HOT.out]; exact HO4.out, W3.out.trans HB4.out⟩
        · have HPT := Lib.hid (show pA ⟨av, ar, ao, as'⟩ (s.take (k + 1)) = true from by rw [HSN.out, pA_snoc, hp, hxl]; rfl)
          have HOT := Lib.hid (show outA ⟨av, ar, ao, as'⟩ (s.take (k + 1)) = outA ⟨av, ar, ao, as'⟩ (s.take k) ++ [⟨av, ar, ao, as'⟩] ++ [x] from by rw [HSN.out]; exact outA_new hp hxl)
          rw [hxl] at KL
          dsimp only [alrV] at KL
          clear hp hxl
          generalize outA ⟨av, ar, ao, as'⟩ (s.take k) = O at *
          go_upto_region 8 with fail
          go_region_law (go_simp; go_at_call 44; (with_reducible refine (KL.out _).mono ?_); rintro e w3 ⟨rfl, q3⟩)
          all_goals
            have b3 : Below wr.heap.size wr w3 := by first | exact (Below.refl _ _).drew.trans q3 | exact q3
            have W3 := Lib.hid (HW.out.trans (b3.mono hws))
            have p3 := blk4 (Z0.out.below W3.out hlt)
            have ho3 := Lib.hid (own_below HO.out b3)
            have hs3 : w0.heap.size ≤ w3.heap.size := W3.out.size
            clear p1 x0 x1 x2 x3 q3 b3
            go_wp2_with (first
              | (at_builtin; go_loud (refine wp_append_alr _ rfl (.tmp 33) (.tmp 35) rfl w0.heap.size _ O ⟨av, ar, ao, as'⟩ _ _ _ rfl (World.ownsRow.alloc ho3.out _) rfl (reads_blk _ _ _) (by have := LO.out; omega) (by simp; omega) ?_; intro v4 w4 ho4 hb4); (have W4 := Lib.hid (W3.out.trans (((Below.refl _ _).alloc hs3 _).trans hb4))); (have hs4 : w0.heap.size ≤ w4.heap.size := W4.out.size); obtain ⟨y0, y1, y2, y3⟩ := alr_at2 (RS.out w4 (B0.out.trans (W4.out.mono B0.out.size))) HX.out)
              | (at_builtin; go_loud (refine wp_append_alr _ rfl (.tmp 37) (.tmp 42) rfl w0.heap.size _ (O ++ [⟨av, ar, ao, as'⟩]) x _ _ _ rfl (World.ownsRow.alloc ho4 _) rfl (reads_blk _ _ _) (by have := LO.out; simp; omega) (by simp; omega) ?_; intro v5 w5 ho5 hb5))
              | fail)
            have HB5 := Lib.hid (W4.out.trans (((Below.refl _ _).alloc hs4 _).trans hb5))
            have HO5 := Lib.hid ho5
            clear ho4 hb4 ho5 hb5
            go_roundg gk
            case measure => omega
            case rel => exact ⟨k + 1, by omega, by go_num, by rw [HPT.out], by rw [HOT.out]; exact HO5.out, HB5.out⟩
end Go.Proofs.YtipipjbpjpdcbaaDoor.Al
