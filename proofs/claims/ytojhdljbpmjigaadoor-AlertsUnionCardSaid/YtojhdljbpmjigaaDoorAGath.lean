/- Layer 6: gather. -/
import Derived.Test.YtojhdljbpmjigaaDoorAAwake
namespace Go.Proofs.YtojhdljbpmjigaaDoor.Al
set_option linter.unusedVariables false
open Go.RowKit
open Go.Proofs.YtojhdljbpmjigaaDoor.W
open Go.Proofs.YtojhdljbpmjigaaDoor.V
open Go.Proofs.YtojhdljbpmjigaaDoor.O
open Go.Proofs.YtojhdljbpmjigaaDoor.Pb (Alr alrC alrsC two_blk)

def OutAddN (w : World) (s : List Alr) (n : Nat) (b : Bool) (k : Nat) (e : Ending) (w' : World) : Prop := ∃ A c, e = .returned (.tuple #[.slice A n c, .bool b, .int .i64 (k : Int)]) ∧ AS w' w'.heap.size s A c ∧ Below w.heap.size w w'
theorem OutAdd.to {w w' : World} {s : List Alr} {b : Bool} {k : Nat} {e : Ending} (h : OutAdd w s b k e w') (n : Nat) (hn : s.length = n) : OutAddN w s n b k e w' := by subst hn; exact h
/-- What gather leaves. -/
def OutGa (w : World) (s : List Alr) (e : Ending) (w' : World) : Prop := ∃ A c, e = .returned (.tuple #[.slice A s.length c, .bool true]) ∧ AS w' w'.heap.size s A c ∧ Below w.heap.size w w'
theorem okS_gather {num : Int} {l : List Int} {p : List Alr} (hv : validV num l = true) (hp : ∀ x ∈ p, okA K num l x = true) : okS K num l (mergeA [] p) = true ∧ ∀ x, x ∈ mergeA [] p ↔ x ∈ p := by
  obtain ⟨h1, h2⟩ := okS_merge (b := p) (a := []) (okS_nil hv) hp
  exact ⟨h1, fun x => by rw [h2]; simp⟩
theorem gather_len (p : List Alr) : (mergeA [] p).length ≤ p.length := by
  have := (merge_len (a := []) (b := p)).2
  simpa using this
theorem mem_take {p : List Alr} {k : Nat} {x : Alr} (h : x ∈ p.take k) : x ∈ p := List.mem_of_mem_take h
set_option maxRecDepth 1000000 in
set_option maxHeartbeats 4000000 in
theorem gather_any (num : Int) (l : List Int) (A E : Option Addr) (c cE B : Nat) (p : List Alr) (w : World) (h : VW w B num l A c) (hs : AS w B p E cE) (hB : B ≤ w.heap.size) (hv : validV num l = true) (hp : ∀ x ∈ p, okA K num l x = true) (hm : p.length ≤ 1000) (ht : H.Tab w) :
    Calls Tryd.prog 26 #[.agg #[.int .i64 num, .slice A l.length c], .slice E p.length cE] w (OutGa w (mergeA [] p)) := by
  have hb0 := (Below.refl w.heap.size w).alloc (Nat.le_refl _) (.cells #[.int .i64 num, .slice A l.length c] 24)
  have hz := Blk.new w 24 #[.int .i64 num, .slice A l.length c]
  have RP := Lib.hid (fun W (hW : Below w.heap.size w W) => ((hs.more hB).below hW).rd)
  have EP := Lib.hid hs.el
  have HP := Lib.hid hp
  have HV := Lib.hid hv
  have KA := Lib.hid (fun (O : List Alr) X cX a W (hW : Below w.heap.size w W) (hO : AS W W.heap.size O X cX) (ha : El a) (hl : O.length ≤ 1000000) => alAdd_any num l A X c cX W.heap.size O a W (((h.more hB).below hW).more hW.size) hO (Nat.le_refl _) ha hl (ht.on hW))
  obtain ⟨n, hn⟩ : ∃ m, m = p.length := ⟨_, rfl⟩
  have HN := Lib.hid hn
  rw [← hn] at RP hm ⊢
  obtain ⟨nl, hnl⟩ : ∃ m, m = l.length := ⟨_, rfl⟩
  rw [← hnl] at hb0 hz KA ⊢
  have B0 := Lib.hid hb0
  have Z1 := Lib.hid hz
  clear hb0 hz hn hnl h hs hp hv ht
  go_enter Tryd.func26, Tryd.ntmps26
  go_upto_region 1 with fail
  generalize w.alloc (.cells #[.int .i64 num, .slice A nl c] 24) = w0 at *
  have FB := Lib.hid (fun W (hW : Below w0.heap.size w0 W) => blk2 (Z1.out.below hW Z1.out.lt))
  go_wp2_with fail
  go_loopg [6, 7] n (fun gk s6 s7 wr => ∃ (k : Nat) (O : List Alr) (X : Option Addr) (cX : Nat), k + gk = n ∧ s7 = .int .i64 k ∧ s6 = .slice X O.length cX ∧ Hid (O = mergeA [] (p.take k)) ∧ Hid (AS wr wr.heap.size O X cX) ∧ Hid (Below w0.heap.size w0 wr))
  case atStart => exact ⟨0, [], none, 0, by omega, rfl, rfl, rfl, AS.nil, Below.refl _ _⟩
  case round =>
    obtain ⟨k, O, X, cX, hkg, rfl, rfl, HO, HS, HW⟩ := hrel
    have WW := Lib.hid (below2s B0.out HW.out)
    have p1 := FB.out _ HW.out
    cases gk with
    | zero =>
      have hkz : ¬ ((k : Int) < (n : Int)) := by omega
      have hO : O = mergeA [] p := by rw [HO.out, List.take_of_length_le (by have := HN.out; omega)]
      subst hO
      go_wp2_with fail
      go_ret2
      exact ⟨_, _, rfl, HS.out, WW.out⟩
    | succ gk =>
      have hkz : (k : Int) < (n : Int) := by omega
      obtain ⟨x, hx⟩ : ∃ x, p[k]? = some x := ⟨_, List.getElem?_eq_getElem (by have := HN.out; omega)⟩
      obtain ⟨ad, rfl, -, -, x0, x1, x2, x3⟩ := alr_at (RP.out _ WW.out) hx
      have hxm := List.mem_of_getElem? hx
      have hok := HP.out x hxm
      have hOk := (okS_gather HV.out (p := p.take k) fun y hy => HP.out y (mem_take hy)).1
      rw [← HO.out] at hOk
      have hE0 : addE K num l O x = 0 := addE_ok hOk hok inj_K
      have LO := Lib.hid (show O.length ≤ 1000 from by rw [HO.out]; have := gather_len (p.take k); rw [List.length_take] at this; omega)
      have hS : addS K num l O x = putA O x := by unfold addS; rw [hE0]; rfl
      have HX := Lib.hid (show mergeA [] (p.take (k + 1)) = putA O x from by rw [merge_snoc hx, ← HO.out])
      obtain ⟨b, hb⟩ : ∃ b, b = addB K num l O x := ⟨_, rfl⟩
      obtain ⟨m2, hm2⟩ : ∃ m, (putA O x).length = m := ⟨_, rfl⟩
      have HM2 := Lib.hid hm2
      have KX := Lib.hid (fun W (hW : Below wr.heap.size wr W) => by
        have := KA.out O X cX x W (below2s WW.out hW) (AS.on HS.out hW) (EP.out x hxm) (by have := LO.out; omega)
        rw [hE0, hS, ← hb] at this
        exact this.mono fun _ _ h => OutAdd.to h m2 hm2)
      obtain ⟨no, hno⟩ : ∃ m, m = O.length := ⟨_, rfl⟩
      rw [← hno] at KX ⊢
      dsimp only [alrV] at KX
      clear hx hxm hok hOk hE0 hS hb hm2 hno
      go_upto_region 5 with fail
      go_cut [8, 10] from 17 to 27 (fun s8 s10 wx => s10 = .int .i64 0 ∧ ∃ X' c', s8 = .slice X' m2 c' ∧ Hid (AS wx wx.heap.size (putA O x) X' c') ∧ Hid (Below wr.heap.size wr wx))
      case first =>
        go_region_law (go_simp; go_at_call 11; (with_reducible refine (KX.out _ (by first | exact Below.refl _ _ | exact (Below.refl _ _).drew)).mono ?_); rintro e w3 ⟨X3, c3, rfl, as3, q3⟩)
        all_goals
          have q4 : Below wr.heap.size wr w3 := by first | exact q3 | exact bdrew q3
          go_wp2_with fail
          go_meet
          first
            | exact ⟨rfl, X3, c3, rfl, as3, q4⟩
            | exact ⟨rfl, X3, c3, rfl, AS.on as3 (Below.refl _ _).drew, q4.drew⟩
      case rest =>
        obtain ⟨rfl, X3, c3, rfl, H3, B3⟩ := hcut
        obtain ⟨w3, rfl⟩ : ∃ x, x = wc := ⟨_, rfl⟩
        go_wp2_with fail
        go_roundg gk
        case measure => omega
        case rel => exact ⟨k + 1, putA O x, X3, c3, by omega, by go_num, by rw [HM2.out], by rw [HX.out]; exact rfl, H3.out, below2s HW.out B3.out⟩
end Go.Proofs.YtojhdljbpmjigaaDoor.Al
