/- Layer 6: the walk of AlertsBack. -/
import Derived.Test.YtojhdljbpmjigaaDoorACount
import Derived.Test.YtojhdljbpmjigaaDoorACodes
namespace Go.Proofs.YtojhdljbpmjigaaDoor.Al
set_option linter.unusedVariables false
open Go.RowKit
open Go.Proofs.YtojhdljbpmjigaaDoor.W
open Go.Proofs.YtojhdljbpmjigaaDoor.V
open Go.Proofs.YtojhdljbpmjigaaDoor.O
open Go.Proofs.YtojhdljbpmjigaaDoor.Pb (Alr alrC alrsC two_blk)
open Go.Lib (byteCells byteCells_length byteCells_append)

theorem step_append_bytesB {ops : Array Oper} {o : Oper} {a : Act} {K : Act → World → Prop} {Q : Exit → Act → World → Prop} {E : Prop} (W : World) (hgd : o.guard = none) (s x : Operand)
    (ho : o.op = .call { callee := .builtin .append, args := #[s, x], argTypes := #[37, 37] }) (base : Nat) (v : Value) (l news : List UInt8) (B m c : Nat) (A : Option Addr) (hs : a.eval s = v)
    (hown : W.ownsRow base 5 1 v l.length (byteCells l)) (hx : a.eval x = .slice A m c) (hr : Reads W B 1 A m (byteCells news))
    (hl : l.length + news.length ≤ 8796093022208) (hbase : base ≤ W.heap.size)
    (h : ∀ v' w', w'.ownsRow base 5 1 v' (l ++ news).length (byteCells (l ++ news)) → Below base W w' → K (a.put o.dst v') w') :
    if Region.wanted o (yielded ops a.tmps) = true then Oper.wp Tryd.prog o a W K Q else E := by
  obtain ⟨i0, hi, hz0, hz1, hz2⟩ := info_parts u8Info
  have hm := hr.len
  refine step_append_any W hgd s x 37 ho base 5 i0 _ 1 1 Tryd.underlying37 hi hz0 hz1 hz2 rfl (by decide) v _ _ hs hown B A m c _ hx hr (byteCells_one' _) ?_ ?_ hbase ?_
  · unfold maxLen; omega
  · omega
  · intro v' w' h1 h2 _
    refine h v' w' ?_ ((Below.refl _ _).grown h2 hbase fun q hq => (hown.lt q hq).1)
    rw [byteCells_append, List.length_append, ← hm]
    exact h1
theorem flat_len : ∀ {s : List Alr}, (∀ x ∈ s, El x) → (s.flatMap enA).length ≤ 20 * s.length
  | [], _ => by simp
  | a :: t, h => by
    have h1 := flat_len (s := t) fun x hx => h x (by simp [hx])
    obtain ⟨-, h2, -, h3⟩ := h a (by simp)
    obtain ⟨h2a, h2b⟩ := h2
    obtain ⟨h3a, h3b⟩ := h3
    have e1 := enU_len (x := a.subj.toNat) (by omega)
    have e2 := enU_len (x := a.ring.toNat) (by omega)
    rw [List.flatMap_cons, List.length_append, List.length_cons]
    rw [show enA a = enU a.subj.toNat ++ enU a.ring.toNat from rfl, List.length_append]
    omega
theorem enSet_len {s : List Alr} (h : ∀ x ∈ s, El x) (hn : s.length ≤ 1000) : 1 ≤ (enSet s).length ∧ (enSet s).length ≤ 20010 := by
  have h1 := flat_len h
  have h2 := enU_len (x := s.length) (by omega)
  have h3 := enU_pos s.length
  unfold enSet
  rw [List.length_append]
  omega
set_option maxRecDepth 1000000 in
set_option maxHeartbeats 8000000 in
theorem lawBack_any (num : Int) (l : List Int) (A L : Option Addr) (c cL : Nat) (xs : List Nat) (t : Nat) (F : Option Addr) (cF : Nat) (bs : List UInt8) (w : World) (h : VW w w.heap.size num l A c) (hs : US w w.heap.size xs L cL) (hr : Reads w w.heap.size 1 F bs.length (byteCells bs)) (hcap : bs.length ≤ cF) (ht8 : t < 256) (ht : H.Tab w) :
    Calls Tryd.prog 7 #[.agg #[.int .i64 num, .slice A l.length c], .slice L xs.length cL, .int .u8 t, .slice F bs.length cF] w (PB w true) := by
  have hb0 := (Below.refl w.heap.size w).alloc (Nat.le_refl _) (.cells #[.int .i64 num, .slice A l.length c] 24)
  have hz := Blk.new w 24 #[.int .i64 num, .slice A l.length c]
  have AW := Lib.hid (fun W (hW : Below w.heap.size w W) => awake_any W (ht.on hW))
  have KV := Lib.hid (fun W (hW : Below w.heap.size w W) => refValid_any num l A c w.heap.size W (h.below hW) hW.size)
  by_cases hv : validV num l = true
  case neg =>
    have hv' : validV num l = false := by simpa using hv
    rw [hv'] at KV
    dsimp only [vwV] at KV
    have B0 := Lib.hid hb0
    have Z1 := Lib.hid hz
    clear hb0 hz h hs hr hcap ht hv hv'
    generalize bs.length = o at *
    generalize l.length = nl at *
    generalize xs.length = n at *
    go_enter Tryd.func7, Tryd.ntmps7
    go_upto_region 1 with fail
    generalize w.alloc (.cells #[.int .i64 num, .slice A nl c] 24) = w0 at *
    have FB := Lib.hid (fun W (hW : Below w0.heap.size w0 W) => blk2 (Z1.out.below hW Z1.out.lt))
    go_wp2_with (first
      | (go_at_call 9; (with_reducible refine (AW.out _ B0.out).mono ?_); rintro e w1 ⟨rfl, b1⟩; (have p1 := FB.out _ b1); (have c1 := below2s B0.out b1))
      | (go_at_call 24; (with_reducible refine (KV.out _ c1).mono ?_); rintro e w2 ⟨rfl, b2⟩)
      | fail)
    go_ret
    exact ⟨rfl, below2s c1 b2⟩
  have HV := Lib.hid hv
  have KP := Lib.hid (fun W (hW : Below w.heap.size w W) => pairs_any num l A L c cL w.heap.size xs W (h.below hW) (hs.below hW) hW.size hv)
  have KG := Lib.hid (fun P X cX W (hW : Below w.heap.size w W) (hO : AS W W.heap.size P X cX) (hP : ∀ x ∈ P, okA K num l x = true) (hm : P.length ≤ 1000) => gather_any num l A X c cX W.heap.size P W ((h.below hW).more hW.size) hO (Nat.le_refl _) hv hP hm (ht.on hW))
  rw [hv] at KV
  dsimp only [vwV] at KV
  have KE := Lib.hid (fun S X cX W (hW : Below w.heap.size w W) (hO : AS W W.heap.size S X cX) (ok : okS K num l S = true) => show Calls _ _ _ W (OutByt W (enSet S)) from by
    have := alEncode_any num l A X c cX W.heap.size S W ((h.below hW).more hW.size) hO (Nat.le_refl _) (ht.on hW)
    unfold encS at this
    rw [ok] at this
    exact this)
  have KD := Lib.hid (fun X cX (b : List UInt8) W (hW : Below w.heap.size w W) (hX : Reads W W.heap.size 1 X b.length (byteCells b)) (hc : b.length ≤ cX) (hn : b.length ≤ 1099511627776) => alDecode_any num l A X c cX W.heap.size b W ((h.below hW).more hW.size) hX hc (Nat.le_refl _) hn (ht.on hW))
  have RBB := Lib.hid (fun W (hW : Below w.heap.size w W) => hr.below hW)
  have B0 := Lib.hid hb0
  have Z1 := Lib.hid hz
  have hx40 := hs.l40
  clear hb0 hz h hs hr hcap ht hv
  obtain ⟨o, ho⟩ : ∃ o, o = bs.length := ⟨_, rfl⟩
  have HO := Lib.hid ho
  rw [← ho] at RBB ⊢
  clear ho
  generalize hnl : l.length = nl at *
  generalize xs.length = n at *
  clear hnl
  by_cases h60 : n ≤ 60
  case neg =>
    have d60 : decide ((60 : Int) < (n : Int)) = true := by simp; omega
    have e60 : 60 < n := by omega
    clear KP KG KE KD RBB h60
    go_enter Tryd.func7, Tryd.ntmps7
    go_upto_region 1 with fail
    generalize w.alloc (.cells #[.int .i64 num, .slice A nl c] 24) = w0 at *
    have FB := Lib.hid (fun W (hW : Below w0.heap.size w0 W) => blk2 (Z1.out.below hW Z1.out.lt))
    go_wp2_with (first
      | (go_at_call 9; (with_reducible refine (AW.out _ B0.out).mono ?_); rintro e w1 ⟨rfl, b1⟩; (have p1 := FB.out _ b1); (have c1 := below2s B0.out b1))
      | (go_at_call 24; (with_reducible refine (KV.out _ c1).mono ?_); rintro e w2 ⟨rfl, b2⟩)
      | fail)
    go_ret
    exact ⟨rfl, below2s c1 b2⟩
  have d60 : decide ((60 : Int) < (n : Int)) = false := by simp; omega
  have e60 : ¬ 60 < n := by omega
  by_cases h50 : o ≤ 50
  case neg =>
    have d50 : decide ((50 : Int) < (o : Int)) = true := by simp; omega
    have e50 : 50 < o := by omega
    clear KP KG KE KD RBB h50
    go_enter Tryd.func7, Tryd.ntmps7
    go_upto_region 1 with fail
    generalize w.alloc (.cells #[.int .i64 num, .slice A nl c] 24) = w0 at *
    have FB := Lib.hid (fun W (hW : Below w0.heap.size w0 W) => blk2 (Z1.out.below hW Z1.out.lt))
    go_wp2_with (first
      | (go_at_call 9; (with_reducible refine (AW.out _ B0.out).mono ?_); rintro e w1 ⟨rfl, b1⟩; (have p1 := FB.out _ b1); (have c1 := below2s B0.out b1))
      | (go_at_call 24; (with_reducible refine (KV.out _ c1).mono ?_); rintro e w2 ⟨rfl, b2⟩)
      | fail)
    go_ret
    exact ⟨rfl, below2s c1 b2⟩
  have d50 : decide ((50 : Int) < (o : Int)) = false := by simp; omega
  have e50 : ¬ 50 < o := by omega
  go_enter Tryd.func7, Tryd.ntmps7
  go_upto_region 1 with fail
  generalize w.alloc (.cells #[.int .i64 num, .slice A nl c] 24) = w0 at *
  have FB := Lib.hid (fun W (hW : Below w0.heap.size w0 W) => blk2 (Z1.out.below hW Z1.out.lt))
  go_upto_region 5 with (first
    | (go_at_call 9; (with_reducible refine (AW.out _ B0.out).mono ?_); rintro e w1 ⟨rfl, b1⟩; (have p1 := FB.out _ b1); (have c1 := below2s B0.out b1))
    | (go_at_call 24; (with_reducible refine (KV.out _ c1).mono ?_); rintro e w2 ⟨rfl, b2⟩)
    | fail)
  have W2 := Lib.hid (below2s c1 b2)
  have V2 := Lib.hid (below2s b1 b2)
  clear p1 b1 c1 b2
  have p2 := FB.out _ V2.out
  go_cut [9, 10] from 33 to 41 (fun s5 s6 wx => s6 = .bool true ∧ Hid (Got num l n w2 wx s5))
  case first =>
    go_region_held3 (fun W' => (W'.cell? ⟨w.heap.size, 0, none⟩ = some (.int .i64 num) ∧ W'.cell? ⟨w.heap.size, 1, none⟩ = some (.slice A nl c))) (first | exact s4 | exact s3 | exact FB.out _ V2.out.drew | exact FB.out _ V2.out) (first
      | (go_at_call 25; (with_reducible refine (KP.out _ (below2s W2.out (by first | exact (Below.refl _ _).drew | exact Below.refl _ _))).mono ?_); rintro e w3 ⟨P, X3, k3, rfl, as3, hP, hPn, q3⟩; have b3 : Below w2.heap.size w2 w3 := below2s (by first | exact (Below.refl _ _).drew | exact Below.refl _ _) q3; have s3 := FB.out _ (below2s V2.out b3))
      | (go_at_call 26; (with_reducible refine (KG.out P X3 k3 _ (below2s W2.out (by first | exact b3 | exact b3.drew)) (by first | exact as3 | exact AS.on as3 (Below.refl _ _).drew) hP (by omega)).mono ?_); rintro e w4 ⟨X4, k4, rfl, as4, q4⟩; have b4 : Below w2.heap.size w2 w4 := below2s (by first | exact b3 | exact b3.drew) q4; have s4 := FB.out _ (below2s V2.out b4))
      | fail)
    all_goals
      have G4 := got_of HV.out hP hPn b4 as4
      go_wp2_with fail
      go_meet
      first
        | exact ⟨rfl, G4⟩
        | exact ⟨rfl, G4.drew⟩
  case rest =>
    obtain ⟨rfl, G⟩ := hcut
    obtain ⟨w3, rfl⟩ : ∃ x, x = wc := ⟨_, rfl⟩
    obtain ⟨S, X, cX, rfl, okS', hSn, as3, b3⟩ := G.out
    have A3 := Lib.hid as3
    have W3 := Lib.hid (below2s W2.out b3)
    have V3 := Lib.hid (below2s V2.out b3)
    have OK3 := Lib.hid okS'
    have HSN := Lib.hid hSn
    have p3 := FB.out _ V3.out
    clear G as3 okS' hSn KP KG AW KV p2 b3 W2 V2
    have RBK := Lib.hid (fun r => rdSet_back (K := K) (num := num) (l := l) inj_K OK3.out r)
    have RCT := Lib.hid (fun k (hk : k < (enSet S).length) => rdSet_cut (K := K) (num := num) (l := l) inj_K OK3.out hk)
    have KE := Lib.hid (fun W (hW : Below w3.heap.size w3 W) => KE.out S X cX W (below2s W3.out hW) (AS.on A3.out hW) OK3.out)
    have ENL := Lib.hid (enSet_len A3.out.el (by have := HSN.out; omega))
    generalize enSet S = EN at *
    obtain ⟨m, hm⟩ : ∃ m, EN.length = m := ⟨_, rfl⟩
    have HM := Lib.hid hm
    have KE := Lib.hid (fun W hW => (KE.out W hW).mono fun _ _ h => OutByt.to h m hm)
    clear hm
    go_upto_region 7 with (first
      | (go_at_call 22; (with_reducible refine (KE.out _ (Below.refl _ _)).mono ?_); rintro e w4 ⟨X4, k4, rfl, hk4, r4, b4⟩)
      | fail)
    have W4 := Lib.hid (below2s W3.out b4)
    have V4 := Lib.hid (below2s V3.out b4)
    have A4 := Lib.hid (AS.on A3.out b4)
    have R4 := Lib.hid r4
    have p4 := FB.out _ V4.out
    have MM := Lib.hid (show 1 ≤ m ∧ m ≤ 20010 from by rw [← HM.out]; exact ENL.out)
    have B4 := Lib.hid b4
    clear r4 b4 p3 A3 KE ENL
    have O6 := Lib.hid (fun W => World.ownsRow_made (base := w4.heap.size) (e := 5) (size := 1) W #[] 0)
    have RBB4 := Lib.hid (fun W (hW : Below w4.heap.size w4 W) => RBB.out W (below2s W4.out hW))
    have R4B := Lib.hid (fun W (hW : Below w4.heap.size w4 W) => R4.out.below hW)
    obtain ⟨q, hq⟩ : ∃ q, q = (EN ++ bs).length := ⟨_, rfl⟩
    have HQ := Lib.hid hq
    have KD7 := Lib.hid (fun X cX W (hW : Below w4.heap.size w4 W) (hX : Reads W W.heap.size 1 X q (byteCells (EN ++ bs))) (hc : q ≤ cX) => show Calls Tryd.prog 20 #[.agg #[.int .i64 num, .slice A nl c], .slice X q cX] W (OutDecN W S m 0) from by
      rw [hq] at hX hc ⊢
      exact (KD.out X cX (EN ++ bs) W (below2s W4.out hW) hX hc (by have := HM.out; have := MM.out; have := HO.out; rw [List.length_append]; omega)).mono fun _ _ h => OutDec.to h S m 0 (by rw [RBK.out bs, HM.out]))
    clear hq
    go_cut [12, 13, 14] from 44 to 55 (fun s12 s13 s14 wx => s13 = .int .i64 m ∧ s14 = .int .i64 0 ∧ ∃ X' c', s12 = .slice X' S.length c' ∧ Hid (AS wx wx.heap.size S X' c') ∧ Hid (Below w4.heap.size w4 wx))
    case first =>
      have bA : Below w4.heap.size w4 (w4.alloc (.cells #[] 5)) := (Below.refl _ _).alloc (Nat.le_refl _) _
      have bD : Below w4.heap.size w4 (w4.alloc (.cells #[] 5)).drew := bA.drew
      have oA : (w4.alloc (.cells #[] 5)).ownsRow w4.heap.size 5 1 (.slice (some ⟨w4.heap.size, 0, none⟩) 0 0) ([] : List UInt8).length (byteCells []) := O6.out w4 (Nat.le_refl _) (by decide) rfl
      have oD : (w4.alloc (.cells #[] 5)).drew.ownsRow w4.heap.size 5 1 (.slice (some ⟨w4.heap.size, 0, none⟩) 0 0) ([] : List UInt8).length (byteCells []) := O6.out w4 (Nat.le_refl _) (by decide) rfl
      have L1 : ([] : List UInt8).length + EN.length ≤ 8796093022208 := by have := HM.out; have := MM.out; simp; omega
      have L2 : ([] ++ EN).length + bs.length ≤ 8796093022208 := by have := HM.out; have := MM.out; have := HO.out; simp; omega
      go_region_held3 (fun W' => (W'.cell? ⟨w.heap.size, 0, none⟩ = some (.int .i64 num) ∧ W'.cell? ⟨w.heap.size, 1, none⟩ = some (.slice A nl c))) (first | exact s8 | exact s7 | exact s6 | exact FB.out _ (below2s V4.out bD) | exact FB.out _ (below2s V4.out bA) | exact FB.out _ (V4.out.drew) | exact FB.out _ V4.out) (first
        | (refine step_append_bytesB _ rfl (.tmp 46) (.tmp 47) rfl w4.heap.size _ [] EN _ _ _ _ rfl (by first | exact oD | exact oA) rfl (R4B.out _ (by first | exact bD | exact bA)) L1 (by first | exact bD.size | exact bA.size) ?_; intro v6 w6 ho6 hq6; have b6 : Below w4.heap.size w4 w6 := (by first | exact bD.trans hq6 | exact bA.trans hq6); have s6 := FB.out _ (below2s V4.out b6))
        | (refine step_append_bytesB _ rfl (.tmp 48) (.tmp 49) rfl w4.heap.size _ ([] ++ EN) bs _ _ _ _ rfl ho6 rfl (RBB4.out _ b6) L2 b6.size ?_; intro v7 w7 ho7 hq7; have b7 : Below w4.heap.size w4 w7 := b6.trans hq7; have s7 := FB.out _ (below2s V4.out b7); rw [List.nil_append] at ho7; obtain ⟨A9, c9, hv9, hc9, hr9⟩ := SliceOf.of_own (base := w4.heap.size) (e := 5) (by rw [byteCells_length]; exact ho7); rw [byteCells_length, ← HQ.out] at hv9 hc9 hr9; subst hv9)
        | (go_at_call 20; (with_reducible refine (KD7.out A9 c9 _ (by first | exact b7 | exact b7.drew) (by exact hr9) hc9).mono ?_); rintro e w8 ⟨X8, k8, rfl, as8, q8⟩; have b8 : Below w4.heap.size w4 w8 := below2s b7 q8; have s8 := FB.out _ (below2s V4.out b8))
        | fail)
      all_goals
        go_wp2_with fail
        go_meet
        first
          | exact ⟨rfl, rfl, X8, k8, rfl, as8, b8⟩
          | exact ⟨rfl, rfl, X8, k8, rfl, AS.on as8 (Below.refl _ _).drew, b8.drew⟩
    case rest =>
      obtain ⟨rfl, rfl, X8, k8, rfl, H8, B8⟩ := hcut
      obtain ⟨w8, rfl⟩ : ∃ x, x = wc := ⟨_, rfl⟩
      have V8 := Lib.hid (below2s V4.out B8.out)
      have W8 := Lib.hid (below2s W4.out B8.out)
      have A8 := Lib.hid (AS.on A4.out B8.out)
      have KS := Lib.hid (fun W (hW : Below w8.heap.size w8 W) => by
        have := refSameS_any X X8 cX k8 w8.heap.size S S W (A8.out.rd.below hW) (H8.out.rd.below hW) A8.out.l40 H8.out.l40
        rw [decide_eq_true rfl] at this
        exact this)
      have m1 := MM.out.1
      have m2 := MM.out.2
      have bm : ((m : Int) == 0) = false := beqF (by omega)
      have nm : ¬ m = 0 := by omega
      have p8 := FB.out _ V8.out
      clear p4 KE KD7 RBB RBB4 RBK O6
      go_upto_region 10 with (first
        | (go_at_call 13; (with_reducible refine (KS.out _ (Below.refl _ _)).mono ?_); rintro e w9 ⟨rfl, b9⟩)
        | fail)
      have B9 := Lib.hid (below2s B8.out b9)
      have V9 := Lib.hid (below2s V8.out b9)
      have W9 := Lib.hid (below2s W8.out b9)
      clear b9 KS
      obtain ⟨i, hi, -, hmi⟩ := mod_idx t m (by omega)
      have wt : IntKind.i64.wrap (t : Int) = (t : Int) := IntWalk.i64_in _ (by omega)
      have hsl := slice_to (k := i) (ki := (i : Int)) R4.out hk4 (by omega) (by omega) rfl
      have hlen : (EN.take i).length = i := by rw [List.length_take, HM.out]; omega
      have hcut : rdSet K num l (EN.take i) = ([], 0, 2) := RCT.out i (by rw [HM.out]; exact hi)
      have RT := Lib.hid (fun W (hW : Below w4.heap.size w4 W) => show Reads W W.heap.size 1 X4 i (byteCells (EN.take i)) from
        ((R4.out.below hW).more hW.size).takeTo (by omega))
      have KD10 := Lib.hid (fun W (hW : Below w4.heap.size w4 W) => show Calls Tryd.prog 20 #[.agg #[.int .i64 num, .slice A nl c], .slice X4 i k4] W (OutDecN W [] 0 2) from by
        have := KD.out X4 k4 (EN.take i) W (below2s W4.out hW) (by rw [hlen]; exact RT.out W hW) (by omega) (by omega)
        rw [hlen] at this
        exact this.mono fun _ _ h => OutDec.to h [] 0 2 hcut)
      clear hlen hcut KD RCT RT
      have p9 := FB.out _ V9.out
      go_region_held3 (fun W' => (W'.cell? ⟨w.heap.size, 0, none⟩ = some (.int .i64 num) ∧ W'.cell? ⟨w.heap.size, 1, none⟩ = some (.slice A nl c))) (first | exact s10 | exact FB.out _ (V9.out.drew) | exact FB.out _ V9.out) (first
        | (go_at_call 20; (with_reducible refine (KD10.out _ (by first | exact B9.out | exact B9.out.drew)).mono ?_); rintro e w10 ⟨X10, k10, rfl, as10, q10⟩; have b10 : Below w4.heap.size w4 w10 := below2s (by first | exact B9.out | exact B9.out.drew) q10; have s10 := FB.out _ (below2s V4.out b10))
        | fail)
      all_goals
        have FIN := Lib.hid (below2s W4.out b10)
        go_wp2_with fail
        go_ret
        first
          | exact ⟨rfl, FIN.out⟩
          | exact ⟨rfl, FIN.out.drew⟩
end Go.Proofs.YtojhdljbpmjigaaDoor.Al
