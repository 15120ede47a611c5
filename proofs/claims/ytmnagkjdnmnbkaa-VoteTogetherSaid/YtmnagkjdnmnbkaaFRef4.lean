/- The reference of layer 8: Cast. -/
import Derived.Test.YtmnagkjdnmnbkaaFRef3
namespace Go.Proofs.Ytmnagkjdnmnbkaa.Fv
set_option linter.unusedVariables false
set_option linter.unusedSimpArgs false
open Go.RowKit
open Go.Proofs.Ytmnagkjdnmnbkaa.W
open Go.Proofs.Ytmnagkjdnmnbkaa.V

def insP (b : Pbl) : List Pbl → List Pbl
  | [] => [b]
  | x :: t => if b.mem < x.mem then b :: x :: t else x :: insP b t
theorem insP_bal {b : Pbl} : ∀ {s : List Pbl}, (insP b s).map Pbl.bal = insF b.bal (s.map Pbl.bal)
  | [] => rfl
  | x :: t => by
    rw [List.map_cons]
    unfold insP insF
    rw [show b.bal.mem = b.mem from rfl, show x.bal.mem = x.mem from rfl]
    split
    · rfl
    · rw [List.map_cons, insP_bal]
theorem mem_insP {b x : Pbl} : ∀ {s : List Pbl}, x ∈ insP b s → x = b ∨ x ∈ s
  | [], h => by simp [insP] at h; exact .inl h
  | y :: t, h => by
    unfold insP at h
    split at h
    · simpa using h
    · rcases List.mem_cons.1 h with rfl | h
      · exact .inr (by simp)
      · rcases mem_insP h with h | h
        · exact .inl h
        · exact .inr (by simp [h])
theorem len_insP {b : Pbl} : ∀ {s : List Pbl}, (insP b s).length = s.length + 1
  | [] => rfl
  | y :: t => by
    unfold insP
    split
    · simp
    · simp [len_insP (s := t)]
/-- Whether the ballot has been put in ahead. -/
def anyG (m : Int) (s : List Pbl) : Bool := s.any fun x => decide (m < x.mem)
theorem anyG_snoc {m : Int} {s : List Pbl} {k : Nat} {x : Pbl} (h : s[k]? = some x) : anyG m (s.take (k + 1)) = (anyG m (s.take k) || decide (m < x.mem)) := by
  unfold anyG
  rw [List.take_add_one, h, List.any_append]
  simp
theorem insP_put {b x : Pbl} : ∀ {s : List Pbl}, anyG b.mem s = true → insP b (s ++ [x]) = insP b s ++ [x]
  | [], h => by simp [anyG] at h
  | y :: t, h => by
    rw [List.cons_append]
    unfold insP
    split
    · rfl
    · rename_i hl
      have : anyG b.mem t = true := by
        unfold anyG at h ⊢
        rw [List.any_cons, decide_eq_false hl, Bool.false_or] at h
        exact h
      rw [insP_put this]; rfl
theorem insP_end {b : Pbl} : ∀ {s : List Pbl}, anyG b.mem s = false → insP b s = s ++ [b]
  | [], _ => rfl
  | y :: t, h => by
    unfold anyG at h
    rw [List.any_cons, Bool.or_eq_false_iff] at h
    unfold insP
    rw [if_neg (of_decide_eq_false h.1), insP_end h.2]; rfl
theorem insP_mid {b x : Pbl} (hx : b.mem < x.mem) : ∀ {s : List Pbl}, anyG b.mem s = false → insP b (s ++ [x]) = s ++ [b] ++ [x]
  | [], _ => by unfold insP; simp [hx]
  | y :: t, h => by
    unfold anyG at h
    rw [List.any_cons, Bool.or_eq_false_iff] at h
    rw [List.cons_append]
    unfold insP
    rw [if_neg (of_decide_eq_false h.1), insP_mid hx h.2]; rfl
/-- What has been written when the loop is at k. -/
def outK (b : Pbl) (s : List Pbl) (k : Nat) : List Pbl := if anyG b.mem (s.take k) then insP b (s.take k) else s.take k
theorem outK_len {b : Pbl} {s : List Pbl} {k : Nat} (hk : k ≤ s.length) : (outK b s k).length ≤ k + 1 := by
  unfold outK
  split
  · rw [len_insP, List.length_take]; omega
  · rw [List.length_take]; omega
theorem take_snocP {s : List Pbl} {k : Nat} {x : Pbl} (h : s[k]? = some x) : s.take (k + 1) = s.take k ++ [x] := by rw [List.take_add_one, h]; rfl
theorem outK_put {b x : Pbl} {s : List Pbl} {k : Nat} (hx : s[k]? = some x) (h : anyG b.mem (s.take k) = true) : outK b s (k + 1) = outK b s k ++ [x] ∧ anyG b.mem (s.take (k + 1)) = true := by
  have h2 : anyG b.mem (s.take (k + 1)) = true := by rw [anyG_snoc hx, h]; rfl
  refine ⟨?_, h2⟩
  unfold outK
  rw [if_pos h2, if_pos h, take_snocP hx, insP_put h]
theorem outK_mid {b x : Pbl} {s : List Pbl} {k : Nat} (hx : s[k]? = some x) (h : anyG b.mem (s.take k) = false) (hl : b.mem < x.mem) : outK b s (k + 1) = outK b s k ++ [b] ++ [x] ∧ anyG b.mem (s.take (k + 1)) = true := by
  have h2 : anyG b.mem (s.take (k + 1)) = true := by rw [anyG_snoc hx, decide_eq_true hl]; simp
  refine ⟨?_, h2⟩
  unfold outK
  rw [if_pos h2, if_neg (by rw [h]; simp), take_snocP hx, insP_mid hl h]
theorem outK_low {b x : Pbl} {s : List Pbl} {k : Nat} (hx : s[k]? = some x) (h : anyG b.mem (s.take k) = false) (hl : ¬ b.mem < x.mem) : outK b s (k + 1) = outK b s k ++ [x] ∧ anyG b.mem (s.take (k + 1)) = false := by
  have h2 : anyG b.mem (s.take (k + 1)) = false := by rw [anyG_snoc hx, h, decide_eq_false hl]; rfl
  refine ⟨?_, h2⟩
  unfold outK
  rw [if_neg (by rw [h2]; simp), if_neg (by rw [h]; simp), take_snocP hx]
theorem outK_zero {b : Pbl} {s : List Pbl} : outK b s 0 = [] := by unfold outK anyG; simp
theorem outK_done {b : Pbl} {s : List Pbl} {k : Nat} (hk : s.length ≤ k) : (anyG b.mem s = true → outK b s k = insP b s) ∧ (anyG b.mem s = false → outK b s k ++ [b] = insP b s) := by
  unfold outK
  rw [List.take_of_length_le hk]
  exact ⟨fun h => by rw [if_pos h], fun h => by rw [if_neg (by rw [h]; simp), insP_end h]⟩
theorem outBx_no {w w' : World} {R : List Bal} {err er : Nat} {e : Ending} (hR : R = []) (herr : err = er) (he : e = .returned (.tuple #[.slice none 0 0, .int .i64 (er : Int)])) (hb : Below w.heap.size w w') : OutBx w R R.length err e w' := by
  subst hR herr
  exact ⟨none, 0, [], he, rfl, rfl, BS.nil, hb⟩
theorem outBx_yes {w w' : World} {R : List Bal} {err n : Nat} {e : Ending} {ps : List Pbl} {X : Option Addr} {cX : Nat} (hR : R = ps.map Pbl.bal) (herr : err = 0) (hn : n = ps.length) (he : e = .returned (.tuple #[.slice X n cX, .int .i64 0])) (hs : BS w' w'.heap.size ps X cX) (hb : Below w.heap.size w w') : OutBx w R R.length err e w' := by
  subst hR herr hn
  exact ⟨X, cX, ps, by rw [he, List.length_map]; rfl, by rw [List.length_map], rfl, hs, hb⟩
set_option maxRecDepth 1000000 in
set_option maxHeartbeats 16000000 in
theorem ref8Cast_any (num : Int) (l : List Int) (A E : Option Addr) (c cE B : Nat) (ps : List Pbl) (b : Pbl) (w : World) (h : VW w B num l A c) (hs : BS w B ps E cE) (hb : PG w B b) (hB : B ≤ w.heap.size) (hm : ps.length ≤ 1000000) :
    Calls Try.prog 10 #[.agg #[.int .i64 num, .slice A l.length c], .slice E ps.length cE, .agg #[.int .i64 b.mem, .slice b.ptr b.cut.length b.cap]] w (OutBx w (castB num l (ps.map Pbl.bal) b.bal) (castB num l (ps.map Pbl.bal) b.bal).length (castE num l (ps.map Pbl.bal) b.bal)) := by
  have hb0 := boxes2 w #[.int .i64 num, .slice A l.length c] #[.int .i64 b.mem, .slice b.ptr b.cut.length b.cap] 24 27
  have hz := two_blk w 24 27 #[.int .i64 num, .slice A l.length c] #[.int .i64 b.mem, .slice b.ptr b.cut.length b.cap]
  have KV := Lib.hid (fun W (hW : Below w.heap.size w W) => ref8Valid_any num l A E c cE w.heap.size ps W ((h.more hB).below hW) ((hs.more hB).below hW) hW.size)
  have KA := Lib.hid (fun W (hW : Below w.heap.size w W) => show Calls Try.prog 30 #[.agg #[.int .i64 num, .slice A l.length c], .slice b.ptr b.cut.length b.cap] W (PB W (applF num l b.cut)) from refApplicable_any num l b.cut A b.ptr c b.cap W.heap.size W (((h.more hB).below hW).more hW.size) (((hb.more hB).below hW).more hW.size).ls (Nat.le_refl _))
  have KC := Lib.hid (fun W (hW : Below w.heap.size w W) => refContains_any A c w.heap.size l b.mem W ((h.more hB).below hW).rd h.l40)
  have KO := Lib.hid (fun W (hW : Below w.heap.size w W) => ref8Of_any E cE w.heap.size ps b.mem W ((hs.more hB).below hW))
  have RS := Lib.hid (fun W (hW : Below w.heap.size w W) => (hs.more hB).below hW)
  have RB := Lib.hid (fun W (hW : Below w.heap.size w W) => ((hb.more hB).below hW).more hW.size)
  have HB := Lib.hid (show castB num l (ps.map Pbl.bal) b.bal = if castE num l (ps.map Pbl.bal) b.bal = 0 then insF b.bal (ps.map Pbl.bal) else [] from rfl)
  have HE := Lib.hid (show castE num l (ps.map Pbl.bal) b.bal = if (okB num l (ps.map Pbl.bal) && applF num l b.cut) = false then 1 else if hasB l b.mem = false then 6 else if hasM (ps.map Pbl.bal) b.mem then 7 else 0 from rfl)
  have HO := Lib.hid (ofI_iff (m := b.mem) (s := ps.map Pbl.bal) (i := 0))
  obtain ⟨er, her⟩ : ∃ q, q = castE num l (ps.map Pbl.bal) b.bal := ⟨_, rfl⟩
  obtain ⟨R, hR⟩ : ∃ q, q = castB num l (ps.map Pbl.bal) b.bal := ⟨_, rfl⟩
  rw [← her] at HB HE ⊢
  rw [← hR] at HB ⊢
  have ND := Lib.hid (fun w' e er' h1 h2 h3 h4 => outBx_no (w := w) (w' := w') (R := R) (err := er) (er := er') (e := e) h1 h2 h3 h4)
  have YD := Lib.hid (fun ps' X cX n' w' e h1 h2 h3 h4 h5 h6 => outBx_yes (w := w) (w' := w') (R := R) (err := er) (n := n') (e := e) (ps := ps') (X := X) (cX := cX) h1 h2 h3 h4 h5 h6)
  obtain ⟨Q, hQ⟩ : ∃ Q, Q = OutBx w R R.length er := ⟨_, rfl⟩
  rw [← hQ] at ND YD ⊢
  obtain ⟨oi, hoi⟩ : ∃ q, q = ofI b.mem 0 (ps.map Pbl.bal) := ⟨_, rfl⟩
  rw [← hoi] at KO HO
  obtain ⟨n, hn⟩ : ∃ n, n = l.length := ⟨_, rfl⟩
  obtain ⟨ns, hns⟩ : ∃ n, n = ps.length := ⟨_, rfl⟩
  have HNS := Lib.hid hns
  rw [← hn] at hb0 hz KV KA KC ⊢
  rw [← hns] at KV KO hm ⊢
  obtain ⟨bm, bp, bc, bl⟩ := b
  dsimp only [Pbl.bal] at *
  obtain ⟨nb, hnb⟩ : ∃ q, q = bl.length := ⟨_, rfl⟩
  have HNB := Lib.hid hnb
  rw [← hnb] at hb0 hz KA ⊢
  have B0 := Lib.hid hb0
  have Z1 := Lib.hid hz.1
  have Z2 := Lib.hid hz.2
  clear hb0 hz hn hns her hR hQ hoi hnb h hs hb hB
  go_enter Try.func10, Try.ntmps10
  go_upto_region 1 with fail
  generalize (w.alloc (.cells #[.int .i64 num, .slice A n c] 24)).alloc (.cells #[.int .i64 bm, .slice bp nb bc] 27) = w0 at *
  have FB := Lib.hid (fun W (hW : Below w0.heap.size w0 W) => And.intro (blk2 (Z1.out.below hW Z1.out.lt)) (blk2 (Z2.out.below hW Z2.out.lt)))
  have p0 := FB.out _ (Below.refl _ _)
  cases hv : okB num l (ps.map Pbl.bal)
  · have HN := Lib.hid (show er = 1 by rw [HE.out, hv]; rfl)
    have HRN := Lib.hid (show R = [] by rw [HB.out, HN.out]; rfl)
    rw [hv] at KV
    clear hv HE HB
    go_wp2_with (first
      | (go_at_call 13; (with_reducible refine (KV.out _ B0.out).mono ?_); rintro e w1 ⟨rfl, q1⟩)
      | fail)
    exact ND.out _ _ 1 HRN.out HN.out rfl (below2 B0.out q1)
  rw [hv] at KV HE
  cases ha : applF num l bl
  · have HN := Lib.hid (show er = 1 by rw [HE.out, ha]; rfl)
    have HRN := Lib.hid (show R = [] by rw [HB.out, HN.out]; rfl)
    rw [ha] at KA
    clear hv ha HE HB
    go_wp2_with (first
      | (go_at_call 13; (with_reducible refine (KV.out _ B0.out).mono ?_); rintro e w1 ⟨rfl, q1⟩; (have p1 := FB.out _ q1); (have c1 := below2 B0.out q1))
      | (go_at_call 30; (with_reducible refine (KA.out _ c1).mono ?_); rintro e w2 ⟨rfl, q2⟩)
      | fail)
    exact ND.out _ _ 1 HRN.out HN.out rfl (below2 c1 q2)
  rw [ha] at KA HE
  go_upto_region 3 with (first
    | (go_at_call 13; (with_reducible refine (KV.out _ B0.out).mono ?_); rintro e w1 ⟨rfl, q1⟩; (have p1 := FB.out _ q1); (have c1 := below2 B0.out q1))
    | (go_at_call 30; (with_reducible refine (KA.out _ c1).mono ?_); rintro e w2 ⟨rfl, q2⟩)
    | fail)
  have V2 := Lib.hid (below2 q1 q2)
  have W2 := Lib.hid (below2 c1 q2)
  have p2 := FB.out _ V2.out
  clear p0 p1 c1 q1 q2 hv ha KV KA
  cases hc : hasB l bm
  · have HN := Lib.hid (show er = 6 by rw [HE.out, hc]; rfl)
    have HRN := Lib.hid (show R = [] by rw [HB.out, HN.out]; rfl)
    rw [hc] at KC
    clear hc HE HB
    go_wp2_with (first
      | (go_at_call 31; (with_reducible refine (KC.out _ W2.out).mono ?_); rintro e w3 ⟨rfl, rfl⟩)
      | fail)
    exact ND.out _ _ 6 HRN.out HN.out rfl W2.out
  rw [hc] at KC HE
  obtain ⟨ho1, ho2, ho3⟩ := HO.out
  cases hh : hasM (ps.map Pbl.bal) bm
  rotate_left 1
  · have HN := Lib.hid (show er = 7 by rw [HE.out, hh]; rfl)
    have HRN := Lib.hid (show R = [] by rw [HB.out, HN.out]; rfl)
    have g0 : (0 : Int) ≤ oi := ho1.2 hh
    clear hc hh HE HB ho1 ho2 ho3
    go_wp2_with (first
      | (go_at_call 31; (with_reducible refine (KC.out _ W2.out).mono ?_); rintro e w3 ⟨rfl, rfl⟩)
      | (go_at_call 32; (with_reducible refine (KO.out _ W2.out).mono ?_); rintro e w4 ⟨rfl, rfl⟩)
      | fail)
    exact ND.out _ _ 7 HRN.out HN.out rfl W2.out
  have HN := Lib.hid (show er = 0 by rw [HE.out, hh]; rfl)
  have HRN := Lib.hid (show R = insF ⟨bm, bl⟩ (ps.map Pbl.bal) by rw [HB.out, HN.out]; rfl)
  have g0 : ¬ (0 : Int) ≤ oi := fun q => by rw [ho1.1 q] at hh; cases hh
  clear hc hh HE HB ho1 ho2 ho3
  go_wp2_with (first
    | (go_at_call 31; (with_reducible refine (KC.out _ W2.out).mono ?_); rintro e w3 ⟨rfl, rfl⟩)
    | (go_at_call 32; (with_reducible refine (KO.out _ W2.out).mono ?_); rintro e w4 ⟨rfl, rfl⟩)
    | fail)
  clear p2 KC KO g0
  obtain ⟨bb, hbb⟩ : ∃ q : Pbl, q = ⟨bm, bp, bc, bl⟩ := ⟨_, rfl⟩
  have HBB := Lib.hid hbb
  have EB := Lib.hid (fun W (hW : Below w.heap.size w W) => show PG W W.heap.size bb by rw [hbb]; exact RB.out W hW)
  have HIP := Lib.hid (show R = (insP bb ps).map Pbl.bal by rw [insP_bal, HRN.out, hbb]; rfl)
  have HCB := Lib.hid (show balC bb = [.int .i64 bm, .slice bp nb bc] by rw [hbb, HNB.out]; rfl)
  have HMB := Lib.hid (show bb.mem = bm by rw [hbb])
  clear hbb RB HRN HNB
  have EA := Lib.hid (fun W (hW : Below w.heap.size w W) p (hp : p ∈ insP bb ps) => show PG W W.heap.size p by
    rcases mem_insP hp with rfl | h
    · exact EB.out W hW
    · exact ((RS.out W hW).el p h).more hW.size)
  go_loopg [8, 9, 10] ns (fun gk s8 s9 s10 wr => ∃ (k : Nat) (pt : Bool), k + gk = ns ∧ s10 = .int .i64 k ∧ s9 = .bool pt ∧ Hid (pt = anyG bb.mem (ps.take k)) ∧ Hid (wr.ownsRow w0.heap.size 27 2 s8 (outK bb ps k).length (balsC (outK bb ps k))) ∧ Hid (Below w0.heap.size w0 wr))
  case atStart => exact ⟨0, false, by omega, rfl, rfl, rfl, by rw [outK_zero]; exact World.ownsRow_nil _ _ _ _, V2.out⟩
  case round =>
    obtain ⟨k, pt, hkg, rfl, rfl, HP, HO8, HW⟩ := hrel
    have BW := Lib.hid (below2 B0.out HW.out)
    have hws := HW.out.size
    have p3 := FB.out _ HW.out
    have LK := Lib.hid (show (outK bb ps k).length ≤ k + 1 from outK_len (by rw [← HNS.out]; omega))
    have lk5 : (outK bb ps k).length ≤ 1000001 := by have := LK.out; omega
    cases gk with
    | zero =>
      have hkz : ¬ ((k : Int) < (ns : Int)) := by omega
      obtain ⟨HD1, HD2⟩ := outK_done (b := bb) (s := ps) (k := k) (by rw [← HNS.out]; omega)
      have HP2 := Lib.hid (show pt = anyG bb.mem ps by rw [HP.out, List.take_of_length_le (by rw [← HNS.out]; omega)])
      cases pt
      · have HF := Lib.hid (HD2 HP2.out.symm)
        clear HD1 HD2 HP HP2
        generalize outK bb ps k = P at *
        go_wp2_with (first
          | (at_builtin; go_loud (refine wp_append_bal _ rfl (.tmp 64) (.tmp 66) rfl w0.heap.size _ P bb _ _ _ rfl (HO8.out.alloc _) rfl (by rw [HCB.out]; exact reads_blk _ #[.int .i64 bm, .slice bp nb bc] _) (by omega) (by have := HW.out.size; simp; omega) ?_; intro v4 w4 ho4 hb4))
          | fail)
        rw [HF.out] at ho4
        have HL := Lib.hid (len_insP (b := bb) (s := ps))
        have c4 := (BW.out.alloc BW.out.size (.cells #[.int .i64 bm, .slice bp nb bc] 27)).trans (hb4.mono B0.out.size)
        obtain ⟨X, cX, rfl, hx⟩ := BS.of_own ho4 (by rw [HL.out, ← HNS.out]; omega) (EA.out _ c4)
        exact YD.out _ X cX _ _ _ HIP.out HN.out rfl rfl hx c4
      · have HF := Lib.hid (HD1 HP2.out.symm)
        rw [HF.out] at HO8
        have HL := Lib.hid (len_insP (b := bb) (s := ps))
        obtain ⟨X, cX, rfl, hx⟩ := BS.of_own HO8.out (by rw [HL.out, ← HNS.out]; omega) (EA.out _ BW.out)
        clear HD1 HD2 HP HP2 LK lk5
        obtain ⟨nI, hnI⟩ : ∃ q, q = (insP bb ps).length := ⟨_, rfl⟩
        have HNI := Lib.hid hnI
        rw [← hnI]
        clear hnI
        go_wp2_with fail
        exact YD.out _ X cX nI _ _ HIP.out HN.out HNI.out rfl hx BW.out
    | succ gi =>
      have hkz : (k : Int) < (ns : Int) := by omega
      have hk0 : ¬ (k : Int) < 0 := by omega
      obtain ⟨x, hx⟩ : ∃ x, ps[k]? = some x := ⟨_, List.getElem?_eq_getElem (by have := HNS.out; omega)⟩
      have RD := Lib.hid (fun W (hW : Below wr.heap.size wr W) => by
        have q := (RS.out W (below2 BW.out hW)).rd
        rw [← HNS.out] at q
        exact q)
      obtain ⟨ad, rfl, -, -, x0, x1⟩ := bal_at (RD.out wr (Below.refl _ _)) hx
      have HX := Lib.hid hx
      have F1 := Lib.hid (fun W (hW : Below w.heap.size w W) => show _ ∧ _ from by
        have q := (RS.out W hW).rd
        exact bal_at2 q HX.out)
      cases pt
      · by_cases hlt : bb.mem < x.mem
        · obtain ⟨HS1, HS2⟩ := outK_mid hx HP.out.symm hlt
          have g1 : decide (bm < x.mem) = true := decide_eq_true (by rw [← HMB.out]; exact hlt)
          clear hlt hx HP
          go_upto_region 12 with fail
          go_cut [50] from 39 to 50 (fun s50 wx => s50 = .bool true ∧ Hid (Below wr.heap.size wr wx))
          case first =>
            go_quiet (fail)
            go_wp2_with fail
            go_meet
            exact ⟨rfl, below_drewN' (Below.refl _ _) _⟩
          case rest =>
          obtain ⟨rfl, HB5⟩ := hcut
          generalize wc = w5 at *
          have V5 := Lib.hid (below2 HW.out HB5.out)
          have p5 := FB.out _ V5.out
          have HO5 := Lib.hid (own_below HO8.out HB5.out)
          have hs5 := V5.out.size
          generalize outK bb ps k = P at *
          clear p3 x0 x1
          go_upto_region 14 with (first
            | (at_builtin; go_loud (refine wp_append_bal _ rfl (.tmp 51) (.tmp 53) rfl w0.heap.size _ P bb _ _ _ rfl (HO5.out.alloc _) rfl (by rw [HCB.out]; exact reads_blk _ #[.int .i64 bm, .slice bp nb bc] _) (by omega) (by have := hs5; simp; omega) ?_; intro v6 w6 ho6 hb6))
            | fail)
          have V6 := Lib.hid ((V5.out.alloc hs5 (.cells #[.int .i64 bm, .slice bp nb bc] 27)).trans hb6)
          have hs6 := V6.out.size
          have HO6 := Lib.hid ho6
          obtain ⟨x0, x1⟩ := F1.out _ (B0.out.trans (V6.out.mono B0.out.size))
          have LP := Lib.hid (show (P ++ [bb]).length = P.length + 1 by simp)
          clear ho6 hb6 p5
          go_wp2_with (first
            | (at_builtin; go_loud (refine wp_append_bal _ rfl (.tmp 55) (.tmp 60) rfl w0.heap.size _ (P ++ [bb]) x _ _ _ rfl (HO6.out.alloc _) rfl (reads_blk _ #[.int .i64 x.mem, .slice x.ptr x.cut.length x.cap] _) (by have := LK.out; have := LP.out; omega) (by have := hs6; simp; omega) ?_; intro v7 w7 ho7 hb7))
            | fail)
          go_roundg gi
          case measure => omega
          case rel => exact ⟨k + 1, true, by omega, by go_num, rfl, HS2.symm, by rw [HS1]; exact ho7, (V6.out.alloc hs6 _).trans hb7⟩
        · obtain ⟨HS1, HS2⟩ := outK_low hx HP.out.symm hlt
          have g1 : decide (bm < x.mem) = false := decide_eq_false (by rw [← HMB.out]; exact hlt)
          clear hlt hx HP
          go_upto_region 12 with fail
          go_cut [50] from 39 to 50 (fun s50 wx => s50 = .bool false ∧ Hid (Below wr.heap.size wr wx))
          case first =>
            go_quiet (fail)
            go_wp2_with fail
            go_meet
            exact ⟨rfl, below_drewN' (Below.refl _ _) _⟩
          case rest =>
          obtain ⟨rfl, HB5⟩ := hcut
          generalize wc = w5 at *
          have V5 := Lib.hid (below2 HW.out HB5.out)
          have p5 := FB.out _ V5.out
          obtain ⟨x0, x1⟩ := F1.out _ (below2 BW.out HB5.out)
          have HO5 := Lib.hid (own_below HO8.out HB5.out)
          have hs5 := V5.out.size
          generalize outK bb ps k = P at *
          go_wp2_with (first
            | (at_builtin; go_loud (refine wp_append_bal _ rfl (.tmp 55) (.tmp 60) rfl w0.heap.size _ P x _ _ _ rfl (HO5.out.alloc _) rfl (reads_blk _ #[.int .i64 x.mem, .slice x.ptr x.cut.length x.cap] _) (by have := LK.out; first | (simp; omega) | omega) (by have := hs5; simp; omega) ?_; intro v7 w7 ho7 hb7))
            | fail)
          go_roundg gi
          case measure => omega
          case rel => exact ⟨k + 1, false, by omega, by go_num, rfl, HS2.symm, by rw [HS1]; exact ho7, (V5.out.alloc hs5 _).trans hb7⟩
      · obtain ⟨HS1, HS2⟩ := outK_put hx HP.out.symm
        clear hx HP
        go_upto_region 12 with fail
        go_cut [50] from 39 to 50 (fun s50 wx => s50 = .bool false ∧ Hid (Below wr.heap.size wr wx))
        case first =>
          go_quiet (fail)
          go_wp2_with fail
          go_meet
          exact ⟨rfl, below_drewN' (Below.refl _ _) _⟩
        case rest =>
        obtain ⟨rfl, HB5⟩ := hcut
        generalize wc = w5 at *
        have V5 := Lib.hid (below2 HW.out HB5.out)
        have p5 := FB.out _ V5.out
        obtain ⟨x0, x1⟩ := F1.out _ (below2 BW.out HB5.out)
        have HO5 := Lib.hid (own_below HO8.out HB5.out)
        have hs5 := V5.out.size
        generalize outK bb ps k = P at *
        go_wp2_with (first
          | (at_builtin; go_loud (refine wp_append_bal _ rfl (.tmp 55) (.tmp 60) rfl w0.heap.size _ P x _ _ _ rfl (HO5.out.alloc _) rfl (reads_blk _ #[.int .i64 x.mem, .slice x.ptr x.cut.length x.cap] _) (by have := LK.out; first | (simp; omega) | omega) (by have := hs5; simp; omega) ?_; intro v7 w7 ho7 hb7))
          | fail)
        go_roundg gi
        case measure => omega
        case rel => exact ⟨k + 1, true, by omega, by go_num, rfl, HS2.symm, by rw [HS1]; exact ho7, (V5.out.alloc hs5 _).trans hb7⟩
end Go.Proofs.Ytmnagkjdnmnbkaa.Fv
