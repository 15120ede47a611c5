/- Layer 8: the walk of VoteOnce. -/
import Derived.Test.YtmnagkjdnmnbkaaFOnce0
namespace Go.Proofs.Ytmnagkjdnmnbkaa.Fv
set_option linter.unusedVariables false
set_option linter.unusedSimpArgs false
open Go.RowKit
open Go.Lib (byteCells byteCells_length)
open Go.Proofs.Ytmnagkjdnmnbkaa.W
open Go.Proofs.Ytmnagkjdnmnbkaa.V

theorem u8_at {W : World} {B n k : Nat} {A : Option Addr} {us : List UInt8} (h : Reads W B 1 A n (byteCells us)) (hk : k < n) : ∃ ad x, A = some ad ∧ ad.block < B ∧ x < 256 ∧ W.cell? (ad.add k) = some (.int .u8 ((x : Nat) : Int)) := by
  obtain ⟨ad, u, hA, hb, hu, hc⟩ := h.at_ hk
  have hl : k < us.length := by
    have := (List.getElem?_eq_some_iff.1 hu).1
    rwa [byteCells_length] at this
  rw [byteCells_get hl] at hu
  refine ⟨ad, us[k].toNat, hA, hb, UInt8.toNat_lt _, ?_⟩
  rw [hc, ← hu]
/-- What holds at the head of the loop. -/
structure OnI (num : Int) (l : List Int) (W : World) (s : List Bal) (ps : List Pbl) (X : Option Addr) (cX nb : Nat) (wl : List Int) (Z : Option Addr) (cZ nz : Nat) (dd : Bool) : Prop where
  ok : okB num l s = true
  cut : ∀ b ∈ s, b.cut.length = 1
  map : ps.map Pbl.bal = s
  nbE : nb = s.length
  box : BS W W.heap.size ps X cX
  nzE : nz = wl.length
  won : LS W W.heap.size wl Z cZ
  win : (nz = 0 ∧ winF num l s = none) ∨ (nz = 1 ∧ winF num l s = some wl)
  ddE : dd = undF num l s
theorem OnI.step {num : Int} {l : List Int} {W W' : World} {s : List Bal} {ps : List Pbl} {X : Option Addr} {cX nb : Nat} {wl : List Int} {Z : Option Addr} {cZ nz : Nat} {dd : Bool} (h : OnI num l W s ps X cX nb wl Z cZ nz dd) (hb : Below W.heap.size W W') : OnI num l W' s ps X cX nb wl Z cZ nz dd :=
  ⟨h.ok, h.cut, h.map, h.nbE, h.box.step hb, h.nzE, (h.won.below hb).more hb.size, h.win, h.ddE⟩
theorem OnI.cuts {num : Int} {l : List Int} {W : World} {s : List Bal} {ps : List Pbl} {X : Option Addr} {cX nb : Nat} {wl : List Int} {Z : Option Addr} {cZ nz : Nat} {dd : Bool} (h : OnI num l W s ps X cX nb wl Z cZ nz dd) : ∀ q ∈ ps, q.cut.length ≤ 1000 := fun q hq => by
  have := h.cut q.bal (by rw [← h.map]; exact List.mem_map.2 ⟨q, hq, rfl⟩)
  show q.bal.cut.length ≤ 1000
  omega
theorem cut_ins {s : List Bal} {b : Bal} (h : ∀ x ∈ s, x.cut.length = 1) (hb : b.cut.length = 1) : ∀ x ∈ insF b s, x.cut.length = 1 := fun x hx => by
  rcases mem_insF.1 hx with rfl | hx
  · exact hb
  · exact h x hx
set_option maxRecDepth 1000000 in
set_option maxHeartbeats 16000000 in
theorem lawOnce_of (C : VoteC) (num : Int) (l : List Int) (A U T : Option Addr) (c nu cu nt ct : Nat) (us ts : List UInt8) (w : World) (h : VL w w.heap.size num l A c) (hu : Reads w w.heap.size 1 U nu (byteCells us)) (ht : Reads w w.heap.size 1 T nt (byteCells ts)) :
    Calls Try.prog 5 #[.agg #[.int .i64 num, .slice A l.length c], .slice U nu cu, .slice T nt ct] w (PB w true) := by
  have hb0 := (Below.refl w.heap.size w).alloc (Nat.le_refl _) (.cells #[.int .i64 num, .slice A l.length c] 24)
  have hz := Blk.new w 24 #[.int .i64 num, .slice A l.length c]
  have AW := Lib.hid (fun W => awake_of C W)
  have KT := Lib.hid (fun W (hW : Below w.heap.size w W) => cuts8_any num l A c w.heap.size W (h.below hW) hW.size)
  have KV := Lib.hid (fun W (hW : Below w.heap.size w W) => refValid_all num l A c w.heap.size W h.num64 (h.below hW).rd h.el h.cap hW.size)
  have RD := Lib.hid (fun W (hW : Below w.heap.size w W) => (h.below hW).rd)
  have EL := Lib.hid h.el
  have VV := Lib.hid (fun (hl : l.length ≤ 16) W (hW : Below w.heap.size w W) => show VW W W.heap.size num l A c from ⟨h.num64, (h.rd.below hW).more hW.size, by omega, h.el, h.cap⟩)
  have RU := Lib.hid (fun W (hW : Below w.heap.size w W) => (hu.below hW).more hW.size)
  have RT := Lib.hid (fun W (hW : Below w.heap.size w W) => (ht.below hW).more hW.size)
  obtain ⟨n, hn⟩ : ∃ n, n = l.length := ⟨_, rfl⟩
  have HN := Lib.hid hn
  rw [← hn] at hb0 hz KT KV RD ⊢
  have B0 := Lib.hid hb0
  have Z1 := Lib.hid hz
  clear hb0 hz hn h hu ht
  go_enter Try.func5, Try.ntmps5
  go_upto_region 1 with fail
  generalize w.alloc (.cells #[.int .i64 num, .slice A n c] 24) = w0 at *
  have FB := Lib.hid (fun W (hW : Below w0.heap.size w0 W) => (blk2 (Z1.out.below hW Z1.out.lt)))
  go_upto_region 4 with (first
    | (go_at_call 7; (with_reducible refine (AW.out _).mono ?_); rintro e w1 ⟨rfl, q1⟩; (have c1 := below2 B0.out q1); (have p1 := FB.out _ q1))
    | (go_at_call 22; (with_reducible refine (KT.out _ c1).mono ?_); rintro e w2 ⟨A2, c2, n2, cs, rfl, hn2, hcs, q2⟩; (have HN2 := Lib.hid hn2); (have HCS := Lib.hid hcs); clear hn2 hcs; (have u2 := below2 c1 q2); (have v2 := below2 q1 q2); (have p2 := FB.out _ v2))
    | fail)
  have V2 := Lib.hid v2
  have W2 := Lib.hid u2
  have hn23 : n2 ≤ 3 := by rw [HN2.out]; exact HCS.out.len
  clear p1 q1 c1 q2 u2 v2 AW KT
  cases hv : validV num l
  · rw [hv] at KV
    clear hv
    go_wp2_with (first
      | (go_at_call 23; (with_reducible refine (KV.out _ W2.out).mono ?_); rintro e w3 ⟨rfl, q3⟩)
      | fail)
    go_ret
    exact ⟨rfl, below2 W2.out q3⟩
  rw [hv] at KV
  have HV := Lib.hid hv
  rcases Nat.eq_zero_or_pos n2 with h0 | h0
  · have e0 : ((n2 : Int) == 0) = true := beqT (by omega)
    clear hv h0
    go_wp2_with (first
      | (go_at_call 23; (with_reducible refine (KV.out _ W2.out).mono ?_); rintro e w3 ⟨rfl, q3⟩)
      | fail)
    go_ret
    exact ⟨rfl, below2 W2.out q3⟩
  have e0 : ((n2 : Int) == 0) = false := beqF (by omega)
  by_cases h40 : (40 : Int) < (nu : Int)
  · clear hv h0
    go_wp2_with (first
      | (go_at_call 23; (with_reducible refine (KV.out _ W2.out).mono ?_); rintro e w3 ⟨rfl, q3⟩)
      | fail)
    go_ret
    exact ⟨rfl, below2 W2.out q3⟩
  by_cases hnt : (nt : Int) < (nu : Int)
  · clear hv h0
    go_wp2_with (first
      | (go_at_call 23; (with_reducible refine (KV.out _ W2.out).mono ?_); rintro e w3 ⟨rfl, q3⟩)
      | fail)
    go_ret
    exact ⟨rfl, below2 W2.out q3⟩
  obtain ⟨hM1, hM2, hMA, -⟩ := validM_iff.1 (validV_iff.1 hv).2.2
  have hl16 : l.length ≤ 16 := hM2
  rw [← HN.out] at hM1 hM2
  have R3 := Lib.hid (fun W (hW : Below w2.heap.size w2 W) => show Reads W W.heap.size 1 A2 n2 (cs.map slcV) by
    have := ((HCS.out.rd.below hW).more hW.size)
    rwa [← HN2.out] at this)
  clear hv
  go_upto_region 10 with (first
    | (go_at_call 23; (with_reducible refine (KV.out _ W2.out).mono ?_); rintro e w3 ⟨rfl, q3⟩; (have p3 := FB.out _ (below2 V2.out q3)))
    | fail)
  have V3 := Lib.hid (below2 V2.out q3)
  have W3 := Lib.hid (below2 W2.out q3)
  have S3 := Lib.hid (fun W (hW : Below w3.heap.size w3 W) => R3.out W (below2 q3 hW))
  have GP := Lib.hid (fun W (hW : Below w3.heap.size w3 W) (p : Plc) (hp : p ∈ cs) => (HCS.out.el p hp).step (below2 q3 hW))
  have HL16 := Lib.hid hl16
  clear p2 p3 KV R3 q3 hl16
  have UW := Lib.hid (fun W (hW : Below w3.heap.size w3 W) => below2 W3.out hW)
  have KC := Lib.hid (fun (s : List Bal) (ps : List Pbl) X cX nb wl Z cZ nz dd (mm : Int) (hmm : mm ∈ l) xp xc xl (hx1 : xl.length = 1) W (hW : Below w3.heap.size w3 W) (hI : OnI num l W s ps X cX nb wl Z cZ nz dd) (hL : LS W W.heap.size xl xp xc) => show Calls Try.prog 9 #[.agg #[.int .i64 num, .slice A n c], .slice X nb cX, .agg #[.int .i64 mm, .slice xp 1 xc]] W (OutBx W (castB num l s ⟨mm, xl⟩) (castB num l s ⟨mm, xl⟩).length (castE num l s ⟨mm, xl⟩)) by
    have hl := len_map_eq hI.map
    have hbl := box_len hI.ok
    have h16 := HL16.out
    have r := C.cast num l A X c cX W.heap.size ps ⟨mm, xp, xc, xl⟩ W (VV.out HL16.out W (UW.out W hW)) hI.box ⟨hL, EL.out _ hmm⟩ (Nat.le_refl _) (by omega)
    dsimp only at r
    rw [hl, ← hI.nbE, ← HN.out, hx1, hI.map] at r
    exact r)
  have KW := Lib.hid (fun (s : List Bal) (ps : List Pbl) (nb : Nat) (hok : okB num l s = true) (hcut : ∀ b ∈ s, b.cut.length = 1) (hmap : ps.map Pbl.bal = s) (hnb : nb = s.length) X cX W (hW : Below w3.heap.size w3 W) (hE : BS W W.heap.size ps X cX) => show Calls Try.prog 16 #[.agg #[.int .i64 num, .slice A n c], .slice X nb cX] W (OutWn W ((winF num l s).getD []) ((winF num l s).getD []).length (winF num l s).isSome) by
    have hl := len_map_eq hmap
    have hbl := box_len hok
    have h16 := HL16.out
    have r := C.win num l A X c cX W.heap.size ps W (VV.out HL16.out W (UW.out W hW)) hE (Nat.le_refl _) (by omega) (by omega) (fun q hq => by
      have := hcut q.bal (by rw [← hmap]; exact List.mem_map.2 ⟨q, hq, rfl⟩)
      show q.bal.cut.length ≤ 1000
      omega)
    rw [hl, ← hnb, ← HN.out, hmap] at r
    exact r)
  have KU := Lib.hid (fun (s : List Bal) (ps : List Pbl) (nb : Nat) (hok : okB num l s = true) (hcut : ∀ b ∈ s, b.cut.length = 1) (hmap : ps.map Pbl.bal = s) (hnb : nb = s.length) X cX W (hW : Below w3.heap.size w3 W) (hE : BS W W.heap.size ps X cX) => show Calls Try.prog 20 #[.agg #[.int .i64 num, .slice A n c], .slice X nb cX] W (PB W (undF num l s)) by
    have hl := len_map_eq hmap
    have hbl := box_len hok
    have h16 := HL16.out
    have r := C.und num l A X c cX W.heap.size ps W (VV.out HL16.out W (UW.out W hW)) hE (Nat.le_refl _) (by omega) (by omega) (fun q hq => by
      have := hcut q.bal (by rw [← hmap]; exact List.mem_map.2 ⟨q, hq, rfl⟩)
      show q.bal.cut.length ≤ 1000
      omega)
    rw [hl, ← hnb, ← HN.out, hmap] at r
    exact r)
  have KVB := Lib.hid (fun (s : List Bal) (ps : List Pbl) (nb : Nat) (hok : okB num l s = true) (hmap : ps.map Pbl.bal = s) (hnb : nb = s.length) X cX W (hW : Below w3.heap.size w3 W) (hE : BS W W.heap.size ps X cX) => show Calls Try.prog 12 #[.agg #[.int .i64 num, .slice A n c], .slice X nb cX] W (PB W true) by
    have hl := len_map_eq hmap
    have hbl := box_len hok
    have h16 := HL16.out
    have r := C.valid num l A X c cX W.heap.size ps W (VV.out HL16.out W (UW.out W hW)) hE (Nat.le_refl _) (by omega)
    rw [hl, ← hnb, ← HN.out, hmap, hok] at r
    exact r)
  go_loopg [8, 9, 10, 11, 12, 13, 14, 15, 16] nu (fun gk s8 s9 s10 s11 _ _ _ _ _ wr => ∃ (k nb nz : Nat) (s : List Bal) (ps : List Pbl) (X : Option Addr) (cX : Nat) (wl : List Int) (Z : Option Addr) (cZ : Nat) (dd : Bool), k + gk = nu ∧ s11 = .int .i64 k ∧ s8 = .slice X nb cX ∧ s9 = .slice Z nz cZ ∧ s10 = .bool dd ∧ Hid (OnI num l wr s ps X cX nb wl Z cZ nz dd) ∧ Hid (Below w3.heap.size w3 wr))
  case atStart =>
    exact ⟨0, 0, 0, [], [], none, 0, [], none, 0, false, by omega, rfl, rfl, rfl, rfl, ⟨okB_nil HV.out, fun b hb => (by cases hb), rfl, rfl, BS.nil, rfl, ⟨Reads.none_, by show 0 ≤ _; omega, fun x hx => (by cases hx), Nat.zero_le _⟩, .inl ⟨rfl, win_nil⟩, (und_nil HV.out).symm⟩, Below.refl _ _⟩
  case round =>
    obtain ⟨k, nb, nz, s, ps, X, cX, wl, Z, cZ, dd, hkg, rfl, rfl, rfl, rfl, HI, HW⟩ := hrel
    obtain ⟨wx, rfl⟩ : ∃ wx : World, wx = wr := ⟨_, rfl⟩
    have BW := Lib.hid (below2 W3.out HW.out)
    have FV := Lib.hid (fun W (hW : Below wx.heap.size wx W) => FB.out W (below2 V3.out (below2 HW.out hW)))
    have hbn : nb ≤ n := by
      have := box_len HI.out.ok
      rw [HI.out.nbE, HN.out]; exact this
    cases gk with
    | zero =>
      have hkz : ¬ ((k : Int) < (nu : Int)) := by omega
      have px := FV.out wx (Below.refl _ _)
      have hle : decide ((nb : Int) ≤ (n : Int)) = true := decide_eq_true (by omega)
      go_wp2_with (first
        | (go_at_call 12; (with_reducible refine (KVB.out s ps nb HI.out.ok HI.out.map HI.out.nbE X cX _ HW.out HI.out.box).mono ?_); rintro e w4 ⟨rfl, q4⟩; (have p4 := FV.out _ q4))
        | fail)
      go_ret
      exact ⟨rfl, below2 BW.out q4⟩
    | succ gi =>
      have hkz : (k : Int) < (nu : Int) := by omega
      have hkt : (k : Int) < (nt : Int) := by omega
      have hk0 : ¬ (k : Int) < 0 := by omega
      obtain ⟨au, xu, rfl, hub, hxu, hcu⟩ := u8_at (RU.out wx BW.out) (k := k) (by omega)
      obtain ⟨at', xt, rfl, htb, hxt, hct⟩ := u8_at (RT.out wx BW.out) (k := k) (by omega)
      obtain ⟨mi, hmi, -, hmt⟩ := mod_idx8 xu n (by omega)
      obtain ⟨ji, hji, -, hjt⟩ := mod_idx8 xt n2 h0
      have wxu : IntKind.i64.wrap (xu : Int) = (xu : Int) := IntWalk.i64_in _ (by omega)
      have wxt : IntKind.i64.wrap (xt : Int) = (xt : Int) := IntWalk.i64_in _ (by omega)
      have wmi : IntKind.i64.wrap (mi : Int) = (mi : Int) := IntWalk.i64_in _ (by omega)
      have wji : IntKind.i64.wrap (ji : Int) = (ji : Int) := IntWalk.i64_in _ (by omega)
      have hmi' : (mi : Int) < (n : Int) := by omega
      have hmi0 : ¬ (mi : Int) < 0 := by omega
      have hji' : (ji : Int) < (n2 : Int) := by omega
      have hji0 : ¬ (ji : Int) < 0 := by omega
      have en : ((n : Int) == 0) = false := beqF (by omega)
      have en2 : ¬ n = 0 := by omega
      have en3 : ¬ (n : Int) = 0 := by omega
      have em2 : ¬ n2 = 0 := by omega
      have em3 : ¬ (n2 : Int) = 0 := by omega
      obtain ⟨p, hp⟩ : ∃ p, cs[ji]? = some p := ⟨_, List.getElem?_eq_getElem (by have := HN2.out; omega)⟩
      obtain ⟨ad, rfl, had, hcs⟩ := slc_at (S3.out wx HW.out) hp hji
      obtain ⟨am, u, rfl, ham, hmu, hcm⟩ := (RD.out wx BW.out).at_ hmi
      obtain ⟨mm, hmm⟩ : ∃ mm, l[mi]? = some mm := ⟨_, List.getElem?_eq_getElem (by have := HN.out; omega)⟩
      have hux : u = .int .i64 mm := by simp [hmm, intV] at hmu; exact hmu.symm
      rw [hux] at hcm
      have hml : mm ∈ l := List.mem_of_getElem? hmm
      have gp := GP.out wx HW.out p (List.mem_of_getElem? hp)
      have HX1 := Lib.hid gp.one
      have HAP := Lib.hid gp.ok
      have HLS := Lib.hid gp.ls
      have HML := Lib.hid hml
      rw [gp.one] at hcs
      clear gp hp hml hmm hmu
      have FX := Lib.hid (fun W (hW : Below wx.heap.size wx W) => And.intro (FV.out W hW) (And.intro ((hW.cell (p := au.add k) (by rw [block_of_add]; exact hub)).trans hcu) (And.intro ((hW.cell (p := at'.add k) (by rw [block_of_add]; exact htb)).trans hct) (And.intro ((hW.cell (p := ad.add ji) (by rw [block_of_add]; exact had)).trans hcs) ((hW.cell (p := am.add mi) (by rw [block_of_add]; have := BW.out.size; omega)).trans hcm)))))
      clear hub hcu htb hct had hcs hcm hux
      obtain ⟨xp, xc, xl⟩ := p
      dsimp only at *
      obtain ⟨⟨g0, g1⟩, g2, g3, g4, g5⟩ := FX.out wx (Below.refl _ _)
      go_upto_region 12 with fail
      have bI : Below wx.heap.size wx wx := Below.refl _ _
      have bD : Below wx.heap.size wx wx.drew := (Below.refl _ _).drew
      have bA := bI.alloc (Nat.le_refl _) (.cells #[.int .i64 0, .slice none 0 0] 27)
      have bAF := bI.alloc (Nat.le_refl _) (.cells #[.int .i64 mm, .slice xp 1 xc] 27)
      have bDA := bD.alloc (by exact Nat.le_refl _) (.cells #[.int .i64 0, .slice none 0 0] 27)
      have bDF := bD.alloc (by exact Nat.le_refl _) (.cells #[.int .i64 mm, .slice xp 1 xc] 27)
      have bAD := bA.drew
      have bAFD := bAF.drew
      have zAF := Blk.new wx 27 #[.int .i64 mm, .slice xp 1 xc]
      have zDF := Blk.new wx.drew 27 #[.int .i64 mm, .slice xp 1 xc]
      have zAFD := zAF.drew
      have hfz := (Blk.new wx 27 #[.int .i64 0, .slice none 0 0]).frozen 0
      have hfz2 := (Blk.new wx.drew 27 #[.int .i64 0, .slice none 0 0]).frozen 0
      go_cut [12] from 47 to 71 (fun s12 wy => s12 = .pointer (some ⟨wx.heap.size, 0, none⟩) ∧ Hid (Below wx.heap.size wx wy ∧ Blk wy wx.heap.size 27 #[.int .i64 mm, .slice xp 1 xc]))
      case first =>
        go_region_held3 (fun W' => (W'.cell? ⟨w.heap.size, 0, none⟩ = some (.int .i64 num) ∧ W'.cell? ⟨w.heap.size, 1, none⟩ = some (.slice (some am) n c)) ∧ W'.cell? (au.add k) = some (.int .u8 (xu : Int)) ∧ W'.cell? (at'.add k) = some (.int .u8 (xt : Int)) ∧ W'.cell? (ad.add ji) = some (.slice xp 1 xc) ∧ W'.cell? (am.add mi) = some (.int .i64 mm)) (first
          | exact FX.out _ bD
          | exact FX.out _ bDA
          | exact FX.out _ bDF
          | exact FX.out _ bI
          | exact FX.out _ bA
          | exact FX.out _ bAF
          | exact FX.out _ bAD
          | exact FX.out _ bAFD) (fail)
        all_goals
          go_wp2_with fail
          go_meet
          first
            | exact ⟨rfl, bAFD, zAFD⟩
            | exact ⟨rfl, bDF, zDF⟩
            | exact ⟨rfl, bAF, zAF⟩
      case rest =>
      obtain ⟨rfl, HK⟩ := hcut
      generalize wc = w5 at *
      have HB5 := Lib.hid HK.out.1
      have ZB5 := Lib.hid HK.out.2
      have V5 := Lib.hid (below2 HW.out HB5.out)
      have W5 := Lib.hid (below2 BW.out HB5.out)
      have hx5 := ZB5.out.lt
      have FV5 := Lib.hid (fun W (hW : Below w5.heap.size w5 W) => And.intro (FV.out W (below2 HB5.out hW)) (blk2 (ZB5.out.below hW hx5)))
      have p5 := FV5.out _ (Below.refl _ _)
      have HI5 := Lib.hid (HI.out.step HB5.out)
      have HL5 := Lib.hid (show LS w5 w5.heap.size xl xp xc from (HLS.out.below HB5.out).more HB5.out.size)
      have KC5 := Lib.hid (KC.out s ps X cX nb wl Z cZ nz dd mm HML.out xp xc xl HX1.out w5 V5.out HI5.out HL5.out)
      have b1 : (true != true) = false := rfl
      have b2 : (false != false) = false := rfl
      clear HK FX KC HI hx5 bI bD bA bAF bDA bDF bAD bAFD zAF zDF zAFD hfz hfz2 g0 g1 g2 g3 g4 g5
      rcases cast_cases (b := ⟨mm, xl⟩) HI5.out.ok HML.out HAP.out with ⟨e7, -⟩ | ⟨e0', hcb, hok'⟩
      · have KCX := Lib.hid (show Calls Try.prog 9 #[.agg #[.int .i64 num, .slice (some am) n c], .slice X nb cX, .agg #[.int .i64 mm, .slice xp 1 xc]] w5 (OutBx w5 [] 0 7) from
          KC5.out.mono fun _ _ h => h.to [] 0 7 (castB_no (by rw [e7]; decide)) (by rw [castB_no (by rw [e7]; decide)]; rfl) e7)
        clear e7 KC5
        go_wp2_with (first
          | (go_at_call 9; (with_reducible refine KCX.out.mono ?_); rintro e w6 ⟨A6, c6, qs, rfl, hn6, hq6, b6, q6⟩; clear hn6; (have p6 := FV5.out _ q6))
          | fail)
        go_roundg gi
        case measure => omega
        case rel => exact ⟨k + 1, nb, nz, s, ps, X, cX, wl, Z, cZ, dd, by omega, by go_num, rfl, rfl, rfl, HI5.out.step q6, below2 V5.out q6⟩
      have KCX := Lib.hid (show Calls Try.prog 9 #[.agg #[.int .i64 num, .slice (some am) n c], .slice X nb cX, .agg #[.int .i64 mm, .slice xp 1 xc]] w5 (OutBx w5 (insF ⟨mm, xl⟩ s) (nb + 1) 0) from
        KC5.out.mono fun _ _ h => h.to (insF ⟨mm, xl⟩ s) (nb + 1) 0 hcb (by rw [hcb, len_insF, HI5.out.nbE]) e0')
      have HOK := Lib.hid hok'
      have HCU := Lib.hid (cut_ins (b := ⟨mm, xl⟩) HI5.out.cut HX1.out)
      have HNB := Lib.hid (show nb + 1 = (insF ⟨mm, xl⟩ s).length by rw [len_insF, HI5.out.nbE])
      have KWN := Lib.hid (fun (qs : List Pbl) (hq : qs.map Pbl.bal = insF ⟨mm, xl⟩ s) Y cY W (hW : Below w5.heap.size w5 W) (hE : BS W W.heap.size qs Y cY) => KW.out (insF ⟨mm, xl⟩ s) qs (nb + 1) HOK.out HCU.out hq HNB.out Y cY W (below2 V5.out hW) hE)
      have KUN := Lib.hid (fun (qs : List Pbl) (hq : qs.map Pbl.bal = insF ⟨mm, xl⟩ s) Y cY W (hW : Below w5.heap.size w5 W) (hE : BS W W.heap.size qs Y cY) => KU.out (insF ⟨mm, xl⟩ s) qs (nb + 1) HOK.out HCU.out hq HNB.out Y cY W (below2 V5.out hW) hE)
      clear e0' hcb hok' KC5 KW KU
      have US' := Lib.hid (fun (h : undF num l s = true) => und_stays (b := ⟨mm, xl⟩) HOK.out h)
      have WS' := Lib.hid (fun y (h : winF num l s = some y) => win_stays (b := ⟨mm, xl⟩) HI5.out.ok HOK.out h)
      rcases hw : winF num l (insF ⟨mm, xl⟩ s) with _ | y
      · have hnz : nz = 0 := by
          rcases HI5.out.win with ⟨h, _⟩ | ⟨_, h⟩
          · exact h
          · have := WS'.out _ h
            rw [hw] at this
            cases this
        subst hnz
        have KWX := Lib.hid (fun (qs : List Pbl) (hq : qs.map Pbl.bal = insF ⟨mm, xl⟩ s) Y cY W (hW : Below w5.heap.size w5 W) (hE : BS W W.heap.size qs Y cY) => show Calls Try.prog 16 #[.agg #[.int .i64 num, .slice (some am) n c], .slice Y (nb + 1) cY] W (OutWn W [] 0 false) from
          (KWN.out qs hq Y cY W hW hE).mono fun _ _ h => h.to [] 0 false (by rw [hw]; rfl) (by rw [hw]; rfl) (by rw [hw]; rfl))
        have HWN := Lib.hid hw
        clear hw KWN
        cases dd
        · obtain ⟨q, hq⟩ : ∃ q, q = undF num l (insF ⟨mm, xl⟩ s) := ⟨_, rfl⟩
          have HQ := Lib.hid hq
          have KUX := Lib.hid (fun (qs : List Pbl) (hq : qs.map Pbl.bal = insF ⟨mm, xl⟩ s) Y cY W (hW : Below w5.heap.size w5 W) (hE : BS W W.heap.size qs Y cY) => show Calls Try.prog 20 #[.agg #[.int .i64 num, .slice (some am) n c], .slice Y (nb + 1) cY] W (PB W q) by rw [HQ.out]; exact KUN.out qs hq Y cY W hW hE)
          clear hq KUN
          go_wp2_with (first
            | (go_at_call 9; (with_reducible refine KCX.out.mono ?_); rintro e w6 ⟨A6, c6, qs, rfl, hn6, hq6, b6, q6⟩; clear hn6; (have p6 := FV5.out _ q6))
            | (go_at_call 16; (with_reducible refine (KWX.out qs hq6 A6 c6 _ q6 b6).mono ?_); rintro e w7 ⟨A7, c7, rfl, hn7, l7, q7⟩; clear hn7; (have p7 := FV5.out _ (below2 q6 q7)))
            | (go_at_call 20; (with_reducible refine (KUX.out qs hq6 A6 c6 _ (below2 q6 q7) (b6.step q7)).mono ?_); rintro e w9 ⟨rfl, q9⟩; (have p9 := FV5.out _ (below2 q6 (below2 q7 q9))))
            | fail)
          go_roundg gi
          case measure => omega
          case rel => exact ⟨k + 1, nb + 1, 0, insF ⟨mm, xl⟩ s, qs, A6, c6, wl, Z, cZ, q, by omega, by go_num, rfl, rfl, rfl, ⟨HOK.out, HCU.out, hq6, HNB.out, (b6.step q7).step q9, HI5.out.nzE, (HI5.out.step (below2 q6 (below2 q7 q9))).won, .inl ⟨rfl, HWN.out⟩, HQ.out⟩, below2 V5.out (below2 q6 (below2 q7 q9))⟩
        · have HQ := Lib.hid (US'.out HI5.out.ddE.symm)
          clear KUN
          go_wp2_with (first
            | (go_at_call 9; (with_reducible refine KCX.out.mono ?_); rintro e w6 ⟨A6, c6, qs, rfl, hn6, hq6, b6, q6⟩; clear hn6; (have p6 := FV5.out _ q6))
            | (go_at_call 16; (with_reducible refine (KWX.out qs hq6 A6 c6 _ q6 b6).mono ?_); rintro e w7 ⟨A7, c7, rfl, hn7, l7, q7⟩; clear hn7; (have p7 := FV5.out _ (below2 q6 q7)))
            | fail)
          go_roundg gi
          case measure => omega
          case rel => exact ⟨k + 1, nb + 1, 0, insF ⟨mm, xl⟩ s, qs, A6, c6, wl, Z, cZ, true, by omega, by go_num, rfl, rfl, rfl, ⟨HOK.out, HCU.out, hq6, HNB.out, b6.step q7, HI5.out.nzE, (HI5.out.step (below2 q6 q7)).won, .inl ⟨rfl, HWN.out⟩, HQ.out.symm⟩, below2 V5.out (below2 q6 q7)⟩
      · have HY1 := Lib.hid (show y.length = 1 by
          obtain ⟨z, hz, e⟩ := win_cut hw
          rw [← e]
          exact HCU.out z hz)
        have HUN := Lib.hid (show undF num l (insF ⟨mm, xl⟩ s) = false by
          rw [← Bool.not_eq_true]
          intro h
          rw [und_win h] at hw
          cases hw)
        have hdd : dd = false := by
          rw [HI5.out.ddE, ← Bool.not_eq_true]
          intro h
          have := US'.out h
          rw [HUN.out] at this
          cases this
        subst hdd
        have KWX := Lib.hid (fun (qs : List Pbl) (hq : qs.map Pbl.bal = insF ⟨mm, xl⟩ s) Y cY W (hW : Below w5.heap.size w5 W) (hE : BS W W.heap.size qs Y cY) => show Calls Try.prog 16 #[.agg #[.int .i64 num, .slice (some am) n c], .slice Y (nb + 1) cY] W (OutWn W y 1 true) from
          (KWN.out qs hq Y cY W hW hE).mono fun _ _ h => h.to y 1 true (by rw [hw]; rfl) (by rw [hw]; exact HY1.out) (by rw [hw]; rfl))
        have HWN := Lib.hid hw
        have KUX := Lib.hid (fun (qs : List Pbl) (hq : qs.map Pbl.bal = insF ⟨mm, xl⟩ s) Y cY W (hW : Below w5.heap.size w5 W) (hE : BS W W.heap.size qs Y cY) => show Calls Try.prog 20 #[.agg #[.int .i64 num, .slice (some am) n c], .slice Y (nb + 1) cY] W (PB W false) by
          have r := KUN.out qs hq Y cY W hW hE
          rwa [HUN.out] at r)
        have HWI := Lib.hid HI5.out.win
        clear KWN KUN
        rcases HWI.out with ⟨hnz, -⟩ | ⟨hnz, hwl⟩
        · subst hnz
          clear hw
          go_wp2_with (first
            | (go_at_call 9; (with_reducible refine KCX.out.mono ?_); rintro e w6 ⟨A6, c6, qs, rfl, hn6, hq6, b6, q6⟩; clear hn6; (have p6 := FV5.out _ q6))
            | (go_at_call 16; (with_reducible refine (KWX.out qs hq6 A6 c6 _ q6 b6).mono ?_); rintro e w7 ⟨A7, c7, rfl, hn7, l7, q7⟩; clear hn7; (have p7 := FV5.out _ (below2 q6 q7)))
            | (go_at_call 20; (with_reducible refine (KUX.out qs hq6 A6 c6 _ (below2 q6 q7) (b6.step q7)).mono ?_); rintro e w9 ⟨rfl, q9⟩; (have p9 := FV5.out _ (below2 q6 (below2 q7 q9))))
            | fail)
          go_roundg gi
          case measure => omega
          case rel => exact ⟨k + 1, nb + 1, 1, insF ⟨mm, xl⟩ s, qs, A6, c6, y, A7, c7, false, by omega, by go_num, rfl, rfl, rfl, ⟨HOK.out, HCU.out, hq6, HNB.out, (b6.step q7).step q9, HY1.out.symm, (l7.below q9).more q9.size, .inr ⟨rfl, HWN.out⟩, HUN.out.symm⟩, below2 V5.out (below2 q6 (below2 q7 q9))⟩
        · subst hnz
          have hyw : y = wl := by
            have := WS'.out _ hwl
            rw [hw] at this
            exact Option.some.inj this
          subst hyw
          have KSX := Lib.hid (fun Y cY W (hW : Below w5.heap.size w5 W) (hY : LS W W.heap.size y Y cY) => by
            have r := same8_at W y y Y Z 1 1 cY cZ HY1.out.symm HY1.out.symm hY (HI5.out.step hW).won
            rwa [decide_eq_true rfl] at r)
          clear hw hwl
          go_wp2_with (first
            | (go_at_call 9; (with_reducible refine KCX.out.mono ?_); rintro e w6 ⟨A6, c6, qs, rfl, hn6, hq6, b6, q6⟩; clear hn6; (have p6 := FV5.out _ q6))
            | (go_at_call 16; (with_reducible refine (KWX.out qs hq6 A6 c6 _ q6 b6).mono ?_); rintro e w7 ⟨A7, c7, rfl, hn7, l7, q7⟩; clear hn7; (have p7 := FV5.out _ (below2 q6 q7)))
            | (go_at_call 15; (with_reducible refine (KSX.out A7 c7 _ (below2 q6 q7) l7).mono ?_); rintro e w8 ⟨rfl, q8⟩; (have p8 := FV5.out _ (below2 q6 (below2 q7 q8))))
            | (go_at_call 20; (with_reducible refine (KUX.out qs hq6 A6 c6 _ (below2 q6 (below2 q7 q8)) (b6.step (below2 q7 q8))).mono ?_); rintro e w9 ⟨rfl, q9⟩; (have p9 := FV5.out _ (below2 q6 (below2 (below2 q7 q8) q9))))
            | fail)
          go_roundg gi
          case measure => omega
          case rel => exact ⟨k + 1, nb + 1, 1, insF ⟨mm, xl⟩ s, qs, A6, c6, y, A7, c7, false, by omega, by go_num, rfl, rfl, rfl, ⟨HOK.out, HCU.out, hq6, HNB.out, b6.step (below2 q7 (below2 q8 q9)), HY1.out.symm, (l7.below (below2 q8 q9)).more (below2 q8 q9).size, .inr ⟨rfl, HWN.out⟩, HUN.out.symm⟩, below2 V5.out (below2 q6 (below2 q7 (below2 q8 q9)))⟩
end Go.Proofs.Ytmnagkjdnmnbkaa.Fv
