/- Layer 8: Cuts. -/
import Derived.Test.YtmnagkjdnmnbkaaFLong
namespace Go.Proofs.Ytmnagkjdnmnbkaa.Fv
set_option linter.unusedVariables false
set_option linter.unusedSimpArgs false
open Go.RowKit
open Go.Proofs.Ytmnagkjdnmnbkaa.W
open Go.Proofs.Ytmnagkjdnmnbkaa.V

/-- A list as it lies in memory. -/
structure Plc where
  ptr : Option Addr
  cap : Nat
  lst : List Int
def slcV (p : Plc) : Value := .slice p.ptr p.lst.length p.cap
theorem slcInfo : (Try.prog.info? 22).map (fun i => (i.zero, i.size, i.bytes)) = some (some (.slice none 0 0), 1, 24) := by kernel_rfl
theorem wp_append_slc {ops : Array Oper} {rest : List Oper} {o : Oper} {a : Act} {Q : Exit → Act → World → Prop} (W : World) (hgd : o.guard = none) (s x : Operand)
    (ho : o.op = .call { callee := .builtin .append, args := #[s, x], argTypes := #[41, 41] }) (base : Nat) (v : Value) (es : List Plc) (e : Plc) (B c : Nat) (A : Option Addr) (hs : a.eval s = v)
    (hown : W.ownsRow base 22 1 v es.length (es.map slcV)) (hx : a.eval x = .slice A 1 c) (hr : Reads W B 1 A 1 [slcV e])
    (hl : es.length ≤ 1000) (hbase : base ≤ W.heap.size)
    (h : ∀ v' w', w'.ownsRow base 22 1 v' (es ++ [e]).length ((es ++ [e]).map slcV) → Below base W w' → W.grownBy w' v.ownBlock → wpList Try.prog ops Q rest (a.put o.dst v') w') : wpList Try.prog ops Q (o :: rest) a W := by
  obtain ⟨i0, hi, hz0, hz1, hz2⟩ := info_parts slcInfo
  refine wpList_append_any W hgd s x 41 ho base 22 i0 _ 1 24 Try.underlying41 hi hz0 hz1 hz2 rfl (by decide) v _ _ hs hown B A 1 c _ hx hr (fun u hu => by rw [List.mem_singleton.1 hu]; rfl) ?_ ?_ hbase ?_
  · unfold maxLen; omega
  · omega
  · intro v' w' h1 h2 _
    refine h v' w' ?_ ((Below.refl _ _).grown h2 hbase fun q hq => (hown.lt q hq).1) h2
    rw [List.map_append, List.length_append]
    exact h1
/-- A cut that can be applied, of one identifier. -/
structure GC (num : Int) (l : List Int) (W : World) (p : Plc) : Prop where
  ok : applF num l p.lst = true
  one : p.lst.length = 1
  ls : LS W W.heap.size p.lst p.ptr p.cap
theorem GC.step {num : Int} {l : List Int} {W W' : World} {p : Plc} (h : GC num l W p) (hb : Below W.heap.size W W') : GC num l W' p := ⟨h.ok, h.one, (h.ls.below hb).more hb.size⟩
/-- .. whose list lies in the memory that came in. -/
def GA (num : Int) (l : List Int) (w : World) (p : Plc) : Prop := applF num l p.lst = true ∧ p.lst.length = 1 ∧ LS w w.heap.size p.lst p.ptr p.cap
theorem GA.gc {num : Int} {l : List Int} {w W : World} {p : Plc} (h : GA num l w p) (hb : Below w.heap.size w W) : GC num l W p := ⟨h.1, h.2.1, (h.2.2.below hb).more hb.size⟩
theorem LS.kept {W W' : World} {l : List Int} {g c : Nat} {row : Option Nat} (h : LS W W.heap.size l (some ⟨g, 0, none⟩) c) (hg : W.grownBy W' row) (hne : row ≠ some g) (hgl : g < W.heap.size) : LS W' W'.heap.size l (some ⟨g, 0, none⟩) c := by
  obtain ⟨_, _, _, h4, h5⟩ := hg
  refine ⟨⟨h.rd.1, fun hn => ?_⟩, h.l40, h.el, h.cap⟩
  obtain ⟨ad, e, hb, hc⟩ := h.rd.2 hn
  cases e
  refine ⟨_, rfl, Nat.lt_of_lt_of_le hgl h4, fun j v hv => ?_⟩
  have e2 : ((⟨g, 0, none⟩ : Addr).add j).block = g := block_of_add _ _
  rw [← hc j v hv]
  exact World.cell?_of_block (w := W) (by rw [e2]; exact h5 g hgl (Ne.symm hne))
/-- What Cuts gives. -/
structure CS (num : Int) (l : List Int) (W : World) (cs : List Plc) (A : Option Addr) (c : Nat) : Prop where
  rd : Reads W W.heap.size 1 A cs.length (cs.map slcV)
  el : ∀ p ∈ cs, GC num l W p
  len : cs.length ≤ 3
  cap : cs.length ≤ c
theorem CS.step {num : Int} {l : List Int} {W W' : World} {cs : List Plc} {A : Option Addr} {c : Nat} (h : CS num l W cs A c) (hb : Below W.heap.size W W') : CS num l W' cs A c := ⟨(h.rd.below hb).more hb.size, fun p hp => (h.el p hp).step hb, h.len, h.cap⟩
theorem CS.of_own {num : Int} {l : List Int} {W : World} {B : Nat} {v : Value} {cs : List Plc} (h : W.ownsRow B 22 1 v cs.length (cs.map slcV)) (hel : ∀ p ∈ cs, GC num l W p) (hl : cs.length ≤ 3) : ∃ A c, v = .slice A cs.length c ∧ CS num l W cs A c := by
  rcases h.2 with ⟨rfl, h0⟩ | ⟨g, cap, cur, rfl, _, _, h1, _⟩
  · have : cs = [] := List.eq_nil_of_length_eq_zero h0
    subst this
    exact ⟨none, 0, rfl, Reads.none_, hel, hl, Nat.le_refl _⟩
  · exact ⟨_, cap, rfl, Reads.of_own h, hel, hl, h1⟩
def OutC (num : Int) (l : List Int) (w : World) (e : Ending) (w' : World) : Prop := ∃ A c n cs, e = .returned (.slice A n c) ∧ n = cs.length ∧ CS num l w' cs A c ∧ Below w.heap.size w w'
theorem slice_one {n c k : Nat} {ki kj : Int} (A : Option Addr) (hn : n ≤ c) (hk : k < n) (hki : ki = (k : Int)) (hkj : kj = (k : Int) + 1) (ad : Addr) (hA : A = some ad) :
    ∀ (W : World), (Instr.slice 22 (.slice A n c) (some (.int .i64 ki)) (some (.int .i64 kj)) none).run Try.prog W = .ok (.slice (some (ad.add k)) 1 (c - k)) W := by
  subst hki hkj hA
  intro W
  rw [run_slice_lh W 22 (some ad) n c (by simp [go_sem]) .i64 .i64 k (k + 1) (by omega) (by omega) (by omega)]
  have hc : ¬ c = k := by omega
  simp [go_sem, hc]
theorem ls_at {W : World} {B n c k : Nat} {ad : Addr} {x : Int} {l : List Int} (h : Reads W B 1 (some ad) n (l.map intV)) (hx : l[k]? = some x) (hn : k < n) (hx64 : In64 x) (hc : 1 ≤ c) : LS W B [x] (some (ad.add k)) c := by
  obtain ⟨ad', u, e, hb, hu, hcell⟩ := h.at_ hn
  cases e
  have hux : u = .int .i64 x := by simp [hx, intV] at hu; exact hu.symm
  rw [hux] at hcell
  refine ⟨⟨rfl, fun _ => ⟨_, rfl, by rw [block_of_add]; exact hb, fun j v hv => ?_⟩⟩, by show 1 ≤ _; omega, fun y hy => by rw [List.mem_singleton.1 hy]; exact hx64, hc⟩
  match j, hv with
  | 0, hv =>
    have e : (ad.add k).add 0 = ad.add k := by simp [Addr.add]
    rw [e, hcell]
    exact hv
set_option maxRecDepth 1000000 in
set_option maxHeartbeats 16000000 in
theorem cuts8_any (num : Int) (l : List Int) (A : Option Addr) (c B : Nat) (w : World) (h : VL w B num l A c) (hB : B ≤ w.heap.size) :
    Calls Try.prog 22 #[.agg #[.int .i64 num, .slice A l.length c]] w (OutC num l w) := by
  have hb0 := (Below.refl w.heap.size w).alloc (Nat.le_refl _) (.cells #[.int .i64 num, .slice A l.length c] 24)
  have hz := Blk.new w 24 #[.int .i64 num, .slice A l.length c]
  have KA := Lib.hid (fun (q : List Int) (Y : Option Addr) (d : Nat) W (hW : Below w.heap.size w W) (hq : LS W W.heap.size q Y d) => appl_all num l q A Y c d W.heap.size W (((h.more hB).below hW).more hW.size) hq (Nat.le_refl _))
  have KC := Lib.hid (fun (x : Int) W (hW : Below w.heap.size w W) => contains63_any A c w.heap.size l x W ((h.more hB).below hW).rd (Nat.le_trans h.cap h.l63))
  have RD := Lib.hid (fun W (hW : Below w.heap.size w W) => ((h.more hB).below hW).rd)
  have EL := Lib.hid h.el
  have hcap := h.cap
  have h63 := h.l63
  obtain ⟨n, hn⟩ : ∃ n, n = l.length := ⟨_, rfl⟩
  have HN := Lib.hid hn
  rw [← hn] at hb0 hz KA KC RD hcap ⊢
  have B0 := Lib.hid hb0
  have Z1 := Lib.hid hz
  clear hb0 hz hn h hB
  go_enter Try.func22, Try.ntmps22
  go_upto_region 1 with fail
  generalize w.alloc (.cells #[.int .i64 num, .slice A n c] 24) = w0 at *
  have FB := Lib.hid (fun W (hW : Below w0.heap.size w0 W) => (blk2 (Z1.out.below hW Z1.out.lt)))
  go_wp2_with fail
  go_loopg [3, 4] n (fun gk s3 s4 wr => ∃ (k : Nat) (cs : List Plc), k + gk = n ∧ s4 = .int .i64 k ∧ cs.length ≤ 2 ∧ Hid (wr.ownsRow w0.heap.size 22 1 s3 cs.length (cs.map slcV)) ∧ Hid (∀ p ∈ cs, GA num l w p) ∧ Hid (Below w0.heap.size w0 wr))
  case atStart => exact ⟨0, [], by omega, rfl, by decide, World.ownsRow_nil _ _ _ _, (fun p hp => by cases hp), Below.refl _ _⟩
  case round =>
    obtain ⟨k, cs, hkg, rfl, hc2, HO, HG, HW⟩ := hrel
    have BW := Lib.hid (below2 B0.out HW.out)
    have p0 := FB.out _ HW.out
    obtain ⟨nc, hnc⟩ : ∃ q, q = cs.length := ⟨_, rfl⟩
    have HNC := Lib.hid hnc
    obtain ⟨X3, c3, hv3, hCS⟩ := CS.of_own HO.out (fun p hp => (HG.out p hp).gc BW.out) (by omega)
    rw [← hnc] at hv3 hc2
    subst hv3
    have HCS := Lib.hid hCS
    clear hnc hCS
    go_upto_region 3 with fail
    go_cut [15] from 6 to 15 (fun s15 wx => s15 = .bool (decide (k < n) && decide (nc < 2)) ∧ wr = wx)
    case first =>
      by_cases h1 : k < n
      · have g1 : decide ((k : Int) < (n : Int)) = true := by simp; omega
        by_cases h2 : nc < 2
        · have g2 : decide ((nc : Int) < 2) = true := by simp; omega
          have e := Lib.hid (show (decide (k < n) && decide (nc < 2)) = true by simp [h1, h2])
          clear h1 h2
          go_wp2_with fail
          all_goals try (exfalso; simp at g1 g2; omega)
          go_meet
          exact ⟨by rw [e.out], rfl⟩
        · have g2 : decide ((nc : Int) < 2) = false := by simp; omega
          have e := Lib.hid (show (decide (k < n) && decide (nc < 2)) = false by simp [h2])
          clear h1 h2
          go_wp2_with fail
          all_goals try (exfalso; simp at g1 g2; omega)
          go_meet
          exact ⟨by rw [e.out], rfl⟩
      · have g1 : decide ((k : Int) < (n : Int)) = false := by simp; omega
        have e := Lib.hid (show (decide (k < n) && decide (nc < 2)) = false by simp [h1])
        clear h1
        go_wp2_with fail
        all_goals try (exfalso; simp at g1; omega)
        go_meet
        exact ⟨by rw [e.out], rfl⟩
    case rest =>
    obtain ⟨rfl, rfl⟩ := hcut
    cases hcd : (decide (k < n) && decide (nc < 2))
    · clear hcd
      have g3 : decide ((nc : Int) < 3) = true := by simp; omega
      go_wp2_with fail
      clear p0
      generalize wr = wo at *
      go_loopg [5] 1000 (fun gk s5 wr => ∃ k2 : Nat, k2 + gk = 1000 ∧ s5 = .int .i64 ((k2 + 1 : Nat) : Int) ∧ Hid (Below wo.heap.size wo wr))
      case atStart => exact ⟨0, by omega, rfl, Below.refl _ _⟩
      case round =>
        obtain ⟨k2, hkg2, rfl, HQ⟩ := hrel
        have p1 := FB.out _ (below2 HW.out HQ.out)
        have BQ := Lib.hid (below2 BW.out HQ.out)
        cases gk with
        | zero =>
          have hid : ¬ ((k2 : Int) + 1 ≤ 1000) := by omega
          go_wp2_with fail
          go_ret
          exact ⟨X3, c3, nc, cs, rfl, HNC.out, HCS.out.step HQ.out, BQ.out⟩
        | succ gj =>
          have hid : ((k2 : Int) + 1 ≤ 1000) := by omega
          have KCX := Lib.hid (KC.out ((k2 : Int) + 1))
          cases hb : hasB l ((k2 : Int) + 1)
          · have KAX := Lib.hid (show Calls Try.prog 30 #[.agg #[.int .i64 num, .slice A n c], .slice (some ⟨wr.heap.size, 0, none⟩) 1 1] (wr.alloc (.cells #[.int .i64 ((k2 : Int) + 1)] 3)) (PB (wr.alloc (.cells #[.int .i64 ((k2 : Int) + 1)] 3)) (applF num l [(k2 : Int) + 1])) from
              KA.out [(k2 : Int) + 1] (some ⟨wr.heap.size, 0, none⟩) 1 _ (BQ.out.alloc BQ.out.size _) (ls_one (Blk.new wr 3 #[.int .i64 ((k2 : Int) + 1)]) ⟨by omega, by omega⟩))
            rw [hb] at KCX
            cases ha : applF num l [(k2 : Int) + 1]
            · rw [ha] at KAX
              clear ha hb
              go_wp2_with (first
                | (go_at_call 31; (with_reducible refine (KCX.out _ BQ.out).mono ?_); rintro e w5 ⟨rfl, rfl⟩)
                | (go_at_call 30; (with_reducible refine KAX.out.mono ?_); rintro e w6 ⟨rfl, q6⟩)
                | fail)
              have V6 := Lib.hid (below2 HQ.out (below2 ((Below.refl wr.heap.size wr).alloc (Nat.le_refl _) (.cells #[.int .i64 ((k2 : Int) + 1)] 3)) q6))
              go_roundg gj
              case measure => omega
              case rel => exact ⟨k2 + 1, by omega, by go_num, V6.out⟩
            · rw [ha] at KAX
              have HA := Lib.hid ha
              clear ha hb
              go_upto_region 11 with (first
                | (go_at_call 31; (with_reducible refine (KCX.out _ BQ.out).mono ?_); rintro e w5 ⟨rfl, rfl⟩)
                | (go_at_call 30; (with_reducible refine KAX.out.mono ?_); rintro e w6 ⟨rfl, q6⟩)
                | fail)
              have Q6 := Lib.hid (below2 HQ.out (below2 ((Below.refl wr.heap.size wr).alloc (Nat.le_refl _) (.cells #[.int .i64 ((k2 : Int) + 1)] 3)) q6))
              have V6 := Lib.hid (below2 HW.out Q6.out)
              have HO6 := Lib.hid (own_below HO.out Q6.out)
              have HLT := Lib.hid (fun k (e : (Value.slice X3 nc c3).ownBlock = some k) => Nat.lt_of_lt_of_le (HO.out.lt k e).2 Q6.out.size)
              have hs6 := V6.out.size
              clear p1 q6 KCX KAX KA KC
              generalize hv3 : Value.slice X3 nc c3 = v3 at *
              clear hv3
              go_wp2_with (first
                | (at_builtin; go_loud (refine wp_append_slc _ rfl (.tmp 55) (.tmp 58) rfl w0.heap.size _ cs ⟨some ⟨w6.heap.size, 0, none⟩, 1, [(k2 : Int) + 1]⟩ _ _ _ rfl ((HO6.out.alloc _).alloc _) rfl (reads_lit (n := 1) (sz := 1) (blkN (by simp)) rfl) (by have := HNC.out; omega) (by simp; omega) ?_; intro v7 w7 ho7 hb7 hg7))
                | fail)
              have B7 : Below w0.heap.size w0 w7 := (((V6.out.alloc hs6 (.cells #[.int .i64 ((k2 : Int) + 1)] 3)).alloc (by simp; omega) (.cells #[.slice (some ⟨w6.heap.size, 0, none⟩) 1 1] 22)).trans hb7)
              have C7 : Below w.heap.size w w7 := B0.out.trans (B7.mono B0.out.size)
              obtain ⟨X, cX, rfl, hCS⟩ := CS.of_own (num := num) (l := l) ho7 (fun p hp => by
                rcases List.mem_append.1 hp with h | h
                · exact (HG.out p h).gc C7
                · rw [List.mem_singleton.1 h]
                  refine ⟨HA.out, rfl, LS.kept (ls_one (((Blk.new w6 3 #[.int .i64 ((k2 : Int) + 1)])).alloc _) ⟨by omega, by omega⟩) hg7 (fun e => ?_) (by simp; omega)⟩
                  have := HLT.out _ e
                  omega) (by have := HNC.out; simp; omega)
              go_ret
              exact ⟨X, cX, _, _, rfl, rfl, hCS, C7⟩
          · rw [hb] at KCX
            clear hb
            go_wp2_with (first
              | (go_at_call 31; (with_reducible refine (KCX.out _ BQ.out).mono ?_); rintro e w5 ⟨rfl, rfl⟩)
              | fail)
            go_roundg gj
            case measure => omega
            case rel => exact ⟨k2 + 1, by omega, by go_num, HQ.out⟩
    · obtain ⟨hk, h2⟩ : k < n ∧ nc < 2 := by simpa using hcd
      clear hcd
      obtain ⟨gi, rfl⟩ : ∃ gi, gk = gi + 1 := ⟨gk - 1, by omega⟩
      have hk0 : ¬ (k : Int) < 0 := by omega
      obtain ⟨x, hx⟩ : ∃ x, l[k]? = some x := ⟨_, List.getElem?_eq_getElem (by have := HN.out; omega)⟩
      have x64 := EL.out x (List.mem_of_getElem? hx)
      obtain ⟨ad, u, hA, -, -, -⟩ := (RD.out wr BW.out).at_ hk
      subst hA
      have hsl := slice_one (ki := (k : Int)) (kj := (k : Int) + 1) (some ad) hcap hk rfl rfl ad rfl
      have wk : IntKind.i64.wrap ((k : Int) + 1) = (k : Int) + 1 := IntWalk.i64_in _ (by omega)
      have LX := Lib.hid (fun W (hW : Below w.heap.size w W) => ls_at (c := c - k) (RD.out W hW) hx hk x64 (by omega))
      have KAX := Lib.hid (fun W (hW : Below w.heap.size w W) => show Calls Try.prog 30 #[.agg #[.int .i64 num, .slice (some ad) n c], .slice (some (ad.add k)) 1 (c - k)] W (PB W (applF num l [x])) from
        KA.out [x] (some (ad.add k)) (c - k) W hW ((LX.out W hW).more hW.size))
      obtain ⟨ck, hck⟩ : ∃ q, q = c - k := ⟨_, rfl⟩
      rw [← hck] at hsl KAX LX
      have i0 : Below wr.heap.size wr wr := Below.refl _ _
      have d0 : Below wr.heap.size wr wr.drew := i0.drew
      have k0 : (0 : Int) ≤ (k : Int) := by omega
      have kn : (k : Int) ≤ (n : Int) := by omega
      have kn1 : (k : Int) + 1 ≤ (n : Int) := by omega
      have kc1 : (k : Int) + 1 ≤ (c : Int) := by omega
      have kk1 : (k : Int) ≤ (k : Int) + 1 := by omega
      have k01 : (0 : Int) ≤ (k : Int) + 1 := by omega
      clear hx hck KC
      go_upto_region 5 with fail
      go_cut [25] from 18 to 25 (fun s25 wx => s25 = .bool (applF num l [x]) ∧ Hid (Below wr.heap.size wr wx))
      case first =>
        go_region_held3 (fun W' => (W'.cell? ⟨w.heap.size, 0, none⟩ = some (.int .i64 num) ∧ W'.cell? ⟨w.heap.size, 1, none⟩ = some (.slice (some ad) n c))) (first | exact s4 | exact FB.out _ (below2 HW.out d0) | exact FB.out _ HW.out) (first
          | (go_at_call 30; (with_reducible refine (KAX.out _ (by first | exact below2 BW.out d0 | exact BW.out)).mono ?_); rintro e w4 ⟨rfl, q4⟩; have b4 : Below wr.heap.size wr w4 := (by first | exact q4 | exact bdrew q4); have s4 := FB.out _ (below2 HW.out b4))
          | fail)
        all_goals
          go_wp2_with fail
          go_meet
          exact ⟨rfl, b4⟩
      case rest =>
      obtain ⟨rfl, HB5⟩ := hcut
      generalize wc = w5 at *
      have V5 := Lib.hid (below2 HW.out HB5.out)
      have p5 := FB.out _ V5.out
      have HO5 := Lib.hid (own_below HO.out HB5.out)
      have hs5 := V5.out.size
      clear p0 KAX i0 d0
      cases ha : applF num l [x]
      · clear ha
        go_wp2_with fail
        go_roundg gi
        case measure => omega
        case rel => exact ⟨k + 1, cs, by omega, by go_num, by have := HNC.out; omega, HO5.out, HG.out, V5.out⟩
      · have HAX := Lib.hid (show GA num l w ⟨some (ad.add k), ck, [x]⟩ from ⟨ha, rfl, LX.out w (Below.refl _ _)⟩)
        clear ha
        generalize hv3 : Value.slice X3 nc c3 = v3 at *
        clear hv3
        go_wp2_with (first
          | (at_builtin; go_loud (refine wp_append_slc _ rfl (.tmp 26) (.tmp 33) rfl w0.heap.size _ cs ⟨some (ad.add k), ck, [x]⟩ _ _ _ rfl (HO5.out.alloc _) rfl (reads_lit (n := 1) (sz := 1) (blkN (by simp)) rfl) (by have := HNC.out; omega) (by simp; omega) ?_; intro v7 w7 ho7 hb7 hg7))
          | fail)
        go_roundg gi
        case measure => omega
        case rel =>
          refine ⟨k + 1, cs ++ [(⟨some (ad.add k), ck, [x]⟩ : Plc)], by omega, by go_num, by have := HNC.out; simp; omega, Lib.hid ho7, fun p hp => ?_, (V5.out.alloc hs5 _).trans hb7⟩
          rcases List.mem_append.1 hp with h | h
          · exact HG.out p h
          · rw [List.mem_singleton.1 h]; exact HAX.out
end Go.Proofs.Ytmnagkjdnmnbkaa.Fv
