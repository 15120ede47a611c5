/- awake: the checks on fixed values all hold. -/
import Derived.Test.YtklihjgmmliejaaDoorWLaw0
import Derived.Lib.SlBytesConst
namespace Go.Proofs.YtklihjgmmliejaaDoor.W
set_option linter.unusedVariables false
open Go.RowKit
open Go.Lib (byteCells byteCells_length byteCells_append byteCells_snoc)

theorem uint_at {A : Option Addr} {c B n : Nat} {bs : List UInt8} {w : World} (hr : Reads w B 1 A n (byteCells bs)) (hn : bs.length ≤ 1099511627776) (v k e : Int) (h : ((rdU bs).1 : Int) = v ∧ ((rdU bs).2.1 : Int) = k ∧ ((rdU bs).2.2 : Int) = e) :
    Calls Tryd.prog 14 #[.slice A n c] w fun e' w' => e' = .returned (.tuple #[.int .u64 v, .int .i64 k, .int .i64 e]) ∧ w = w' := by
  obtain rfl := hr.len
  obtain ⟨rfl, rfl, rfl⟩ := h
  exact uint_any A c B bs w hr hn
theorem string_at {A : Option Addr} {c B n : Nat} {bs : List UInt8} {w : World} (hr : Reads w B 1 A n (byteCells bs)) (hn : bs.length ≤ 1099511627776) (hcap : n ≤ c) (max : Int) (hm : In64 max) (s : List UInt8) (k e : Int) (h : (rdS bs max).1 = s ∧ ((rdS bs max).2.1 : Int) = k ∧ ((rdS bs max).2.2 : Int) = e) :
    Calls Tryd.prog 24 #[.slice A n c, .int .i64 max] w fun e' w' => e' = .returned (.tuple #[.string ⟨s.toArray⟩, .int .i64 k, .int .i64 e]) ∧ w = w' := by
  obtain rfl := hr.len
  obtain ⟨rfl, rfl, rfl⟩ := h
  exact string_any A c B bs max w hr hn hcap hm

/-- An encoder's result, written out. -/
def OwnS (base : Nat) (w : World) (l : List UInt8) (n : Nat) (en : Ending) (w' : World) : Prop :=
  ∃ A c, en = .returned (.slice A n c) ∧ n ≤ c ∧ w'.ownsRow base 5 1 (.slice A n c) n (byteCells l) ∧ Reads w' w'.heap.size 1 A n (byteCells l) ∧ Below base w w'
theorem OwnPost.to {base : Nat} {w : World} {l : List UInt8} {en : Ending} {w' : World} (h : OwnPost base w l en w') (l' : List UInt8) (n : Nat) (hl : l = l') (hn : l'.length = n) : OwnS base w l' n en w' := by
  subst hl hn
  obtain ⟨v, rfl, ho, hb⟩ := h
  obtain ⟨A, c, hv, hc, hr⟩ := SliceOf.of_own (base := base) (e := 5) (by rw [byteCells_length]; exact ho)
  rw [byteCells_length] at hv hc hr
  subst hv
  exact ⟨A, c, rfl, hc, ho, hr, hb⟩
/-- wire.Value's result, written out. -/
def ValS (w : World) (v : GV) (i l : Nat) (n err : Int) (en : Ending) (w' : World) : Prop :=
  ∃ I ci L cl, en = .returned (.tuple #[.agg #[.int .i64 v.kind, .int .i64 v.n, .string ⟨v.s.toArray⟩, .slice I i ci, .slice L l cl], .int .i64 n, .int .i64 err]) ∧ i ≤ ci ∧ l ≤ cl ∧ Reads w' w'.heap.size 1 I i (v.i.map intV) ∧ Reads w' w'.heap.size 1 L l (v.l.map strV) ∧ Below w.heap.size w w'
theorem ValPost.to {w : World} {v : GV} {n err : Nat} {en : Ending} {w' : World} (h : ValPost w v n err en w') (v' : GV) (i l : Nat) (ni ei : Int) (hv : v = v') (hi : v'.i.length = i) (hl : v'.l.length = l) (hn : (n : Int) = ni) (he : (err : Int) = ei) : ValS w v' i l ni ei en w' := by
  subst hv hi hl hn he
  obtain ⟨vi, vl, rfl, ⟨I, ci, rfl, h1, h2⟩, ⟨L, cl, rfl, h3, h4⟩, hb⟩ := h
  rw [List.length_map] at h1 h2 h3 h4
  exact ⟨I, ci, L, cl, by rw [List.length_map, List.length_map]; rfl, h1, h3, h2, h4, hb⟩
theorem value_at {A : Option Addr} {c n : Nat} {bs : List UInt8} {w : World} (hr : Reads w w.heap.size 1 A n (byteCells bs)) (hn : bs.length ≤ 1099511627776) (hcap : n ≤ c) :
    Calls Tryd.prog 39 #[.slice A n c] w (ValPost w (rdV bs).1 (rdV bs).2.1 (rdV bs).2.2) := by
  obtain rfl := hr.len
  exact value_any A c bs w hr hn hcap
theorem open_at {A : Option Addr} {c n : Nat} {bs : List UInt8} {w : World} (hr : Reads w w.heap.size 1 A n (byteCells bs)) (hcap : n ≤ c) (hl : bs.length ≤ 1099511627776) (ht : Tab w) :
    Calls Tryd.prog 49 #[.slice A n c] w (OpenPost w (rdOpen bs).1 (rdOpen bs).2.1 (rdOpen bs).2.2.1 (rdOpen bs).2.2.2) := by
  obtain rfl := hr.len
  exact open_any A c bs w hr hcap hl ht
def OpenS (w : World) (k : Int) (l : List UInt8) (m : Nat) (n err : Int) (en : Ending) (w' : World) : Prop :=
  ∃ A c, en = .returned (.tuple #[.int .i64 k, .slice A m c, .int .i64 n, .int .i64 err]) ∧ m ≤ c ∧ Reads w' w'.heap.size 1 A m (byteCells l) ∧ Below w.heap.size w w'
theorem OpenPost.to {w : World} {k : Int} {l : List UInt8} {n err : Nat} {en : Ending} {w' : World} (h : OpenPost w k l n err en w') (k' : Int) (l' : List UInt8) (m : Nat) (ni ei : Int) (hk : k = k') (hl : l = l') (hm : l'.length = m) (hn : (n : Int) = ni) (he : (err : Int) = ei) : OpenS w k' l' m ni ei en w' := by
  subst hk hl hm hn he
  obtain ⟨A, c, rfl, hc, ho, hb⟩ := h
  refine ⟨A, c, rfl, hc, ?_, hb⟩
  have := Reads.of_own (A := A) (n := l.length) (c := c) ho
  exact this
def SealS (w : World) (l : List UInt8) (m : Nat) (err : Int) (en : Ending) (w' : World) : Prop :=
  ∃ A c, en = .returned (.tuple #[.slice A m c, .int .i64 err]) ∧ m ≤ c ∧ w'.ownsRow w.heap.size 5 1 (.slice A m c) m (byteCells l) ∧ Reads w' w'.heap.size 1 A m (byteCells l) ∧ Below w.heap.size w w'
theorem SealPost.to {w : World} {l : List UInt8} {err : Nat} {en : Ending} {w' : World} (h : SealPost w l err en w') (l' : List UInt8) (m : Nat) (ei : Int) (hl : l = l') (hm : l'.length = m) (he : (err : Int) = ei) : SealS w l' m ei en w' := by
  subst hl hm he
  obtain ⟨A, c, rfl, hc, ho, hb⟩ := h
  exact ⟨A, c, rfl, hc, ho, Reads.of_own ho, hb⟩
theorem seal_at {A : Option Addr} {c n : Nat} {body : List UInt8} {w : World} (kind : Int) (hr : Reads w w.heap.size 1 A n (byteCells body)) (ht : Tab w) (hl : body.length ≤ 1099511627776) :
    Calls Tryd.prog 47 #[.int .i64 kind, .slice A n c] w (SealPost w (rdSeal kind body).1 (rdSeal kind body).2) := by
  obtain rfl := hr.len
  exact seal_any kind A c body w hr ht hl

theorem ev1 : ((rdU [172, 2, 9]).1 : Int) = 300 ∧ ((rdU [172, 2, 9]).2.1 : Int) = 2 ∧ ((rdU [172, 2, 9]).2.2 : Int) = 0 := by decide
theorem ev2 : ((rdU [128, 0]).1 : Int) = 0 ∧ ((rdU [128, 0]).2.1 : Int) = 0 ∧ ((rdU [128, 0]).2.2 : Int) = 3 := by decide
theorem ev3 : [] ++ enS [97, 98] = [2, 97, 98] := by simp [enS, enU, Go.Lib.uvarint_small]
theorem ev4 : (rdS [2, 97, 98] 2).1 = [97, 98] ∧ ((rdS [2, 97, 98] 2).2.1 : Int) = 3 ∧ ((rdS [2, 97, 98] 2).2.2 : Int) = 0 := by decide
theorem ev5 : [] ++ enV ⟨5, 0, [], [], [[113]]⟩ = [5, 1, 1, 113] := by simp [enV, enSs, enS, enU, Go.Lib.uvarint_small]
theorem ev6 : rdV [5, 1, 1, 113] = (⟨5, 0, [], [], [[113]]⟩, 4, 0) := by rfl
theorem ev7 : sealB 7 [98, 111, 100, 121] = [65, 71, 7, 4, 98, 111, 100, 121] := by simp [sealB, enU, Go.Lib.uvarint_small]
theorem ev8 : crc [49, 50, 51, 52, 53, 54, 55, 56, 57] = 3421780262#32 := by decide +kernel
theorem ev9 : [5] ++ enI (-1) = [5, 1] := by simp [enI, Go.Lib.zigzag, Go.Lib.uvarint_small]
theorem reads_new' (W : World) (cs : Array Value) (bs : List UInt8) (n : Nat) (h : cs.toList = byteCells bs) (hn : bs.length = n) : Reads (W.alloc (.cells cs 5)) (W.heap.size + 1) 1 (some ⟨W.heap.size, 0, none⟩) n (byteCells bs) := hn ▸ reads_new W cs bs h
theorem reads_mark (W : World) (g : Nat) (hg : g = W.heap.size) (cs : Array Value) (fr : Nat × Nat) (bs : List UInt8) (n : Nat) (h : cs.toList = byteCells bs) (hn : bs.length = n) : Reads (W.alloc (.cells cs 5 fr)) (W.alloc (.cells cs 5 fr)).heap.size 1 (some ⟨g, 0, none⟩) n (byteCells bs) := by
  subst hg hn
  refine ⟨by rw [byteCells_length, Nat.mul_one], fun _ => ⟨_, rfl, by simp, fun j u hu => ?_⟩⟩
  have e : (⟨W.heap.size, 0, none⟩ : Addr).add j = ⟨W.heap.size, j, none⟩ := by unfold Addr.add; split <;> simp_all
  rw [e, World.cell?_alloc_mark W cs 5 fr j, ← hu, ← h]
  simp
theorem reads_str (W : World) (q : List UInt8) : Reads (W.alloc (.cells #[strV q] 9)) (W.heap.size + 1) 1 (some ⟨W.heap.size, 0, none⟩) 1 [strV q] := by
  refine ⟨rfl, fun _ => ⟨_, rfl, Nat.lt_succ_self _, fun j u hu => ?_⟩⟩
  match j, hu with
  | 0, hu => simp at hu; subst hu; have := cell_new1 W 9 (strV q); simp [Addr.add]

def body4 : List UInt8 := [98, 111, 100, 121]
def head8 : List UInt8 := [65, 71, 7, 4, 98, 111, 100, 121]
def frame12 : List UInt8 := head8 ++ low4 (crc head8)
theorem ev10 : rdSeal 7 body4 = (frame12, 0) := by
  unfold rdSeal body4
  rw [if_neg (by decide), ev7]; rfl
theorem ev11 : rdOpen frame12 = (7, body4, 12, 0) := by
  have h := rdOpen_back (k := 7) (body := body4) (by decide) (by decide) (by decide) []
  unfold body4 at h ⊢
  rw [ev7, List.append_nil] at h
  exact h
def gvQ : GV := ⟨5, 0, [], [], [[113]]⟩
theorem arg_q (W : World) (g : Nat) (hg : g = W.heap.size) : GVarg (W.alloc (.cells #[strV [113]] 9)) (W.alloc (.cells #[strV [113]] 9)).heap.size gvQ none (some ⟨g, 0, none⟩) 0 1 := by
  subst hg
  refine ⟨Reads.none_, (reads_str W [113]).more (by simp), Nat.le_refl _, Nat.le_refl _, ⟨by decide, by decide⟩, ⟨by decide, by decide⟩, by simp [gvQ], by decide, by decide, by decide, ?_⟩
  intro s hs
  simp [gvQ] at hs
  subst hs
  decide
theorem app_q (W : World) (g : Nat) (hg : g = W.heap.size) : Calls Tryd.prog 45 #[.slice none 0 0, .agg #[.int .i64 5, .int .i64 0, .string ⟨#[]⟩, .slice none 0 0, .slice (some ⟨g, 0, none⟩) 1 1]] (W.alloc (.cells #[.string ⟨#[113]⟩] 9)) (OwnS (W.heap.size + 1) (W.alloc (.cells #[.string ⟨#[113]⟩] 9)) [5, 1, 1, 113] 4) := by
  have h := (appendValue_ok gvQ none none (some ⟨g, 0, none⟩) 0 0 1 [] (W.alloc (.cells #[strV [113]] 9)) Reads.nothing (arg_q W g hg) (by rw [show ([] : List UInt8).length = 0 from rfl, show (enV gvQ) = [5, 1, 1, 113] from ev5]; decide) rfl).mono fun _ _ h => h.to [5, 1, 1, 113] 4 ev5 rfl
  rw [show (W.alloc (.cells #[strV [113]] 9)).heap.size = W.heap.size + 1 by simp] at h
  exact h

theorem sum9 (W : World) (ht : Tab W) : Calls Tryd.prog 51 #[.slice (some ⟨W.heap.size, 0, none⟩) 9 9] (W.alloc (.cells #[.int .u8 49, .int .u8 50, .int .u8 51, .int .u8 52, .int .u8 53, .int .u8 54, .int .u8 55, .int .u8 56, .int .u8 57] 5 (9, 10))) fun e w' => e = .returned (.int .u32 3421780262) ∧ W.alloc (.cells #[.int .u8 49, .int .u8 50, .int .u8 51, .int .u8 52, .int .u8 53, .int .u8 54, .int .u8 55, .int .u8 56, .int .u8 57] 5 (9, 10)) = w' := by
  have h := checksum_at (some ⟨W.heap.size, 0, none⟩) 9 _ 9 [49, 50, 51, 52, 53, 54, 55, 56, 57] _ (reads_mark W W.heap.size rfl #[.int .u8 49, .int .u8 50, .int .u8 51, .int .u8 52, .int .u8 53, .int .u8 54, .int .u8 55, .int .u8 56, .int .u8 57] (9, 10) [49, 50, 51, 52, 53, 54, 55, 56, 57] 9 rfl rfl) (by decide) (ht.on ((Below.refl _ _).alloc (Nat.le_refl _) _))
  rw [ev8] at h
  exact h
theorem app5 (W : World) (g : Nat) (hg : g = W.heap.size) : Calls Tryd.prog 22 #[.slice (some ⟨g, 0, none⟩) 1 1, .int .i64 (-1)] (W.alloc (.cells #[.int .u8 5] 5)) (OwnS (W.heap.size + 1) (W.alloc (.cells #[.int .u8 5] 5)) [5, 1] 2) := by
  subst hg
  have h := (AppendInt_any (some ⟨W.heap.size, 0, none⟩) 1 [5] (-1) (W.alloc (.cells #[.int .u8 5] 5)) ((reads_new' W #[.int .u8 5] [5] 1 rfl rfl).more (by simp)) (by decide) ⟨by decide, by decide⟩).mono fun _ _ h => h.to [5, 1] 2 ev9 rfl
  rw [show (W.alloc (.cells #[.int .u8 5] 5)).heap.size = W.heap.size + 1 by simp] at h
  exact h

set_option maxRecDepth 100000 in
set_option maxHeartbeats 400000 in
theorem awake_any (w : World) (ht : Tab w) : Calls Tryd.prog 13 #[] w fun e w' => e = .returned (.bool true) ∧ Below w.heap.size w w' := by
  have HT := Lib.hid ht
  clear ht
  have hb0 := Below.refl w.heap.size w
  go_enter Tryd.func13, Tryd.ntmps13
  have H1 := Lib.hid (uint_at (c := 3) (reads_new' w #[.int .u8 172, .int .u8 2, .int .u8 9] [172, 2, 9] 3 rfl rfl) (by decide) 300 2 0 ev1)
  have h2 := uint_at (c := 2) (reads_new' (w.alloc (.cells #[.int .u8 172, .int .u8 2, .int .u8 9] 5)) #[.int .u8 128, .int .u8 0] [128, 0] 2 rfl rfl) (by decide) 0 0 3 ev2
  rw [show (w.alloc (.cells #[.int .u8 172, .int .u8 2, .int .u8 9] 5)).heap.size = w.heap.size + 1 by simp] at h2
  have H2 := Lib.hid h2
  clear h2
  have H3 := Lib.hid (fun W : World => (AppendStr_any none 0 [] [97, 98] W Reads.nothing (by decide) (by decide)).mono fun _ _ h => h.to [2, 97, 98] 3 ev3 rfl)
  go_upto_region 2 with (go_at_call 14; refine H1.out.mono ?_; rintro e w' ⟨rfl, rfl⟩)
  go_upto_region 3 with (go_at_call 14; refine H2.out.mono ?_; rintro e w' ⟨rfl, rfl⟩)
  go_upto_region 4 with (first
    | (go_at_call 32; refine (H3.out _).mono ?_; rintro e w1 ⟨A1, c1, rfl, hc1, ho1, hr1, hb1⟩)
    | (go_at_call 24; refine (string_at hr1 (by decide) hc1 2 ⟨by omega, by omega⟩ [97, 98] 3 0 ev4).mono ?_; rintro e w' ⟨rfl, rfl⟩))
  have hbw1 : Below w.heap.size w w1 := (((hb0.alloc (Nat.le_refl _) _).alloc (by simp) _)).trans (hb1.mono (by simp; omega))
  have hs1 := hbw1.size
  clear H1 H2 H3
  go_upto_region 5 with (first
    | (go_at_call 45; refine (app_q w1 w1.heap.size rfl).mono ?_; rintro e w2 ⟨A2, c2, rfl, hc2, ho2, hr2, hb2⟩)
    | (go_at_call 39; refine ((value_at hr2 (by decide) hc2).mono fun _ _ h => h.to gvQ 0 1 4 0 rfl rfl rfl rfl rfl).mono ?_; rintro e w3 ⟨I3, ci3, L3, cl3, rfl, hi3, hl3, hri3, hrl3, hb3⟩))
  have hbw3 : Below w.heap.size w w3 := (hbw1.trans (((Below.refl _ w1).alloc hs1 _).trans (hb2.mono (by omega)))).trans (hb3.mono (by have := hb2.size; simp at this; omega))
  have hs3 := hbw3.size
  obtain ⟨ad3, hL3, had3, hcl3⟩ := hrl3.2 (by omega)
  subst hL3
  have hc3 : w3.cell? ad3 = some (.string ⟨#[113]⟩) := by
    have := hcl3 0 (strV [113]) rfl
    simpa [Addr.add, strV] using this
  have hbv := Blk.new w3 55 #[.int .i64 gvQ.kind, .int .i64 gvQ.n, .string ⟨gvQ.s.toArray⟩, .slice I3 0 ci3, .slice (some ad3) 1 cl3]
  clear hcl3 hrl3 hri3 hr1 hr2 ho1 ho2 hb1 hb2 hb3
  have k5 := Lib.run_convert_bytes_const (P := Tryd.prog) (w3.alloc (.cells #[.int .i64 gvQ.kind, .int .i64 gvQ.n, .string ⟨gvQ.s.toArray⟩, .slice I3 0 ci3, .slice (some ad3) 1 cl3] 55)) 22 5 #[.int .u8 98, .int .u8 111, .int .u8 100, .int .u8 121] 4 4 Tryd.underlying22 Tryd.underlying5
  rw [show (w3.alloc (.cells #[.int .i64 gvQ.kind, .int .i64 gvQ.n, .string ⟨gvQ.s.toArray⟩, .slice I3 0 ci3, .slice (some ad3) 1 cl3] 55)).heap.size = w3.heap.size + 1 by simp] at k5
  have h5 := (seal_at 7 (reads_mark (w3.alloc (.cells #[.int .i64 gvQ.kind, .int .i64 gvQ.n, .string ⟨gvQ.s.toArray⟩, .slice I3 0 ci3, .slice (some ad3) 1 cl3] 55)) (w3.heap.size + 1) (by simp) #[.int .u8 98, .int .u8 111, .int .u8 100, .int .u8 121] (4, 5) body4 4 rfl rfl) (HT.out.on ((hbw3.alloc hs3 _).alloc (by simp; omega) _)) (by decide) (c := 4)).mono fun _ _ h => h.to frame12 12 0 (by rw [ev10]) rfl (by rw [ev10]; rfl)
  have H5 := Lib.hid h5
  clear h5
  go_upto_region 6 with (go_at_call 47; refine H5.out.mono ?_; rintro e w6 ⟨A6, c6, rfl, hc6, ho6, hr6, hb6⟩)
  have hbw6 : Below w.heap.size w w6 := ((hbw3.alloc hs3 _).alloc (by simp; omega) _).trans (hb6.mono (by simp; omega))
  have hs6 := hbw6.size
  have hz6 : w3.heap.size + 2 ≤ w6.heap.size := by have := hb6.size; simpa using this
  have hbv6 : Blk w6 w3.heap.size 55 #[.int .i64 gvQ.kind, .int .i64 gvQ.n, .string ⟨gvQ.s.toArray⟩, .slice I3 0 ci3, .slice (some ad3) 1 cl3] := ((hbv.alloc _).below hb6 (by rw [World.size_alloc, World.size_alloc]; omega))
  have hc6' : w6.cell? ad3 = some (.string ⟨#[113]⟩) := (hb6.cell (p := ad3) (by simp; omega)).trans ((World.cell?_alloc_lt _ _ _ (by rw [World.size_alloc]; omega)).trans ((World.cell?_alloc_lt _ _ _ had3).trans hc3))
  have H6 := Lib.hid ((open_at hr6 hc6 (by decide) (HT.out.on hbw6)).mono fun _ _ h => h.to 7 body4 4 12 0 (by rw [ev11]) (by rw [ev11]) rfl (by rw [ev11]; rfl) (by rw [ev11]; rfl))
  clear H5 hc3 hbv hb6 ho6
  go_wp2_with (first
    | (go_at_call 49; refine H6.out.mono ?_; rintro e w7 ⟨A7, c7, rfl, hc7, hr7, hb7⟩; have q4 : w7.cell? ⟨w3.heap.size, 4, none⟩ = some (.slice (some ad3) 1 cl3) := (hb7.cell (p := ⟨w3.heap.size, 4, none⟩) (by show w3.heap.size < _; omega)).trans (hbv6.cell 4); have q5 : w7.cell? ad3 = some (.string ⟨#[113]⟩) := (hb7.cell (p := ad3) (by omega)).trans hc6'; have hcv := run_str (P := Tryd.prog) (w := w7) Tryd.underlying22 Tryd.underlying5 Tryd.underlying9 hr7 c7; have hbw7 : Below w.heap.size w w7 := hbw6.trans (hb7.mono hs6); have k9 := Lib.run_convert_bytes_const (P := Tryd.prog) w7 22 5 #[.int .u8 49, .int .u8 50, .int .u8 51, .int .u8 52, .int .u8 53, .int .u8 54, .int .u8 55, .int .u8 56, .int .u8 57] 9 9 Tryd.underlying22 Tryd.underlying5)
    | (go_at_call 51; refine (sum9 w7 (HT.out.on hbw7)).mono ?_; rintro e w' ⟨rfl, rfl⟩)
    | (go_at_call 22; refine (app5 (w7.alloc (.cells #[.int .u8 49, .int .u8 50, .int .u8 51, .int .u8 52, .int .u8 53, .int .u8 54, .int .u8 55, .int .u8 56, .int .u8 57] 5 (9, 10))) (w7.heap.size + 1) (by simp)).mono ?_; rintro e w10 ⟨A10, c10, rfl, hc10, ho10, hr10, hb10⟩; have hcv10 := run_str (P := Tryd.prog) (w := w10) Tryd.underlying22 Tryd.underlying5 Tryd.underlying9 hr10 c10))
  go_ret
  have hs7 := hbw7.size
  exact ⟨rfl, ((hbw7.alloc hs7 _).alloc (by rw [World.size_alloc]; omega) _).trans (hb10.mono (by rw [World.size_alloc]; omega))⟩
end Go.Proofs.YtklihjgmmliejaaDoor.W
