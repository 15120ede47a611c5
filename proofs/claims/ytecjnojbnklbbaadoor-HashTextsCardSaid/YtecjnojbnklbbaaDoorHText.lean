/- The contracts of Combine and Text, and of the reference's. -/
import Derived.Test.YtecjnojbnklbbaaDoorHMix
import Derived.Lib.UnsafeStr
import Derived.Laws.IdiomStrings
namespace Go.Proofs.YtecjnojbnklbbaaDoor.H
set_option linter.unusedVariables false
open Go.RowKit

theorem Gives.trans {w : World} {r : BitVec 64} {k : Nat} {e : Ending} {w' : World} (h : Gives (w.drewN k) r e w') : Gives w r e w' := by
  obtain ⟨h1, m, rfl⟩ := h
  exact ⟨h1, _, World.drewN_drewN _ _ _⟩

set_option maxRecDepth 100000 in
theorem combine_any (h x : BitVec 64) (w : World) (ht : Tab w) : Calls Tryd.prog 12 #[.int .u64 (h.toNat : Int), .int .u64 (x.toNat : Int)] w (Gives w (comb h x)) := by
  have h1 := inc_walk x
  have h2 := lmul_walk STR (x + 1#64) 11400714819323198485 (by decide)
  have h3 := add_walk h (STR * (x + 1#64))
  have C := Lib.hid (fun W hW => mix_any (h + STR * (x + 1#64)) W hW)
  have hr : comb h x = mix (h + STR * (x + 1#64)) := rfl
  rw [hr]
  generalize mix (h + STR * (x + 1#64)) = p4 at *
  generalize h + STR * (x + 1#64) = p3 at *
  generalize STR * (x + 1#64) = p2 at *
  generalize x + 1#64 = p1 at *
  have b0 := x.isLt
  have bh := h.isLt
  have b1 := p1.isLt
  have b2 := p2.isLt
  have b3 := p3.isLt
  clear hr
  go_enter Tryd.func12, Tryd.ntmps12
  go_wp2_with (go_at_call 9; refine (C.out _ ht).mono ?_; rintro e w' ⟨rfl, k, rfl⟩)
  go_ret
  exact Gives.of rfl
set_option maxRecDepth 100000 in
theorem refCombine_any (h x : BitVec 64) (w : World) : Calls Tryd.prog 13 #[.int .u64 (h.toNat : Int), .int .u64 (x.toNat : Int)] w (Gives w (comb h x)) := by
  have h1 := inc_walk x
  have h2 := lmul_walk STR (x + 1#64) 11400714819323198485 (by decide)
  have h3 := add_walk h (STR * (x + 1#64))
  have C := Lib.hid (fun W => refMix_any (h + STR * (x + 1#64)) W)
  have hr : comb h x = mix (h + STR * (x + 1#64)) := rfl
  rw [hr]
  generalize mix (h + STR * (x + 1#64)) = p4 at *
  generalize h + STR * (x + 1#64) = p3 at *
  generalize STR * (x + 1#64) = p2 at *
  generalize x + 1#64 = p1 at *
  have b0 := x.isLt
  have bh := h.isLt
  have b1 := p1.isLt
  have b2 := p2.isLt
  have b3 := p3.isLt
  clear hr
  go_enter Tryd.func13, Tryd.ntmps13
  go_wp2_with (go_at_call 10; refine (C.out _).mono ?_; rintro e w' ⟨rfl, k, rfl⟩)
  go_ret
  exact Gives.of rfl
theorem combine_lit (n : Int) (h x : BitVec 64) (w : World) (hn : n = (h.toNat : Int)) (ht : Tab w) : Calls Tryd.prog 12 #[.int .u64 n, .int .u64 (x.toNat : Int)] w (Gives w (comb h x)) := by
  subst hn
  exact combine_any h x w ht
theorem refCombine_lit (n : Int) (h x : BitVec 64) (w : World) (hn : n = (h.toNat : Int)) : Calls Tryd.prog 13 #[.int .u64 n, .int .u64 (x.toNat : Int)] w (Gives w (comb h x)) := by
  subst hn
  exact refCombine_any h x w
/- TEXT -/
theorem run_idx {P : Program} (t : TypeId) (hP : P.underlying t = some .string) (l : List UInt8) (k : Nat) (z : UInt8) (hz : l[k]? = some z) :
    ∀ W, (Instr.index t (.string ⟨l.toArray⟩) (.int .i64 (k : Int))).run P W = .ok (.int .u8 (z.toNat : Int)) W := by
  intro W
  have hk : k < l.length := (List.getElem?_eq_some_iff.1 hz).1
  have hzz : l[k] = z := (List.getElem?_eq_some_iff.1 hz).2
  have hs : (ByteArray.mk l.toArray).size = l.length := by show l.toArray.size = _; simp
  rw [run_index_string W t _ .i64 _ hP, dif_pos ⟨by omega, by rw [hs]; omega⟩]
  congr 3
  rw [← hzz]
  rfl
theorem len_str (l : List UInt8) : (ByteArray.mk l.toArray).size = l.length := by show l.toArray.size = _; simp
def tfrom (h : BitVec 64) (s : List UInt8) : BitVec 64 := s.foldl step h
theorem step_walk (h : BitVec 64) (z : UInt8) : IntKind.u64.wrap (bits .xor .u64 (h.toNat : Int) (z.toNat : Int) * 1099511628211) = (((step h z).toNat : Nat) : Int) := by
  have e : (z.toNat : Int) = (((BitVec.ofNat 64 z.toNat).toNat : Nat) : Int) := by
    have := z.toNat_lt
    rw [BitVec.toNat_ofNat, Nat.mod_eq_of_lt (by omega)]
  rw [e, xor_walk]
  exact mul_walk (h ^^^ BitVec.ofNat 64 z.toNat) 1099511628211#64 1099511628211 (by decide)

set_option maxRecDepth 100000 in
set_option maxHeartbeats 400000 in
theorem text_any (s : List UInt8) (w : World) (hs : s.length ≤ 1099511627776) (ht : Tab w) : Calls Tryd.prog 14 #[.string ⟨s.toArray⟩] w (Gives w (text s)) := by
  have C := Lib.hid (fun (y : BitVec 64) => mix_any y w ht)
  have hl := len_str s
  go_enter Tryd.func14, Tryd.ntmps14
  go_wp2
  go_loop [3, 7] (fun v i => ∃ (k : Nat) (h : BitVec 64), k ≤ s.length ∧ i = .int .i64 k ∧ v = .int .u64 (h.toNat : Int) ∧ tfrom h (s.drop k) = tfrom 14695981039346656037#64 s) (fun _ i => s.length - (intOf i).toNat)
  case atStart => exact ⟨0, 14695981039346656037#64, Nat.zero_le _, rfl, rfl, rfl⟩
  case round =>
    obtain ⟨k, h, hk, rfl, rfl, hres⟩ := hrel
    by_cases hlt : k < s.length
    · have hi := run_idx (P := Tryd.prog) 9 Tryd.underlying9 s k s[k] (List.getElem?_eq_getElem hlt)
      have hd : s.drop k = s[k] :: s.drop (k + 1) := List.drop_eq_getElem_cons hlt
      rw [hd] at hres
      generalize s[k] = z at *
      have hres2 : tfrom (step h z) (s.drop (k + 1)) = tfrom 14695981039346656037#64 s := hres
      have HS := Lib.hid hres2
      have hw := step_walk h z
      have b0 := h.isLt
      have bz := z.toNat_lt
      have hlt2 : (k : Int) < (s.length : Int) := by omega
      generalize step h z = h2 at *
      have b2 := h2.isLt
      clear hres hres2 hd
      go_wp2_with fail
      go_round
      case rel => exact ⟨k + 1, h2, by omega, by go_num, rfl, HS.out⟩
      case measure => simp [intOf]; omega
    · have HR := Lib.hid (show mix h = text s by rw [text, ← show tfrom 14695981039346656037#64 s = s.foldl step _ from rfl, ← hres, List.drop_eq_nil_of_le (by omega)]; rfl)
      have hlt2 : ¬ (k : Int) < (s.length : Int) := by omega
      clear hres
      go_wp2_with (go_at_call 9; refine (C.out _).mono ?_; rintro e w' ⟨rfl, q, rfl⟩)
      go_ret
      exact Gives.of HR.out
set_option maxRecDepth 100000 in
set_option maxHeartbeats 400000 in
theorem refText_any (s : List UInt8) (w : World) (hs : s.length ≤ 1099511627776) : Calls Tryd.prog 15 #[.string ⟨s.toArray⟩] w (Gives w (text s)) := by
  have C := Lib.hid (fun (y : BitVec 64) => refMix_any y w)
  have hl := len_str s
  go_enter Tryd.func15, Tryd.ntmps15
  go_wp2
  go_loop [3, 4] (fun v i => ∃ (k : Nat) (h : BitVec 64), k ≤ s.length ∧ i = .int .i64 k ∧ v = .int .u64 (h.toNat : Int) ∧ tfrom h (s.drop k) = tfrom 14695981039346656037#64 s) (fun _ i => s.length - (intOf i).toNat)
  case atStart => exact ⟨0, 14695981039346656037#64, Nat.zero_le _, rfl, rfl, rfl⟩
  case round =>
    obtain ⟨k, h, hk, rfl, rfl, hres⟩ := hrel
    by_cases hlt : k < s.length
    · have hi := run_idx (P := Tryd.prog) 9 Tryd.underlying9 s k s[k] (List.getElem?_eq_getElem hlt)
      have hd : s.drop k = s[k] :: s.drop (k + 1) := List.drop_eq_getElem_cons hlt
      rw [hd] at hres
      generalize s[k] = z at *
      have hres2 : tfrom (step h z) (s.drop (k + 1)) = tfrom 14695981039346656037#64 s := hres
      have HS := Lib.hid hres2
      have hw := step_walk h z
      have b0 := h.isLt
      have bz := z.toNat_lt
      have hlt2 : (k : Int) < (s.length : Int) := by omega
      generalize step h z = h2 at *
      have b2 := h2.isLt
      clear hres hres2 hd
      go_wp2_with fail
      go_round
      case rel => exact ⟨k + 1, h2, by omega, by go_num, rfl, HS.out⟩
      case measure => simp [intOf]; omega
    · have HR := Lib.hid (show mix h = text s by rw [text, ← show tfrom 14695981039346656037#64 s = s.foldl step _ from rfl, ← hres, List.drop_eq_nil_of_le (by omega)]; rfl)
      have hlt2 : ¬ (k : Int) < (s.length : Int) := by omega
      clear hres
      go_wp2_with (go_at_call 10; refine (C.out _).mono ?_; rintro e w' ⟨rfl, q, rfl⟩)
      go_ret
      exact Gives.of HR.out

def SALT : BitVec 64 := 0x746f6b656e#64
def In64 (i : Int) : Prop := -9223372036854775808 ≤ i ∧ i ≤ 9223372036854775807
def posW (ring id : Int) : BitVec 64 := comb (wordOf ring) (wordOf id)
def tokW (member i : Int) : BitVec 64 := comb (comb SALT (wordOf member)) (wordOf i)
def actW (t k : List UInt8) : BitVec 64 := comb (text t) (text k)

set_option maxRecDepth 100000 in
theorem position_any (ring id : Int) (w : World) (ht : Tab w) : Calls Tryd.prog 16 #[.int .i64 ring, .int .i64 id] w (Gives w (posW ring id)) := by
  have h1 := int_word ring
  have h2 := int_word id
  have C := Lib.hid (combine_any (wordOf ring) (wordOf id) w ht)
  have hr : posW ring id = comb (wordOf ring) (wordOf id) := rfl
  rw [hr]
  generalize comb (wordOf ring) (wordOf id) = r at *
  generalize wordOf ring = a at *
  generalize wordOf id = b at *
  clear hr
  go_enter Tryd.func16, Tryd.ntmps16
  go_wp2_with (go_at_call 12; refine C.out.mono ?_; rintro e w' ⟨rfl, q, rfl⟩)
  go_ret
  exact Gives.of rfl
set_option maxRecDepth 100000 in
theorem refPosition_any (ring id : Int) (w : World) : Calls Tryd.prog 17 #[.int .i64 ring, .int .i64 id] w (Gives w (posW ring id)) := by
  have h1 := int_word ring
  have h2 := int_word id
  have C := Lib.hid (refCombine_any (wordOf ring) (wordOf id) w)
  have hr : posW ring id = comb (wordOf ring) (wordOf id) := rfl
  rw [hr]
  generalize comb (wordOf ring) (wordOf id) = r at *
  generalize wordOf ring = a at *
  generalize wordOf id = b at *
  clear hr
  go_enter Tryd.func17, Tryd.ntmps17
  go_wp2_with (go_at_call 13; refine C.out.mono ?_; rintro e w' ⟨rfl, q, rfl⟩)
  go_ret
  exact Gives.of rfl
set_option maxRecDepth 100000 in
theorem token_any (member i : Int) (w : World) (ht : Tab w) : Calls Tryd.prog 18 #[.int .i64 member, .int .i64 i] w (Gives w (tokW member i)) := by
  have h1 := int_word member
  have h2 := int_word i
  have C1 := Lib.hid (combine_lit 500085515630 SALT (wordOf member) w (by decide) ht)
  have C2 := Lib.hid (fun k => combine_any (comb SALT (wordOf member)) (wordOf i) (w.drewN k) (ht.drewN k))
  have hr : tokW member i = comb (comb SALT (wordOf member)) (wordOf i) := by unfold tokW; rfl
  rw [hr]
  generalize comb (comb SALT (wordOf member)) (wordOf i) = r at *
  generalize comb SALT (wordOf member) = c at *
  generalize wordOf member = a at *
  generalize wordOf i = b at *
  clear hr
  go_enter Tryd.func18, Tryd.ntmps18
  go_wp2_with (first
    | (go_at_call 12; (with_reducible refine C1.out.mono ?_); rintro e w' ⟨rfl, q, rfl⟩)
    | (go_at_call 12; (with_reducible refine (C2.out _).mono ?_); rintro e w' ⟨rfl, q2, rfl⟩))
  go_ret
  exact Gives.of rfl
set_option maxRecDepth 100000 in
theorem refToken_any (member i : Int) (w : World) : Calls Tryd.prog 19 #[.int .i64 member, .int .i64 i] w (Gives w (tokW member i)) := by
  have h1 := int_word member
  have h2 := int_word i
  have C1 := Lib.hid (refCombine_lit 500085515630 SALT (wordOf member) w (by decide))
  have C2 := Lib.hid (fun k => refCombine_any (comb SALT (wordOf member)) (wordOf i) (w.drewN k))
  have hr : tokW member i = comb (comb SALT (wordOf member)) (wordOf i) := by unfold tokW; rfl
  rw [hr]
  generalize comb (comb SALT (wordOf member)) (wordOf i) = r at *
  generalize comb SALT (wordOf member) = c at *
  generalize wordOf member = a at *
  generalize wordOf i = b at *
  clear hr
  go_enter Tryd.func19, Tryd.ntmps19
  go_wp2_with (first
    | (go_at_call 13; (with_reducible refine C1.out.mono ?_); rintro e w' ⟨rfl, q, rfl⟩)
    | (go_at_call 13; (with_reducible refine (C2.out _).mono ?_); rintro e w' ⟨rfl, q2, rfl⟩))
  go_ret
  exact Gives.of rfl

theorem Tab.alloc {w : World} (h : Tab w) (hs : 2 < w.heap.size) (o : Obj) : Tab (w.alloc o) :=
  ⟨(World.cell?_alloc_lt w o _ (by show 0 < _; omega)).trans h.s0, (World.cell?_alloc_lt w o _ (by show 0 < _; omega)).trans h.s1, (World.cell?_alloc_lt w o _ (by show 0 < _; omega)).trans h.s2,
   (World.cell?_alloc_lt w o _ (by show 1 < _; omega)).trans h.f0, (World.cell?_alloc_lt w o _ (by show 1 < _; omega)).trans h.f1, (World.cell?_alloc_lt w o _ (by show 2 < _; omega)).trans h.i0, (World.cell?_alloc_lt w o _ (by show 2 < _; omega)).trans h.i1⟩
theorem cell_lt {w : World} {p : Addr} {v : Value} (h : w.cell? p = some v) : p.block < w.heap.size := by
  by_cases hc : p.block < w.heap.size
  · exact hc
  · have : w.heap[p.block]? = none := by simp; omega
    simp [World.cell?, this] at h
theorem Tab.size {w : World} (h : Tab w) : 2 < w.heap.size := cell_lt h.i0
theorem below_drewN {B : Nat} {a w : World} (h : Below B a w) (n : Nat) : Below B a (w.drewN n) := ⟨h.os, h.tape, h.output, h.size, h.block⟩
theorem Gives.quiet {P : Program} {f : FuncId} {args : Array Value} {w : World} {n : Nat} {r : BitVec 64} (h : Calls P f args (w.drewN n) (Gives (w.drewN n) r)) :
    Calls P f args (w.drewN n) fun e w'' => e = .returned (.int .u64 (r.toNat : Int)) ∧ ∃ m, w'' = w.drewN m := Calls.quiet_of h
/-- What a function leaves that lays a box of its own. -/
def Lays (w : World) (r : BitVec 64) (e : Ending) (w' : World) : Prop := e = .returned (.int .u64 (r.toNat : Int)) ∧ Below w.heap.size w w'

set_option maxRecDepth 100000 in
set_option maxHeartbeats 400000 in
theorem actor_any (t k : List UInt8) (w : World) (h1 : t.length ≤ 1099511627776) (h2 : k.length ≤ 1099511627776) (ht : Tab w) : Calls Tryd.prog 20 #[.agg #[.string ⟨t.toArray⟩, .string ⟨k.toArray⟩]] w (Lays w (actW t k)) := by
  have hT := ht.alloc ht.size (.cells #[.string ⟨t.toArray⟩, .string ⟨k.toArray⟩] 30)
  have C1 := Lib.hid (fun n => Gives.quiet (text_any t ((w.alloc (.cells #[.string ⟨t.toArray⟩, .string ⟨k.toArray⟩] 30)).drewN n) h1 (hT.drewN n)))
  have C2 := Lib.hid (fun n => Gives.quiet (text_any k ((w.alloc (.cells #[.string ⟨t.toArray⟩, .string ⟨k.toArray⟩] 30)).drewN n) h2 (hT.drewN n)))
  have C3 := Lib.hid (fun n => Gives.quiet (combine_any (text t) (text k) ((w.alloc (.cells #[.string ⟨t.toArray⟩, .string ⟨k.toArray⟩] 30)).drewN n) (hT.drewN n)))
  have hb := (Below.refl w.heap.size w).alloc (Nat.le_refl _) (.cells #[.string ⟨t.toArray⟩, .string ⟨k.toArray⟩] 30)
  have hr : actW t k = comb (text t) (text k) := rfl
  rw [hr]
  generalize comb (text t) (text k) = r at *
  generalize text t = a at *
  generalize text k = b at *
  clear hr ht hT
  go_enter Tryd.func20, Tryd.ntmps20
  go_wp2_with fail
  go_quiet (first
    | (go_at_call 14; with_reducible exact C1.out _)
    | (go_at_call 14; with_reducible exact C2.out _)
    | (go_at_call 12; with_reducible exact C3.out _))
  go_wp2_with fail
  go_ret
  exact ⟨rfl, below_drewN hb _⟩
set_option maxRecDepth 100000 in
set_option maxHeartbeats 400000 in
theorem refActor_any (t k : List UInt8) (w : World) (h1 : t.length ≤ 1099511627776) (h2 : k.length ≤ 1099511627776) : Calls Tryd.prog 21 #[.agg #[.string ⟨t.toArray⟩, .string ⟨k.toArray⟩]] w (Lays w (actW t k)) := by
  have C1 := Lib.hid (fun n => Gives.quiet (refText_any t ((w.alloc (.cells #[.string ⟨t.toArray⟩, .string ⟨k.toArray⟩] 30)).drewN n) h1))
  have C2 := Lib.hid (fun n => Gives.quiet (refText_any k ((w.alloc (.cells #[.string ⟨t.toArray⟩, .string ⟨k.toArray⟩] 30)).drewN n) h2))
  have C3 := Lib.hid (fun n => Gives.quiet (refCombine_any (text t) (text k) ((w.alloc (.cells #[.string ⟨t.toArray⟩, .string ⟨k.toArray⟩] 30)).drewN n)))
  have hb := (Below.refl w.heap.size w).alloc (Nat.le_refl _) (.cells #[.string ⟨t.toArray⟩, .string ⟨k.toArray⟩] 30)
  have hr : actW t k = comb (text t) (text k) := rfl
  rw [hr]
  generalize comb (text t) (text k) = r at *
  generalize text t = a at *
  generalize text k = b at *
  clear hr
  go_enter Tryd.func21, Tryd.ntmps21
  go_wp2_with fail
  go_quiet (first
    | (go_at_call 15; with_reducible exact C1.out _)
    | (go_at_call 15; with_reducible exact C2.out _)
    | (go_at_call 13; with_reducible exact C3.out _))
  go_wp2_with fail
  go_ret
  exact ⟨rfl, below_drewN hb _⟩
end Go.Proofs.YtecjnojbnklbbaaDoor.H
