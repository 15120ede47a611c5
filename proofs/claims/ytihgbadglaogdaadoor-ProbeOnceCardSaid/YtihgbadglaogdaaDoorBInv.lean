/- Layer 5: detectors as data, and the contracts of the detector's functions over them. -/
import Derived.Test.YtihgbadglaogdaaDoorBProb7
namespace Go.Proofs.YtihgbadglaogdaaDoor.Pb
set_option linter.unusedVariables false
open Go.RowKit
open Go.Proofs.YtihgbadglaogdaaDoor.W
open Go.Proofs.YtihgbadglaogdaaDoor.V
open Go.Proofs.YtihgbadglaogdaaDoor.O

/-- A detector. -/
structure Dt where
  me : Int
  num : Int
  l : List Int
  es : List Edge
def Dt.zero : Dt := ⟨0, 0, [], []⟩
def Dt.ok (d : Dt) : Bool := okD K d.num d.l d.me d.es
def Dt.hear (x : Int) (d : Dt) : Dt := if d.ok then { d with es := Pb.hear x d.es } else Dt.zero
def Dt.tick (d : Dt) : Dt := if d.ok then { d with es := Pb.tick d.es } else Dt.zero
def Dt.alr (d : Dt) : List Alr := if d.ok then alertsOf d.num d.me d.es else []
def Dt.new (num : Int) (l : List Int) (me : Int) : Dt := if okN num l me then ⟨me, num, l, newE K l me⟩ else Dt.zero
def newErr (num : Int) (l : List Int) (me : Int) : Int := if okN num l me then 0 else 1
def ElE (e : Edge) : Prop := In64 e.ring ∧ In64 e.subj ∧ In64 e.cnt ∧ e.bits < 4294967296
theorem el_hear {x : Int} {es : List Edge} (h : ∀ e ∈ es, ElE e) : ∀ e ∈ hear x es, ElE e := by
  intro e he
  obtain ⟨e', he', rfl⟩ := List.mem_map.1 he
  exact h e' he'
theorem el_tick {es : List Edge} (h : ∀ e ∈ es, ElE e) : ∀ e ∈ tick es, ElE e := by
  intro e he
  obtain ⟨e', he', rfl⟩ := List.mem_map.1 he
  obtain ⟨h1, h2, h3, h4⟩ := h e' he'
  have hk := recW_ok e'.bits e'.cnt e'.heard
  have hb := okWin_lt hk
  obtain ⟨g0, g1, _⟩ := okWin_iff.1 hk
  exact ⟨h1, h2, ⟨by show _ ≤ (recW e'.bits e'.cnt e'.heard).2; omega, by show (recW e'.bits e'.cnt e'.heard).2 ≤ _; omega⟩, by show (recW e'.bits e'.cnt e'.heard).1 < _; omega⟩
theorem el_mkE {l : List Int} (h : ∀ x ∈ l, In64 x) : ∀ {r : Int}, 0 ≤ r → r + l.length ≤ 1000 → ∀ e ∈ mkE r l, ElE e := by
  induction l with
  | nil => intro r _ _ e he; cases he
  | cons x t ih =>
    intro r hr hl e he
    simp at hl
    rcases List.mem_cons.1 he with rfl | he
    · exact ⟨⟨by show _ ≤ r; omega, by show r ≤ _; omega⟩, h x (by simp), ⟨by show _ ≤ (0 : Int); omega, by show (0 : Int) ≤ _; omega⟩, by show 0 < _; omega⟩
    · exact ih (fun y hy => h y (by simp [hy])) (r := r + 1) (by omega) (by omega) e he
theorem el_new {l : List Int} {me : Int} (h : ∀ x ∈ l, In64 x) : ∀ e ∈ newE K l me, ElE e := by
  refine el_mkE (fun x hx => ?_) (by omega) (by have := subL_len (K := K) (l := l) (x := me); omega)
  unfold subL at hx
  split at hx
  · rename_i hc
    simp only [Bool.and_eq_true, decide_eq_true_eq] at hc
    obtain ⟨r, _, e⟩ := List.mem_map.1 hx
    rw [← e]
    exact h _ (next_facts inj_K hc.1.1 hc.1.2 r (hasB_iff.1 hc.2)).1
  · cases hx
/-- A detector, as it lies in memory. -/
def DD (W : World) (d : Dt) (A : Option Addr) (c : Nat) (E : Option Addr) (cE : Nat) : Prop := DW W W.heap.size d.me d.num d.l A c d.es E cE
theorem DD.on {w W : World} {d : Dt} {A E : Option Addr} {c cE : Nat} (h : DD w d A c E cE) (hq : Below w.heap.size w W) : DD W d A c E cE := (DW.below h hq).more hq.size
theorem DD.zero (W : World) : DD W Dt.zero none 0 none 0 :=
  ⟨⟨by show _ ≤ (0 : Int); omega, by show (0 : Int) ≤ _; omega⟩, ⟨⟨by show _ ≤ (0 : Int); omega, by show (0 : Int) ≤ _; omega⟩, Reads.none_, by show 0 ≤ _; omega, fun x hx => (by cases hx), Nat.le_refl _⟩, Reads.none_, by show 0 ≤ _; omega, fun x hx => (by cases hx), Nat.le_refl _⟩
/-- Rows that a store does not reach. -/
def Off (A : Option Addr) (g : Nat) : Prop := ∀ ad, A = some ad → ad.block ≠ g
def Old (A : Option Addr) (n : Nat) : Prop := ∀ ad, A = some ad → ad.block < n
theorem Old.off {A : Option Addr} {n g : Nat} (h : Old A n) (hg : n ≤ g) : Off A g := fun ad e => by have := h ad e; omega
theorem old_none (n : Nat) : Old none n := fun _ h => by cases h
def Back (A' A : Option Addr) : Prop := ∀ ad, A' = some ad → A = some ad
def Fresh (E : Option Addr) (n : Nat) : Prop := ∀ ad, E = some ad → n ≤ ad.block
theorem Off.none (g : Nat) : Off none g := fun _ h => by cases h
theorem Back.off {A' A : Option Addr} {g : Nat} (h : Back A' A) (ho : Off A g) : Off A' g := fun ad e => ho ad (h ad e)
theorem Fresh.off {E : Option Addr} {n g : Nat} (h : Fresh E n) (hg : g < n) : Off E g := fun ad e => by have := h ad e; omega
theorem DD.set {w : World} {d : Dt} {A E : Option Addr} {c cE : Nat} (h : DD w d A c E cE) {p : Addr} (hA : Off A p.block) (hE : Off E p.block) (u : Value) : DD (w.setCell p u) d A c E cE := by
  have hs : (w.setCell p u).heap.size = w.heap.size := by simp [World.setCell]
  unfold DD at *
  rw [hs]
  exact { h with vw := { h.vw with rd := reads_far h.vw.rd hA u }, rd := reads_far h.rd hE u }
/-- A detector comes back. -/
def OutD (w : World) (d : Dt) (A0 : Option Addr) (e : Ending) (w' : World) : Prop := ∃ A c E cE, e = .returned (.agg #[.int .i64 d.me, .int .i64 d.num, .slice A d.l.length c, .slice E d.es.length cE]) ∧ DD w' d A c E cE ∧ Back A A0 ∧ Fresh E w.heap.size ∧ Below w.heap.size w w'
def OutDE (w : World) (d : Dt) (n : Int) (B : Nat) (e : Ending) (w' : World) : Prop := ∃ A c E cE, e = .returned (.tuple #[.agg #[.int .i64 d.me, .int .i64 d.num, .slice A d.l.length c, .slice E d.es.length cE], .int .i64 n]) ∧ DD w' d A c E cE ∧ Old A B ∧ Fresh E w.heap.size ∧ Old E w'.heap.size ∧ Below w.heap.size w w'
def OutDA (w : World) (d : Dt) (as_ : List Alr) (A0 : Option Addr) (e : Ending) (w' : World) : Prop := ∃ A c E cE X cX, e = .returned (.tuple #[.agg #[.int .i64 d.me, .int .i64 d.num, .slice A d.l.length c, .slice E d.es.length cE], .slice X as_.length cX]) ∧ DD w' d A c E cE ∧ Back A A0 ∧ Fresh E w.heap.size ∧ as_.length ≤ cX ∧ Reads w' w'.heap.size 4 X as_.length (alrsC as_) ∧ Fresh X w.heap.size ∧ Below w.heap.size w w'
/-- .. of the program: its rows are all of its own. -/
def OutF (w : World) (d : Dt) (e : Ending) (w' : World) : Prop := ∃ A c E cE, e = .returned (.agg #[.int .i64 d.me, .int .i64 d.num, .slice A d.l.length c, .slice E d.es.length cE]) ∧ DD w' d A c E cE ∧ Fresh A w.heap.size ∧ Fresh E w.heap.size ∧ Below w.heap.size w w'
def OutFE (w : World) (d : Dt) (n : Int) (e : Ending) (w' : World) : Prop := ∃ A c E cE, e = .returned (.tuple #[.agg #[.int .i64 d.me, .int .i64 d.num, .slice A d.l.length c, .slice E d.es.length cE], .int .i64 n]) ∧ DD w' d A c E cE ∧ Old A w'.heap.size ∧ Fresh E w.heap.size ∧ Old E w'.heap.size ∧ Below w.heap.size w w'
def OutFA (w : World) (d : Dt) (as_ : List Alr) (e : Ending) (w' : World) : Prop := ∃ A c E cE X cX, e = .returned (.tuple #[.agg #[.int .i64 d.me, .int .i64 d.num, .slice A d.l.length c, .slice E d.es.length cE], .slice X as_.length cX]) ∧ DD w' d A c E cE ∧ Fresh A w.heap.size ∧ Fresh E w.heap.size ∧ as_.length ≤ cX ∧ Reads w' w'.heap.size 4 X as_.length (alrsC as_) ∧ Fresh X w.heap.size ∧ Below w.heap.size w w'
theorem back_none (A : Option Addr) : Back none A := fun _ h => by cases h
theorem fresh_none (n : Nat) : Fresh none n := fun _ h => by cases h
theorem OwnE.open2 {W : World} {B : Nat} {E : Value} {es : List Edge} (h : OwnE W B E es) : ∃ A c, E = .slice A es.length c ∧ es.length ≤ c ∧ Reads W W.heap.size 6 A es.length (edgesC es) ∧ Fresh A B ∧ Old A W.heap.size := by
  rcases h.2 with ⟨rfl, h0⟩ | ⟨g, cap, cur, rfl, hb, hg, h1, _⟩
  · have : es = [] := List.eq_nil_of_length_eq_zero h0
    subst this
    exact ⟨none, 0, rfl, Nat.le_refl _, Reads.none_, fresh_none _, old_none _⟩
  · exact ⟨_, cap, rfl, h1, Reads.of_own h, fun ad e => (by cases e; exact hb), fun ad e => (by cases e; exact (Array.getElem?_eq_some_iff.1 hg).1)⟩
theorem OwnA.open2 {W : World} {B : Nat} {AL : Value} {as_ : List Alr} (h : OwnA W B AL as_) : ∃ A c, AL = .slice A as_.length c ∧ as_.length ≤ c ∧ Reads W W.heap.size 4 A as_.length (alrsC as_) ∧ Fresh A B := by
  rcases h.2 with ⟨rfl, h0⟩ | ⟨g, cap, cur, rfl, hb, _, h1, _⟩
  · have : as_ = [] := List.eq_nil_of_length_eq_zero h0
    subst this
    exact ⟨none, 0, rfl, Nat.le_refl _, Reads.none_, fresh_none _⟩
  · exact ⟨_, cap, rfl, h1, Reads.of_own h, fun ad e => by cases e; exact hb⟩
theorem newPost_out {w w' : World} {me num : Int} {l : List Int} {A : Option Addr} {c B : Nat} {e : Ending} (hv : VW w B num l A c) (hB : B ≤ w.heap.size) (hm : In64 me) (h : NewPost w me num l A c e w') : OutDE w (Dt.new num l me) (newErr num l me) B e w' := by
  unfold Dt.new newErr
  cases hk : okN num l me
  · have := h.no hk
    exact ⟨none, 0, none, 0, this, DD.zero _, old_none _, fresh_none _, old_none _, h.bel⟩
  · obtain ⟨E, he, ho⟩ := h.yes hk
    obtain ⟨AE, cE, rfl, hc, hr, hfr, hold⟩ := ho.open2
    have hpos : 0 < l.length := by
      unfold okN at hk
      rw [Bool.and_eq_true] at hk
      exact List.length_pos_of_mem (hasB_iff.1 hk.2)
    have hlen := len_newE K l me
    exact ⟨A, c, AE, cE, he, ⟨hm, ((hv.more hB).below h.bel).more h.bel.size, hr, by show (newE K l me).length ≤ _; omega, el_new hv.el, hc⟩, fun ad e => (by
      obtain ⟨ad', e', hb', _⟩ := hv.rd.2 hpos
      rw [e] at e'; cases e'; exact hb'), hfr, hold, h.bel⟩
theorem detPost_out {w w' : World} {d : Dt} {A E : Option Addr} {c cE : Nat} {es : List Edge} {e : Ending} (hd : DD w d A c E cE) (hl : es.length = d.es.length) (hel : ∀ e ∈ es, ElE e) (h : DetPost w d.ok d.me d.num d.l A c es e w') :
    OutD w (if d.ok then { d with es := es } else Dt.zero) A e w' := by
  cases hk : d.ok
  · exact ⟨none, 0, none, 0, h.no hk, DD.zero _, back_none _, fresh_none _, h.bel⟩
  · obtain ⟨E', he, ho⟩ := h.yes hk
    obtain ⟨AE, cE', rfl, hc, hr, hfr, hold⟩ := ho.open2
    exact ⟨A, c, AE, cE', he, ⟨hd.me64, (hd.vw.below h.bel).more h.bel.size, hr, by show es.length ≤ _; have := hd.l40; omega, hel, hc⟩, fun _ h => h, hfr, h.bel⟩
theorem tickPost_out {w w' : World} {d : Dt} {A E : Option Addr} {c cE : Nat} {es : List Edge} {as_ : List Alr} {e : Ending} (hd : DD w d A c E cE) (hl : es.length = d.es.length) (hel : ∀ e ∈ es, ElE e) (h : TickPost w d.ok d.me d.num d.l A c es as_ e w') :
    OutDA w (if d.ok then { d with es := es } else Dt.zero) (if d.ok then as_ else []) A e w' := by
  cases hk : d.ok
  · exact ⟨none, 0, none, 0, none, 0, h.no hk, DD.zero _, back_none _, fresh_none _, Nat.le_refl _, Reads.none_, fresh_none _, h.bel⟩
  · obtain ⟨E', AL, he, ho, ha⟩ := h.yes hk
    obtain ⟨AE, cE', rfl, hc, hr, hfr, hold⟩ := ho.open2
    obtain ⟨X, cX, rfl, hcX, hrX, hfX⟩ := ha.open2
    exact ⟨A, c, AE, cE', X, cX, he, ⟨hd.me64, (hd.vw.below h.bel).more h.bel.size, hr, by show es.length ≤ _; have := hd.l40; omega, hel, hc⟩, fun _ h => h, hfr, hcX, hrX, hfX, h.bel⟩
theorem dw_own {w w' : World} {me num : Int} {l : List Int} {es : List Edge} {g c : Nat} {AE : Option Addr} {cE : Nat} (hm : In64 me) (hn : In64 num) (h40 : l.length ≤ 1099511627776) (hl : ∀ x ∈ l, In64 x) (hx : OwnL w' w.heap.size g c l)
    (hr : Reads w' w'.heap.size 6 AE es.length (edgesC es)) (he40 : es.length ≤ 1099511627776) (hel : ∀ e ∈ es, ElE e) (hc : es.length ≤ cE) : DD w' ⟨me, num, l, es⟩ (some ⟨g, 0, none⟩) c AE cE := by
  have := own_ls hx rfl h40 hl
  exact ⟨hm, ⟨hn, this.rd, h40, hl, this.cap⟩, hr, he40, hel, hc⟩
theorem newPF_out {w w' : World} {me num : Int} {l : List Int} {A : Option Addr} {c B : Nat} {e : Ending} (hv : VW w B num l A c) (hm : In64 me) (h : NewPF w me num l e w') : OutFE w (Dt.new num l me) (newErr num l me) e w' := by
  unfold Dt.new newErr
  cases hk : okN num l me
  · have := h.no hk
    exact ⟨none, 0, none, 0, this, DD.zero _, old_none _, fresh_none _, old_none _, h.bel⟩
  · obtain ⟨g, cg, E, he, hg, hx, ho⟩ := h.yes hk
    obtain ⟨AE, cE, rfl, hc, hr, hfr, hold⟩ := ho.open2
    have hlen := len_newE K l me
    exact ⟨_, cg, AE, cE, he, dw_own hm hv.num64 hv.l40 hv.el hx hr (by omega) (el_new hv.el) hc, fun ad e => (by cases e; exact own_in hx), hfr, hold, h.bel⟩
theorem detPF_out {w w' : World} {d : Dt} {A E : Option Addr} {c cE : Nat} {es : List Edge} {e : Ending} (hd : DD w d A c E cE) (hl : es.length = d.es.length) (hel : ∀ e ∈ es, ElE e) (h : DetPF w d.ok d.me d.num d.l es e w') :
    OutF w (if d.ok then { d with es := es } else Dt.zero) e w' := by
  cases hk : d.ok
  · exact ⟨none, 0, none, 0, h.no hk, DD.zero _, fresh_none _, fresh_none _, h.bel⟩
  · obtain ⟨g, cg, E', he, hg, hx, ho⟩ := h.yes hk
    obtain ⟨AE, cE', rfl, hc, hr, hfr, hold⟩ := ho.open2
    exact ⟨_, cg, AE, cE', he, dw_own hd.me64 hd.vw.num64 hd.vw.l40 hd.vw.el hx hr (by have := hd.l40; omega) hel hc, fun ad e => (by cases e; exact hg), hfr, h.bel⟩
theorem tickPF_out {w w' : World} {d : Dt} {A E : Option Addr} {c cE : Nat} {es : List Edge} {as_ : List Alr} {e : Ending} (hd : DD w d A c E cE) (hl : es.length = d.es.length) (hel : ∀ e ∈ es, ElE e) (h : TickPF w d.ok d.me d.num d.l es as_ e w') :
    OutFA w (if d.ok then { d with es := es } else Dt.zero) (if d.ok then as_ else []) e w' := by
  cases hk : d.ok
  · exact ⟨none, 0, none, 0, none, 0, h.no hk, DD.zero _, fresh_none _, fresh_none _, Nat.le_refl _, Reads.none_, fresh_none _, h.bel⟩
  · obtain ⟨g, cg, E', AL, he, hg, hx, ho, ha⟩ := h.yes hk
    obtain ⟨AE, cE', rfl, hc, hr, hfr, hold⟩ := ho.open2
    obtain ⟨X, cX, rfl, hcX, hrX, hfX⟩ := ha.open2
    exact ⟨_, cg, AE, cE', X, cX, he, dw_own hd.me64 hd.vw.num64 hd.vw.l40 hd.vw.el hx hr (by have := hd.l40; omega) hel hc, fun ad e => (by cases e; exact hg), hfr, hcX, hrX, hfX, h.bel⟩
section
variable {W : World} {d : Dt} {A E : Option Addr} {c cE : Nat}
theorem pNew (num me : Int) (l : List Int) {B : Nat} (hv : VW W B num l A c) (hB : B ≤ W.heap.size) (hm : In64 me) (ht : H.Tab W) : Calls Tryd.prog 17 #[.agg #[.int .i64 num, .slice A l.length c], .int .i64 me] W (OutFE W (Dt.new num l me) (newErr num l me)) :=
  (probeNew_any me num A c _ l W hv hB hm ht).mono fun _ _ h => newPF_out hv hm h
theorem rNew (num me : Int) (l : List Int) {B : Nat} (hv : VW W B num l A c) (hB : B ≤ W.heap.size) (hm : In64 me) : Calls Tryd.prog 18 #[.agg #[.int .i64 num, .slice A l.length c], .int .i64 me] W (OutDE W (Dt.new num l me) (newErr num l me) B) :=
  (refNew_any me num A c _ l W hv hB hm).mono fun _ _ h => newPost_out hv hB hm h
theorem pHeard (x : Int) (hd : DD W d A c E cE) (hx : In64 x) (ht : H.Tab W) : Calls Tryd.prog 24 #[.agg #[.int .i64 d.me, .int .i64 d.num, .slice A d.l.length c, .slice E d.es.length cE], .int .i64 x] W (OutF W (d.hear x)) :=
  (probeHeard_any d.me d.num x A E c cE _ d.l d.es W hd (Nat.le_refl _) hx ht).mono fun _ _ h => detPF_out hd (by simp [hear]) (el_hear hd.el) h
theorem rHeard (x : Int) (hd : DD W d A c E cE) (hx : In64 x) : Calls Tryd.prog 25 #[.agg #[.int .i64 d.me, .int .i64 d.num, .slice A d.l.length c, .slice E d.es.length cE], .int .i64 x] W (OutD W (d.hear x) A) :=
  (refHeard_any d.me d.num x A E c cE _ d.l d.es W hd (Nat.le_refl _) hx).mono fun _ _ h => detPost_out hd (by simp [hear]) (el_hear hd.el) h
theorem pTick (hd : DD W d A c E cE) (ht : H.Tab W) : Calls Tryd.prog 19 #[.agg #[.int .i64 d.me, .int .i64 d.num, .slice A d.l.length c, .slice E d.es.length cE]] W (OutFA W d.tick d.alr) :=
  (probeTick_any d.me d.num A E c cE _ d.l d.es W hd (Nat.le_refl _) ht).mono fun _ _ h => tickPF_out hd (by simp [tick]) (el_tick hd.el) h
theorem rTick (hd : DD W d A c E cE) : Calls Tryd.prog 20 #[.agg #[.int .i64 d.me, .int .i64 d.num, .slice A d.l.length c, .slice E d.es.length cE]] W (OutDA W d.tick d.alr A) :=
  (refTick_any d.me d.num A E c cE _ d.l d.es W hd (Nat.le_refl _)).mono fun _ _ h => tickPost_out hd (by simp [tick]) (el_tick hd.el) h
theorem pValid (hd : DD W d A c E cE) (ht : H.Tab W) : Calls Tryd.prog 22 #[.agg #[.int .i64 d.me, .int .i64 d.num, .slice A d.l.length c, .slice E d.es.length cE]] W (PB W d.ok) :=
  probeOkD_any d.me d.num A E c cE _ d.l d.es W hd (Nat.le_refl _) ht
theorem rValid (hd : DD W d A c E cE) : Calls Tryd.prog 23 #[.agg #[.int .i64 d.me, .int .i64 d.num, .slice A d.l.length c, .slice E d.es.length cE]] W (PB W d.ok) :=
  refOkD_any d.me d.num A E c cE _ d.l d.es W hd (Nat.le_refl _)
theorem sameD_self (me num : Int) (l : List Int) (es : List Edge) : sameD me num l es me num l es = true := by unfold sameD sameW; simp
theorem rSame {A' E' : Option Addr} {c' cE' : Nat} (hd : DD W d A c E cE) (hd' : DD W d A' c' E' cE') :
    Calls Tryd.prog 21 #[.agg #[.int .i64 d.me, .int .i64 d.num, .slice A d.l.length c, .slice E d.es.length cE], .agg #[.int .i64 d.me, .int .i64 d.num, .slice A' d.l.length c', .slice E' d.es.length cE']] W (PB W true) := by
  have := refSameD_any d.me d.num d.me d.num A E A' E' c cE c' cE' _ d.l d.l d.es d.es W hd hd' (Nat.le_refl _)
  rw [sameD_self] at this
  exact this
end
set_option maxRecDepth 1000000 in
set_option maxHeartbeats 1000000 in
theorem small_any {W : World} {d : Dt} {A E : Option Addr} {c cE : Nat} :
    Calls Tryd.prog 16 #[.agg #[.int .i64 d.me, .int .i64 d.num, .slice A d.l.length c, .slice E d.es.length cE]] W (PB W (decide ((d.l.length : Int) ≤ 60) && decide ((d.es.length : Int) ≤ 60))) := by
  generalize d.me = me
  generalize d.num = num
  generalize d.l.length = n
  generalize d.es.length = m
  by_cases h1 : (n : Int) ≤ 60
  · by_cases h2 : (m : Int) ≤ 60
    · have ht := Lib.hid (show (decide ((n : Int) ≤ 60) && decide ((m : Int) ≤ 60)) = true by simp [h1, h2])
      generalize (decide ((n : Int) ≤ 60) && decide ((m : Int) ≤ 60)) = r at *
      go_enter Tryd.func16, Tryd.ntmps16
      go_wp2_with fail
      go_ret
      exact ⟨retB' ht.out, (Below.refl _ _).alloc (Nat.le_refl _) _⟩
    · have ht := Lib.hid (show (decide ((n : Int) ≤ 60) && decide ((m : Int) ≤ 60)) = false by simp [h2])
      generalize (decide ((n : Int) ≤ 60) && decide ((m : Int) ≤ 60)) = r at *
      go_enter Tryd.func16, Tryd.ntmps16
      go_wp2_with fail
      go_ret
      exact ⟨retB' ht.out, (Below.refl _ _).alloc (Nat.le_refl _) _⟩
  · have ht := Lib.hid (show (decide ((n : Int) ≤ 60) && decide ((m : Int) ≤ 60)) = false by simp [h1])
    generalize (decide ((n : Int) ≤ 60) && decide ((m : Int) ≤ 60)) = r at *
    go_enter Tryd.func16, Tryd.ntmps16
    go_wp2_with fail
    go_ret
    exact ⟨retB' ht.out, (Below.refl _ _).alloc (Nat.le_refl _) _⟩
end Go.Proofs.YtihgbadglaogdaaDoor.Pb
