/- KAF of the stage: texts Q3, Ser1, joined. -/
import Derived.WalkSpells
import Derived.KernelRfl
import Derived.Test.YtffjdknmfmlfnaaKAD
import Derived.WalkKit
import Derived.Test.YtffjdknmfmlfnaaProg
set_option linter.unusedSimpArgs false
set_option linter.unusedVariables false
namespace Go.Proofs.Ytffjdknmfmlfnaa
section
open Go.RowKit Go.Maps

/-- An entry: its block, its chunk, its message's block, its state, how often it was sent, when last, how often it was missed. -/
structure En where
  p : Nat
  c : CZ
  m : Nat
  st : Int
  sn : Int
  la : Int
  ms : Int
def En.cells (e : En) : List Value := e.c.cells ++ [.pointer (some ⟨e.m, 0, none⟩), .int .i64 e.st, .int .i64 e.sn, .int .i64 e.la, .int .i64 e.ms]
/-- A message. -/
structure Mg where
  un : Int
  tr : Int
  gv : Bool
def En.ptr (e : En) : Value := .pointer (some ⟨e.p, 0, none⟩)
structure Gq where
  b : Nat
  s : SL
  O : Nat → Prop
  F : Nat → Prop
structure Qm where
  es : List En
  nx : Int
  mg : Nat → Mg
structure EnAt (w : World) (F : Nat → Prop) (e : En) : Prop where
  blk : w.heap[e.p]? = some (.cells e.cells.toArray 78 (0, 0))
  zv : ZV w e.c
  sm : Sm e.c
  inf : ∀ A ∈ e.c.ads, InF F A
def MgAt (w : World) (m : Nat) (g : Mg) : Prop := w.heap[m]? = some (.cells #[.int .i64 g.un, .int .i64 g.tr, .bool g.gv] 74 (0, 0))
structure QA (w : World) (G : Gq) (q : Qm) : Prop where
  blk : w.heap[G.b]? = some (.cells #[.slice G.s.1 G.s.2.1 G.s.2.2, .int .u32 q.nx] 56 (0, 0))
  ob : G.O G.b
  row : w.ownsRow 0 75 1 (.slice G.s.1 G.s.2.1 G.s.2.2) G.s.2.1 (q.es.map En.ptr)
  ov : ∀ g, (Value.slice G.s.1 G.s.2.1 G.s.2.2).ownBlock = some g → G.O g
  en : ∀ e ∈ q.es, EnAt w G.F e ∧ G.O e.p ∧ MgAt w e.m (q.mg e.m) ∧ G.O e.m
  nd : (q.es.map En.p).Nodup
  nx : 0 ≤ q.nx ∧ q.nx < 4294967296
  le : q.es.length ≤ 1024
  dis : ∀ i, G.O i → ¬ G.F i
  olt : ∀ i, G.O i → i < w.heap.size
  flt : ∀ i, G.F i → i < w.heap.size
theorem QA.n {w : World} {G : Gq} {q : Qm} (h : QA w G q) : G.s.2.1 = q.es.length := by
  have := h.row.1
  rw [List.length_map] at this
  omega
theorem QA.sr {w : World} {G : Gq} {q : Qm} (h : QA w G q) : G.s.2.1 ≤ G.s.2.2 ∧ SR w G.s.1 (q.es.map En.ptr) := by
  obtain ⟨A, c, e, _, hc, hs⟩ := own_shape h.row
  injection e with e1 _ e3
  subst e1
  exact ⟨by rw [e3]; exact hc, hs⟩
/-- What a call leaves as it was. -/
structure Ltr (w : World) (G : Gq) (w' : World) (G' : Gq) : Prop where
  b : G'.b = G.b
  part : Part G.O w w'
  o : ∀ i, G'.O i → G.O i ∨ w.heap.size ≤ i
  f : ∀ i, G'.F i → G.F i ∨ w.heap.size ≤ i
theorem Ltr.refl (w : World) (G : Gq) : Ltr w G w G := ⟨rfl, Part.refl _ _, fun _ h => .inl h, fun _ h => .inl h⟩
theorem Ltr.trans {a b c : World} {G H K : Gq} (h : Ltr a G b H) (g : Ltr b H c K) : Ltr a G c K :=
  ⟨g.b.trans h.b, h.part.trans g.part h.o, fun i hi => by
    rcases g.o i hi with h1 | h1
    · exact h.o i h1
    · exact .inr (Nat.le_trans h.part.size h1), fun i hi => by
    rcases g.f i hi with h1 | h1
    · exact h.f i h1
    · exact .inr (Nat.le_trans h.part.size h1)⟩
theorem Ltr.below {w w' : World} {G : Gq} (h : Below w.heap.size w w') : Ltr w G w' G := ⟨rfl, Part.of_below _ h, fun _ h => .inl h, fun _ h => .inl h⟩
/-! ### What stays -/
theorem EnAt.kept {ok : Nat → Prop} {F : Nat → Prop} {A B : World} {e : En} (h : EnAt A F e) (k : Kpt ok A B) (hp : ok e.p) (hF : ∀ i, F i → ok i) : EnAt B F e :=
  ⟨k.cells _ _ _ _ hp h.blk, h.zv.kept k fun p hp' a ea => hF _ (h.inf p hp' a ea), h.sm, h.inf⟩
theorem QA.kept {ok : Nat → Prop} {A B : World} {G : Gq} {q : Qm} (h : QA A G q) (k : Kpt ok A B) (hO : ∀ i, G.O i → ok i) (hF : ∀ i, G.F i → ok i) : QA B G q :=
  ⟨k.cells _ _ _ _ (hO _ h.ob) h.blk, h.ob, k.own h.row fun g e => hO _ (h.ov g e), h.ov, fun e he => by
    obtain ⟨h1, h2, h3, h4⟩ := h.en e he
    exact ⟨h1.kept k (hO _ h2) hF, h2, k.cells _ _ _ _ (hO _ h4) h3, h4⟩, h.nd, h.nx, h.le, h.dis, fun i hi => Nat.lt_of_lt_of_le (h.olt i hi) k.size, fun i hi => Nat.lt_of_lt_of_le (h.flt i hi) k.size⟩
theorem QA.step {A B : World} {G : Gq} {q : Qm} (h : QA A G q) (hb : Below A.heap.size A B) : QA B G q := h.kept (ok := fun _ => True) (Kpt.of_below hb) (fun _ _ => trivial) (fun _ _ => trivial)
theorem QA.st {A B : World} {N : Nat} {G : Gq} {q : Qm} (h : QA A G q) (hb : StN N A B) : QA B G q := h.kept (ok := fun _ => True) (Kpt.of_st hb) (fun _ _ => trivial) (fun _ _ => trivial)
theorem QA.apart {S : Nat → Prop} {A B : World} {G : Gq} {q : Qm} (h : QA A G q) (hp : Part S A B) (hO : ∀ i, G.O i → ¬ S i) (hF : ∀ i, G.F i → ¬ S i) : QA B G q := h.kept (ok := fun i => ¬ S i) (Kpt.of_part hp fun _ h => h) hO hF
/-! ### What is read -/
theorem EnAt.at_ {w : World} {F : Nat → Prop} {e : En} (h : EnAt w F e) (j : Nat) (v : Value) (hv : e.cells[j]? = some v) : w.cell? ⟨e.p, j, none⟩ = some v := by
  rw [cell_of_row _ _ _ _ _ _ h.blk]
  simpa using hv
theorem EnAt.z {w : World} {F : Nat → Prop} {e : En} (h : EnAt w F e) : Z12 w e.p 0 e.c := Z12.of fun i v hv => by
  rw [Nat.zero_add]
  refine h.at_ i v ?_
  have hi : i < e.c.cells.length := (List.getElem?_eq_some_iff.1 hv).1
  rw [En.cells, List.getElem?_append_left hi]
  exact hv
theorem EnAt.c12 {w : World} {F : Nat → Prop} {e : En} (h : EnAt w F e) :
    w.cell? ⟨e.p, 12, none⟩ = some (.pointer (some ⟨e.m, 0, none⟩)) ∧ w.cell? ⟨e.p, 13, none⟩ = some (.int .i64 e.st) ∧ w.cell? ⟨e.p, 14, none⟩ = some (.int .i64 e.sn) ∧ w.cell? ⟨e.p, 15, none⟩ = some (.int .i64 e.la) ∧ w.cell? ⟨e.p, 16, none⟩ = some (.int .i64 e.ms) :=
  ⟨h.at_ 12 _ rfl, h.at_ 13 _ rfl, h.at_ 14 _ rfl, h.at_ 15 _ rfl, h.at_ 16 _ rfl⟩
theorem EnAt.fz {w : World} {F : Nat → Prop} {e : En} (h : EnAt w F e) (j : Nat) : w.frozen? ⟨e.p, j, none⟩ = false := by simp [World.frozen?, h.blk]
theorem MgAt.at_ {w : World} {m : Nat} {g : Mg} (h : MgAt w m g) : w.cell? ⟨m, 0, none⟩ = some (.int .i64 g.un) ∧ w.cell? ⟨m, 1, none⟩ = some (.int .i64 g.tr) ∧ w.cell? ⟨m, 2, none⟩ = some (.bool g.gv) ∧ w.frozen? ⟨m, 2, none⟩ = false :=
  ⟨by rw [cell_of_row _ _ _ _ _ _ h]; rfl, by rw [cell_of_row _ _ _ _ _ _ h]; rfl, by rw [cell_of_row _ _ _ _ _ _ h]; rfl, by simp [World.frozen?, show w.heap[m]? = _ from h]⟩
theorem QA.b0 {w : World} {G : Gq} {q : Qm} (h : QA w G q) : w.cell? ⟨G.b, 0, none⟩ = some (.slice G.s.1 G.s.2.1 G.s.2.2) ∧ w.cell? ⟨G.b, 1, none⟩ = some (.int .u32 q.nx) ∧ w.frozen? ⟨G.b, 0, none⟩ = false ∧ w.frozen? ⟨G.b, 1, none⟩ = false :=
  ⟨by rw [cell_of_row _ _ _ _ _ _ h.blk]; rfl, by rw [cell_of_row _ _ _ _ _ _ h.blk]; rfl, by simp [World.frozen?, h.blk], by simp [World.frozen?, h.blk]⟩
/-- Where the pointers lie. -/
theorem QA.ptr {w : World} {G : Gq} {q : Qm} (h : QA w G q) {i : Nat} {e : En} (he : q.es[i]? = some e) : ∃ b o, G.s.1 = some ⟨b, o, none⟩ ∧ b < w.heap.size ∧ w.cell? ⟨b, o + i, none⟩ = some (.pointer (some ⟨e.p, 0, none⟩)) := by
  have hl : i < q.es.length := (List.getElem?_eq_some_iff.1 he).1
  obtain ⟨b, o, ea, hlt, hc⟩ := h.sr.2 (by intro h0; have := congrArg List.length h0; rw [List.length_map] at this; simp at this; rw [this] at hl; simp at hl)
  exact ⟨b, o, ea, hlt, hc i _ (by rw [List.getElem?_map, he]; rfl)⟩
theorem cells_cells {w : World} {k k' : Nat} {cs cs' : Array Value} {t t' : TypeId} {fr fr' : Nat × Nat} (hk : w.heap[k]? = some (.cells cs t fr)) (hk' : w.heap[k']? = some (.cells cs' t' fr')) (ht : t ≠ t') : k ≠ k' := by
  rintro rfl
  rw [hk'] at hk
  injection hk with hk
  injection hk with _ h2
  exact ht h2.symm
theorem own_cells {w : World} {base : Nat} {e : TypeId} {size : Nat} {v : Value} {n : Nat} {xs : List Value} (h : w.ownsRow base e size v n xs) {g : Nat} (hg : v.ownBlock = some g) : ∃ cur fr, w.heap[g]? = some (.cells cur e fr) := by
  rcases h.2 with ⟨rfl, _⟩ | ⟨g', cap, cur, rfl, _, hgg, _⟩
  · simp [Value.ownBlock] at hg
  · simp [Value.ownBlock] at hg
    subst hg
    exact ⟨cur, _, hgg⟩
theorem part_set (w : World) (g c : Nat) (u : Value) : Part (fun i => i = g) w (w.setCell ⟨g, c, none⟩ u) := (Part.refl (fun i => i = g) w).setCell (p := ⟨g, c, none⟩) (.inl rfl) u
theorem QA.notF {w : World} {G : Gq} {q : Qm} (h : QA w G q) {g : Nat} (hg : G.O g) : ∀ i, G.F i → ¬ i = g := fun i hi e => h.dis g hg (by rw [← e]; exact hi)
theorem nodup_set {l : List Nat} (h : l.Nodup) {i j : Nat} {x : Nat} (hi : l[i]? = some x) (hj : l[j]? = some x) : i = j := by
  have hli := (List.getElem?_eq_some_iff.1 hi).1
  have hlj := (List.getElem?_eq_some_iff.1 hj).1
  exact (List.getElem_inj (h₀ := hli) (h₁ := hlj) h).1 (by rw [(List.getElem?_eq_some_iff.1 hi).2, (List.getElem?_eq_some_iff.1 hj).2])
/-- A cell of an entry is written. -/
theorem QA.setE {w : World} {G : Gq} {q : Qm} (h : QA w G q) {i : Nat} {e e' : En} (he : q.es[i]? = some e) (j : Nat) (v : Value) (hp : e'.p = e.p) (hc : e'.c = e.c) (hm : e'.m = e.m) (hcs : e.cells.toArray.setIfInBounds j v = e'.cells.toArray) :
    QA (w.setCell ⟨e.p, j, none⟩ v) G { q with es := q.es.set i e' } ∧ Part (fun k => k = e.p) w (w.setCell ⟨e.p, j, none⟩ v) := by
  have hpt := part_set w e.p j v
  have hem : e ∈ q.es := List.mem_of_getElem? he
  obtain ⟨a1, a2, a3, a4⟩ := h.en e hem
  have hF := h.notF a2
  have hl : i < q.es.length := (List.getElem?_eq_some_iff.1 he).1
  have k := Kpt.of_part (ok := fun x => ¬ x = e.p) hpt fun _ h => h
  have hmap : (q.es.set i e').map En.p = q.es.map En.p := by
    rw [List.map_set, hp]
    apply List.ext_getElem?
    intro t
    rw [List.getElem?_set]
    by_cases ht : i = t
    · subst ht
      rw [if_pos rfl, if_pos (by simpa using hl), List.getElem?_map, he]
      rfl
    · rw [if_neg ht]
  have hmapv : (q.es.set i e').map En.ptr = q.es.map En.ptr := by
    have e1 : ∀ l : List En, l.map En.ptr = (l.map En.p).map fun p : Nat => Value.pointer (some ⟨p, 0, none⟩) := fun l => by rw [List.map_map]; rfl
    rw [e1, e1, hmap]
  refine ⟨⟨(hpt.block _ (h.olt _ h.ob) fun ee => cells_cells h.blk a1.blk (by decide) ee).trans h.blk, h.ob, ?_, h.ov, ?_, ?_, h.nx, by simpa using h.le, h.dis, fun x hx => Nat.lt_of_lt_of_le (h.olt x hx) hpt.size, fun x hx => Nat.lt_of_lt_of_le (h.flt x hx) hpt.size⟩, hpt⟩
  · show World.ownsRow _ 0 _ 1 _ _ ((q.es.set i e').map En.ptr)
    rw [hmapv]
    refine k.own h.row fun g hg ee => ?_
    obtain ⟨cur, fr, hcur⟩ := own_cells h.row hg
    exact cells_cells hcur a1.blk (by decide) ee
  · intro x hx
    have hx : x ∈ q.es.set i e' := hx
    obtain ⟨t, ht⟩ := List.getElem?_of_mem hx
    rw [List.getElem?_set] at ht
    by_cases hit : i = t
    · subst hit
      rw [if_pos rfl, if_pos hl] at ht
      injection ht with ht
      subst ht
      refine ⟨⟨?_, ?_, by rw [hc]; exact a1.sm, by rw [hc]; exact a1.inf⟩, by rw [hp]; exact a2, ?_, by rw [hm]; exact a4⟩
      · rw [hp, heap_setCell_same w e.p j _ _ _ a1.blk, hcs]
      · rw [hc]
        exact a1.zv.kept k fun A hA a ea => hF _ (a1.inf A hA a ea)
      · rw [hm]
        exact (hpt.block _ (h.olt _ a4) fun ee => cells_cells a3 a1.blk (by decide) ee).trans a3
    · rw [if_neg hit] at ht
      obtain ⟨b1, b2, b3, b4⟩ := h.en x (List.mem_of_getElem? ht)
      refine ⟨b1.kept k (fun ee => hit ?_) hF, b2, (hpt.block _ (h.olt _ b4) fun ee => cells_cells b3 a1.blk (by decide) ee).trans b3, b4⟩
      refine nodup_set h.nd (x := e.p) (by rw [List.getElem?_map, he]; rfl) ?_
      rw [List.getElem?_map, ht, ← ee]
      rfl
  · show ((q.es.set i e').map En.p).Nodup
    rw [hmap]
    exact h.nd
/-- A message is given up. -/
theorem QA.setG {w : World} {G : Gq} {q : Qm} (h : QA w G q) {e : En} (he : e ∈ q.es) (gv : Bool) :
    QA (w.setCell ⟨e.m, 2, none⟩ (.bool gv)) G { q with mg := fun x => if x = e.m then ⟨(q.mg e.m).un, (q.mg e.m).tr, gv⟩ else q.mg x } ∧ Part (fun k => k = e.m) w (w.setCell ⟨e.m, 2, none⟩ (.bool gv)) := by
  have hpt := part_set w e.m 2 (.bool gv)
  obtain ⟨a1, a2, a3, a4⟩ := h.en e he
  have hF := h.notF a4
  have k := Kpt.of_part (ok := fun x => ¬ x = e.m) hpt fun _ h => h
  refine ⟨⟨(hpt.block _ (h.olt _ h.ob) fun ee => cells_cells h.blk a3 (by decide) ee).trans h.blk, h.ob, ?_, h.ov, ?_, h.nd, h.nx, h.le, h.dis, fun x hx => Nat.lt_of_lt_of_le (h.olt x hx) hpt.size, fun x hx => Nat.lt_of_lt_of_le (h.flt x hx) hpt.size⟩, hpt⟩
  · refine k.own h.row fun g hg ee => ?_
    obtain ⟨cur, fr, hcur⟩ := own_cells h.row hg
    exact cells_cells hcur a3 (by decide) ee
  · intro x hx
    obtain ⟨b1, b2, b3, b4⟩ := h.en x hx
    refine ⟨b1.kept k (fun ee => cells_cells b1.blk a3 (by decide) ee) hF, b2, ?_, b4⟩
    show MgAt _ x.m (if x.m = e.m then _ else q.mg x.m)
    by_cases hxm : x.m = e.m
    · rw [if_pos hxm, hxm]
      unfold MgAt
      rw [heap_setCell_same w e.m 2 _ _ _ a3]
      rfl
    · rw [if_neg hxm]
      exact (hpt.block _ (h.olt _ b4) hxm).trans b3
/-- The next number. -/
theorem QA.setN {w : World} {G : Gq} {q : Qm} (h : QA w G q) {nx : Int} (hn : 0 ≤ nx ∧ nx < 4294967296) :
    QA (w.setCell ⟨G.b, 1, none⟩ (.int .u32 nx)) G { q with nx := nx } ∧ Part (fun k => k = G.b) w (w.setCell ⟨G.b, 1, none⟩ (.int .u32 nx)) := by
  have hpt := part_set w G.b 1 (.int .u32 nx)
  have hF := h.notF h.ob
  have k := Kpt.of_part (ok := fun x => ¬ x = G.b) hpt fun _ h => h
  refine ⟨⟨heap_setCell_same w G.b 1 _ _ _ h.blk, h.ob, ?_, h.ov, ?_, h.nd, hn, h.le, h.dis, fun x hx => Nat.lt_of_lt_of_le (h.olt x hx) hpt.size, fun x hx => Nat.lt_of_lt_of_le (h.flt x hx) hpt.size⟩, hpt⟩
  · refine k.own h.row fun g hg ee => ?_
    obtain ⟨cur, fr, hcur⟩ := own_cells h.row hg
    exact cells_cells hcur h.blk (by decide) ee
  · intro x hx
    obtain ⟨b1, b2, b3, b4⟩ := h.en x hx
    exact ⟨b1.kept k (fun ee => cells_cells b1.blk h.blk (by decide) ee) hF, b2, (hpt.block _ (h.olt _ b4) fun ee => cells_cells b3 h.blk (by decide) ee).trans b3, b4⟩
end
section
open Go.RowKit

/-- The steps from a up to b, going round at m. -/
def dist (m a b : Int) : Int := (b - a) % m
def lessI (m h a b : Int) : Bool := decide (0 < dist m a b ∧ dist m a b < h)
def less32 (a b : Int) : Bool := lessI 4294967296 2147483648 a b
def less16 (a b : Int) : Bool := lessI 65536 32768 a b
def dist32 (a b : Int) : Int := dist 4294967296 a b
def most32 (a b : Int) : Int := if less32 a b = true then b else a
def betw32 (a x b : Int) : Bool := decide (dist32 a x ≤ dist32 a b)

theorem dist32_lo (a b : Int) : 0 ≤ dist32 a b := by unfold dist32 dist; omega
theorem dist32_hi (a b : Int) : dist32 a b < 4294967296 := by unfold dist32 dist; omega

theorem dist16_lo (a b : Int) : 0 ≤ dist 65536 a b := by unfold dist; omega
theorem dist16_hi (a b : Int) : dist 65536 a b < 65536 := by unfold dist; omega
theorem wrap_u32 (a : Int) : IntKind.u32.wrap a = a % 4294967296 := by simp [IntKind.wrap, IntKind.signed, IntKind.bits]
theorem wrap_u16 (a : Int) : IntKind.u16.wrap a = a % 65536 := by simp [IntKind.wrap, IntKind.signed, IntKind.bits]

theorem less_hi {m h a b : Int} {p : Prop} [Decidable p] (h1 : 0 < dist m a b) (hp : p ↔ dist m a b < h) : decide p = lessI m h a b := by
  unfold lessI
  by_cases hh : dist m a b < h
  · rw [decide_eq_true (hp.2 hh), decide_eq_true ⟨h1, hh⟩]
  · rw [decide_eq_false (fun x => hh (hp.1 x)), decide_eq_false (fun x => hh x.2)]
theorem less_no {m h a b : Int} (h1 : ¬ 0 < dist m a b) : false = lessI m h a b := by
  unfold lessI
  rw [decide_eq_false (fun x => h1 x.1)]
theorem betw_of {a x b : Int} {p : Prop} [Decidable p] (hp : p ↔ dist32 a x ≤ dist32 a b) : decide p = betw32 a x b := by
  unfold betw32
  by_cases hh : dist32 a x ≤ dist32 a b
  · rw [decide_eq_true (hp.2 hh), decide_eq_true hh]
  · rw [decide_eq_false (fun x => hh (hp.1 x)), decide_eq_false hh]
theorem ret_bool {a b : Bool} (h : a = b) : Ending.returned (.bool a) = .returned (.bool b) := by rw [h]
theorem ret_int {k : IntKind} {a b : Int} (h : a = b) : Ending.returned (.int k a) = .returned (.int k b) := by rw [h]
theorem steps32_any (a b : Int) (w : World) :
    Calls Try.prog 79 #[.int .u32 a, .int .u32 b] w fun e w' => e = .returned (.int .u32 (dist32 a b)) ∧ w = w' := by
  go_enter Try.func79, Try.ntmps79
  go_wp2_with fail
  go_ret
  simp [dist32, dist]
theorem less32_any (a b : Int) (w : World) :
    Calls Try.prog 80 #[.int .u32 a, .int .u32 b] w fun e w' => e = .returned (.bool (less32 a b)) ∧ w = w' := by
  have l0 := dist32_lo a b
  have l1 := dist32_hi a b
  have hx : bits BinOp.xor IntKind.u32 IntKind.u32.max 0 = 4294967295 := by decide +kernel
  have hd : (4294967295 : Int).tdiv 2 = 2147483647 := by decide +kernel
  go_enter Try.func80, Try.ntmps80
  go_wp2_with (go_at_call 79; refine (steps32_any _ _ _).mono ?_; rintro e w' ⟨rfl, rfl⟩)
  · go_ret
    exact ⟨ret_bool (less_hi (by assumption) Iff.rfl), rfl⟩
  · go_ret
    exact ⟨ret_bool (less_no (by unfold dist32 at *; omega)), rfl⟩
theorem Less_any (a b : Int) (w : World) :
    Calls Try.prog 73 #[.int .u32 a, .int .u32 b] w fun e w' => e = .returned (.bool (less32 a b)) ∧ w = w' := by
  go_enter Try.func73, Try.ntmps73
  go_wp2_with (go_at_call 80; refine (less32_any _ _ _).mono ?_; rintro e w' ⟨rfl, rfl⟩)
  go_ret
  exact ⟨rfl, rfl⟩
theorem Dist_any (a b : Int) (w : World) :
    Calls Try.prog 71 #[.int .u32 a, .int .u32 b] w fun e w' => e = .returned (.int .u32 (dist32 a b)) ∧ w = w' := by
  go_enter Try.func71, Try.ntmps71
  go_wp2_with (go_at_call 79; refine (steps32_any _ _ _).mono ?_; rintro e w' ⟨rfl, rfl⟩)
  go_ret
  exact ⟨rfl, rfl⟩
theorem refsteps_any (a b m : Int) (a0 : 0 ≤ a) (b0 : 0 ≤ b) (a1 : a < m) (b1 : b < m) (m1 : m ≤ 4294967296) (w : World) :
    Calls Try.prog 81 #[.int .i64 a, .int .i64 b, .int .i64 m] w fun e w' => e = .returned (.int .i64 (dist m a b)) ∧ w = w' := by
  have h1 : Hid (a ≤ b → dist m a b = b - a) := fun h => by
    unfold dist
    exact Int.emod_eq_of_lt (by omega) (by omega)
  have h2 : Hid (b < a → dist m a b = b + m - a) := fun h => by
    unfold dist
    rw [show b - a = (b + m - a) - m by omega, Int.sub_emod_right]
    exact Int.emod_eq_of_lt (by omega) (by omega)
  by_cases h : a ≤ b
  · have h3 := h1.out h
    have H3 : Hid (dist m a b = b - a) := h3
    clear h1 h2 h3
    go_enter Try.func81, Try.ntmps81
    go_wp2
    go_ret
    exact ⟨ret_int (by rw [H3.out]), rfl⟩
  · have h3 := h2.out (by omega)
    have H3 : Hid (dist m a b = b + m - a) := h3
    clear h1 h2 h3
    go_enter Try.func81, Try.ntmps81
    go_wp2
    go_ret
    exact ⟨ret_int (by rw [H3.out]), rfl⟩
theorem refDist_any (a b : Int) (a0 : 0 ≤ a) (b0 : 0 ≤ b) (a1 : a < 4294967296) (b1 : b < 4294967296) (w : World) :
    Calls Try.prog 75 #[.int .u32 a, .int .u32 b] w fun e w' => e = .returned (.int .u32 (dist32 a b)) ∧ w = w' := by
  have l0 := dist32_lo a b
  have l1 := dist32_hi a b
  unfold dist32 at *
  go_enter Try.func75, Try.ntmps75
  go_wp2_with (go_at_call 81; refine (refsteps_any _ _ _ (by omega) (by omega) (by omega) (by omega) (by omega) _).mono ?_; rintro e w' ⟨rfl, rfl⟩)
  go_ret
  exact ⟨rfl, rfl⟩
end
end Go.Proofs.Ytffjdknmfmlfnaa
