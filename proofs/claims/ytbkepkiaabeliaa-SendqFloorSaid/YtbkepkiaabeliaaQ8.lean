/- A queue gone through by its states: what holds between two rounds; Timeout. -/
import Derived.Test.YtbkepkiaabeliaaQ7
namespace Go.Proofs.Ytbkepkiaabeliaa
open Go.RowKit Go.Maps
attribute [local go_sem] Oper.semAt_some
set_option linter.unusedVariables false

/-! ### Lists, turned place by place -/
def updL (f : Nat → En → En) (es : List En) (i : Nat) : List En := (es.take i).mapIdx f ++ es.drop i
theorem updL_get (f : Nat → En → En) (es : List En) (i j : Nat) : (updL f es i)[j]? = if j < i then (es[j]?).map (f j) else es[j]? := by
  unfold updL
  by_cases hj : j < i
  · rw [if_pos hj]
    by_cases hl : j < es.length
    · rw [List.getElem?_append_left (by simp; omega), List.getElem?_mapIdx, List.getElem?_take, if_pos hj]
    · rw [List.getElem?_eq_none (by simp; omega), List.getElem?_eq_none (by omega)]
      rfl
  · rw [if_neg hj]
    by_cases hl : i ≤ es.length
    · rw [List.getElem?_append_right (by simp; omega), List.getElem?_drop, List.length_mapIdx, List.length_take, Nat.min_eq_left hl]
      congr 1
      omega
    · rw [List.getElem?_eq_none (by simp; omega), List.getElem?_eq_none (by omega)]
theorem updL_zero (f : Nat → En → En) (es : List En) : updL f es 0 = es := by simp [updL]
theorem updL_all (f : Nat → En → En) (es : List En) : updL f es es.length = es.mapIdx f := by simp [updL]
theorem updL_next (f : Nat → En → En) (es : List En) (i : Nat) {e : En} (he : es[i]? = some e) : updL f es (i + 1) = (updL f es i).set i (f i e) := by
  apply List.ext_getElem?
  intro j
  have hl := (List.getElem?_eq_some_iff.1 he).1
  rw [updL_get, List.getElem?_set, updL_get]
  by_cases hij : i = j
  · subst hij
    rw [if_pos rfl, if_pos (Nat.lt_succ_self _), if_pos (by simp [updL]; omega), he]
    rfl
  · rw [if_neg hij]
    by_cases hj : j < i
    · rw [if_pos (by omega), if_pos hj]
    · rw [if_neg (by omega), if_neg hj]
theorem updL_same (f : Nat → En → En) (es : List En) (i : Nat) {e : En} (he : es[i]? = some e) (hf : f i e = e) : updL f es (i + 1) = updL f es i := by
  rw [updL_next f es i he, hf]
  apply List.ext_getElem?
  intro j
  rw [List.getElem?_set]
  by_cases hij : i = j
  · subst hij
    have hl := (List.getElem?_eq_some_iff.1 he).1
    rw [if_pos rfl, if_pos (by simp [updL]; omega), updL_get, if_neg (by omega), he]
  · rw [if_neg hij]
theorem updL_at (f : Nat → En → En) (es : List En) (i : Nat) : (updL f es i)[i]? = es[i]? := by rw [updL_get, if_neg (by omega)]
theorem updL_p (f : Nat → En → En) (hf : ∀ i e, (f i e).p = e.p) (es : List En) (i : Nat) : (updL f es i).map En.p = es.map En.p := by
  apply List.ext_getElem?
  intro j
  rw [List.getElem?_map, List.getElem?_map, updL_get]
  split
  · cases es[j]? with
    | none => rfl
    | some e => simp [hf]
  · rfl
theorem map_p_set {es : List En} {i : Nat} {e e' : En} (he : es[i]? = some e) (hp : e'.p = e.p) : (es.set i e').map En.p = es.map En.p := by
  apply List.ext_getElem?
  intro j
  rw [List.getElem?_map, List.getElem?_map, List.getElem?_set]
  by_cases hij : i = j
  · subst hij
    rw [if_pos rfl, if_pos (List.getElem?_eq_some_iff.1 he).1, he]
    simp [hp]
  · rw [if_neg hij]

/-! ### The blocks that a range over in lays -/
structure InB (S : Nat) (s : SL) (sts : List Int) (A : World) : Prop where
  sb : A.heap[S]? = some (.cells (sts.map (Value.int .i64)).toArray 3 (0, 0))
  db : A.heap[S + 1]? = some (.cells #[.slice s.1 s.2.1 s.2.2] 70 (0, 0))
  tb : A.heap[S + 2]? = some (.cells #[.slice (some ⟨S, 0, none⟩) sts.length sts.length] 58 (0, 0))
theorem InB.kept {S : Nat} {s : SL} {sts : List Int} {ok : Nat → Prop} {A B : World} (h : InB S s sts A) (k : Kpt ok A B) (h0 : ok S) (h1 : ok (S + 1)) (h2 : ok (S + 2)) : InB S s sts B := ⟨k.cells _ _ _ _ h0 h.sb, k.cells _ _ _ _ h1 h.db, k.cells _ _ _ _ h2 h.tb⟩
theorem InB.st {S : Nat} {s : SL} {sts : List Int} {A B : World} {M : Nat} (h : InB S s sts A) (k : StN M A B) : InB S s sts B := ⟨k.cells h.sb, k.cells h.db, k.cells h.tb⟩
theorem InB.start (A : World) (S : Nat) (hS : A.heap.size = S) (s : SL) (sts : List Int) : InB S s sts (((A.alloc (.cells (sts.map (Value.int .i64)).toArray 3)).alloc (.cells #[.slice s.1 s.2.1 s.2.2] 70)).alloc (.cells #[.slice (some ⟨S, 0, none⟩) sts.length sts.length] 58)) :=
  ⟨below_new (below_new (heap_new_at hS)), below_new (heap_new_at (by simp [hS])), heap_new_at (by simp [hS])⟩
theorem InB.own {S : Nat} {s : SL} {sts : List Int} {ps : List Nat} {A : World} (h : InB S s sts A) (hn : s.2.1 = ps.length) (hr : SR A s.1 (ps.map fun p => Value.pointer (some ⟨p, 0, none⟩))) (hs : ∀ p ∈ ps, ∃ x, A.cell? ⟨p, 13, none⟩ = some (.int .i64 x)) : InOwn (S + 1) (S + 2) s (some ⟨S, 0, none⟩, sts.length, sts.length) ps sts A :=
  ⟨by rw [cell_of_row _ _ _ _ _ _ h.db]; rfl, by rw [cell_of_row _ _ _ _ _ _ h.tb]; rfl, hn, rfl, hr, by simpa using SR.row h.sb, hs⟩
theorem below_in (A : World) (o1 o2 o3 : Obj) : Below A.heap.size A (((A.alloc o1).alloc o2).alloc o3) := up (up (below_lay A _) (below_lay _ _)) (below_lay _ _)
theorem ptr_map (es : List En) : es.map En.ptr = (es.map En.p).map fun p => Value.pointer (some ⟨p, 0, none⟩) := by rw [List.map_map]; rfl

/-- Between two rounds of a range over a queue's entries. -/
structure LQ (w : World) (G : Gq) (nx : Int) (S : Nat) (sts : List Int) (ps : List Nat) (es : List En) (mg : Nat → Mg) (A : World) : Prop where
  qa : QA A G ⟨es, nx, mg⟩
  pp : es.map En.p = ps
  ib : InB S G.s sts A
  pt : Part G.O w A
section
variable {w : World} {G : Gq} {nx : Int} {S : Nat} {sts : List Int} {ps : List Nat} {es : List En} {mg : Nat → Mg} {A B : World}
theorem Part.st {O : Nat → Prop} {N : Nat} (h : Part O w A) (k : StN N A B) (hN : w.heap.size ≤ N) : Part O w B :=
  ⟨k.os.trans h.os, k.tape.trans h.tape, k.output.trans h.output, Nat.le_trans h.size k.size, fun i hi hn => by
    have h1 := h.block i hi hn
    have h2 : i < A.heap.size := Nat.lt_of_lt_of_le hi h.size
    exact (k.blk i _ (Array.getElem?_eq_getElem h2) (.inr (by omega))).trans ((Array.getElem?_eq_getElem h2).symm.trans h1)⟩
theorem LQ.st (h : LQ w G nx S sts ps es mg A) {N : Nat} (k : StN N A B) (hN : w.heap.size ≤ N) : LQ w G nx S sts ps es mg B := ⟨h.qa.st k, h.pp, h.ib.st k, h.pt.st k hN⟩
theorem LQ.own (h : LQ w G nx S sts ps es mg A) : InOwn (S + 1) (S + 2) G.s (some ⟨S, 0, none⟩, sts.length, sts.length) ps sts A :=
  h.ib.own (by rw [h.qa.n, ← h.pp, List.length_map]) (by rw [← h.pp, ← ptr_map]; exact h.qa.sr.2) fun p hp => by
    rw [← h.pp] at hp
    obtain ⟨e, he, rfl⟩ := List.mem_map.1 hp
    exact ⟨_, (h.qa.en e he).1.c12.2.1⟩
theorem LQ.x (h : LQ w G nx S sts ps es mg A) {i : Nat} {e : En} (he : es[i]? = some e) : InX ps sts i A ↔ e.st ∈ sts := by
  have h1 : ps[i]? = some e.p := by rw [← h.pp, List.getElem?_map, he]; rfl
  have h2 := (h.qa.en e (List.mem_of_getElem? he)).1.c12.2.1
  constructor
  · rintro ⟨p, x, a, b, c⟩
    rw [h1] at a
    injection a with a
    subst a
    rw [h2] at b
    injection b with b
    injection b with _ b
    rw [b]
    exact c
  · exact fun hm => ⟨e.p, e.st, h1, h2, hm⟩
theorem LQ.get (h : LQ w G nx S sts ps es mg A) {i : Nat} (hi : i < ps.length) : ∃ e, es[i]? = some e ∧ ps.getD i 0 = e.p := by
  have hl : i < es.length := by rw [← h.pp, List.length_map] at hi; exact hi
  refine ⟨es[i], List.getElem?_eq_getElem hl, ?_⟩
  rw [List.getD_eq_getElem?_getD, ← h.pp, List.getElem?_map, List.getElem?_eq_getElem hl]
  rfl
theorem LQ.start (h : QA w G ⟨es, nx, mg⟩) (hb : Below w.heap.size w A) (hS : A.heap.size = S) (sts : List Int) : LQ w G nx S sts (es.map En.p) es mg (((A.alloc (.cells (sts.map (Value.int .i64)).toArray 3)).alloc (.cells #[.slice G.s.1 G.s.2.1 G.s.2.2] 70)).alloc (.cells #[.slice (some ⟨S, 0, none⟩) sts.length sts.length] 58)) := by
  have hb2 := up hb (below_in A (.cells (sts.map (Value.int .i64)).toArray 3) (.cells #[.slice G.s.1 G.s.2.1 G.s.2.2] 70) (.cells #[.slice (some ⟨S, 0, none⟩) sts.length sts.length] 58))
  exact ⟨h.step hb2, rfl, InB.start A S hS G.s sts, Part.of_below _ hb2⟩
/-- A cell of an entry is written. -/
theorem LQ.setE (h : LQ w G nx S sts ps es mg A) (hS : w.heap.size ≤ S) (hO : ∀ i, G.O i → i < w.heap.size) {i : Nat} {e e' : En} (he : es[i]? = some e) (j : Nat) (v : Value) (hp : e'.p = e.p) (hc : e'.c = e.c) (hm : e'.m = e.m) (hcs : e.cells.toArray.setIfInBounds j v = e'.cells.toArray) :
    LQ w G nx S sts ps (es.set i e') mg (A.setCell ⟨e.p, j, none⟩ v) := by
  obtain ⟨h1, h2⟩ := h.qa.setE he j v hp hc hm hcs
  have hOe := (h.qa.en e (List.mem_of_getElem? he)).2.1
  have hlt := hO _ hOe
  refine ⟨h1, by rw [map_p_set he hp]; exact h.pp, h.ib.kept (Kpt.of_part (ok := fun x => ¬ x = e.p) h2 fun _ h => h) (by omega) (by omega) (by omega), (h.pt.trans h2 fun x hx => .inl (by rw [hx]; exact hOe))⟩
/-- A message is given up. -/
theorem LQ.setG (h : LQ w G nx S sts ps es mg A) (hS : w.heap.size ≤ S) (hO : ∀ i, G.O i → i < w.heap.size) {e : En} (he : e ∈ es) (gv : Bool) :
    LQ w G nx S sts ps es (fun x => if x = e.m then ⟨(mg e.m).un, (mg e.m).tr, gv⟩ else mg x) (A.setCell ⟨e.m, 2, none⟩ (.bool gv)) := by
  obtain ⟨h1, h2⟩ := h.qa.setG he gv
  have hOe := (h.qa.en e he).2.2.2
  have hlt := hO _ hOe
  exact ⟨h1, h.pp, h.ib.kept (Kpt.of_part (ok := fun x => ¬ x = e.m) h2 fun _ h => h) (by omega) (by omega) (by omega), (h.pt.trans h2 fun x hx => .inl (by rw [hx]; exact hOe))⟩
/-- A box of the call's own is written. -/
theorem LQ.box (h : LQ w G nx S sts ps es mg A) (hO : ∀ i, G.O i → i < w.heap.size) (hF : ∀ i, G.F i → i < w.heap.size) {b : Nat} (hb : w.heap.size ≤ b) (hS : b < S ∨ S + 2 < b) (j : Nat) (v : Value) : LQ w G nx S sts ps es mg (A.setCell ⟨b, j, none⟩ v) := by
  have h2 := part_set A b j v
  exact ⟨h.qa.apart h2 (fun i hi e => by have := hO i hi; omega) (fun i hi e => by have := hF i hi; omega), h.pp, h.ib.kept (Kpt.of_part (ok := fun x => ¬ x = b) h2 fun _ h => h) (by omega) (by omega) (by omega), (h.pt.trans h2 fun x hx => .inr (by omega))⟩
theorem LQ.drew (h : LQ w G nx S sts ps es mg A) : LQ w G nx S sts ps es mg A.drew := h.st (StN.drew w.heap.size A) (Nat.le_refl _)
end
end Go.Proofs.Ytbkepkiaabeliaa
