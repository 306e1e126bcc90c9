/- KAD of the stage: texts Q8, Q9, App2, AppK, Q10, joined. -/
import Derived.Test.YtnlkdlnmffibhaaGreatKAC
import Derived.WalkSpells
import Derived.KernelRfl
import Derived.Test.YtnlkdlnmffibhaaGreatKAA
import Derived.Lib.LazyBuf
set_option linter.unusedSimpArgs false
set_option linter.unusedVariables false
set_option maxRecDepth 8000
namespace Go.Proofs.YtnlkdlnmffibhaaGreat
section
open Go.RowKit Go.Maps
attribute [local go_sem] Oper.semAt_some
def updL (f : Nat → En → En) (es : List En) (i : Nat) : List En := (es.take i).mapIdx f ++ es.drop i
theorem updL_get (f : Nat → En → En) (es : List En) (i j : Nat) : (updL f es i)[j]? = if j < i then (es[j]?).map (f j) else es[j]? := by
  unfold updL
  by_cases hj : j < i
  · rw [if_pos hj]
    by_cases hl : j < es.length
    · rw [List.getElem?_append_left (by simp; omega), List.getElem?_mapIdx, List.getElem?_take, if_pos hj]
    · rw [List.getElem?_eq_none (by simp; omega), List.getElem?_eq_none (by omega)]
      rfl
  · rw [if_neg hj]
    by_cases hl : i ≤ es.length
    · rw [List.getElem?_append_right (by simp; omega), List.getElem?_drop, List.length_mapIdx, List.length_take, Nat.min_eq_left hl]
      congr 1
      omega
    · rw [List.getElem?_eq_none (by simp; omega), List.getElem?_eq_none (by omega)]
theorem updL_zero (f : Nat → En → En) (es : List En) : updL f es 0 = es := by simp [updL]
theorem updL_all (f : Nat → En → En) (es : List En) : updL f es es.length = es.mapIdx f := by simp [updL]
theorem updL_next (f : Nat → En → En) (es : List En) (i : Nat) {e : En} (he : es[i]? = some e) : updL f es (i + 1) = (updL f es i).set i (f i e) := by
  apply List.ext_getElem?
  intro j
  have hl := (List.getElem?_eq_some_iff.1 he).1
  rw [updL_get, List.getElem?_set, updL_get]
  by_cases hij : i = j
  · subst hij
    rw [if_pos rfl, if_pos (Nat.lt_succ_self _), if_pos (by simp [updL]; omega), he]
    rfl
  · rw [if_neg hij]
    by_cases hj : j < i
    · rw [if_pos (by omega), if_pos hj]
    · rw [if_neg (by omega), if_neg hj]
theorem updL_same (f : Nat → En → En) (es : List En) (i : Nat) {e : En} (he : es[i]? = some e) (hf : f i e = e) : updL f es (i + 1) = updL f es i := by
  rw [updL_next f es i he, hf]
  apply List.ext_getElem?
  intro j
  rw [List.getElem?_set]
  by_cases hij : i = j
  · subst hij
    have hl := (List.getElem?_eq_some_iff.1 he).1
    rw [if_pos rfl, if_pos (by simp [updL]; omega), updL_get, if_neg (by omega), he]
  · rw [if_neg hij]
theorem updL_at (f : Nat → En → En) (es : List En) (i : Nat) : (updL f es i)[i]? = es[i]? := by rw [updL_get, if_neg (by omega)]
theorem map_p_set {es : List En} {i : Nat} {e e' : En} (he : es[i]? = some e) (hp : e'.p = e.p) : (es.set i e').map En.p = es.map En.p := by
  apply List.ext_getElem?
  intro j
  rw [List.getElem?_map, List.getElem?_map, List.getElem?_set]
  by_cases hij : i = j
  · subst hij
    rw [if_pos rfl, if_pos (List.getElem?_eq_some_iff.1 he).1, he]
    simp [hp]
  · rw [if_neg hij]
structure InB (S : Nat) (s : SL) (sts : List Int) (A : World) : Prop where
  sb : A.heap[S]? = some (.cells (sts.map (Value.int .i64)).toArray 3 (0, 0))
  db : A.heap[S + 1]? = some (.cells #[.slice s.1 s.2.1 s.2.2] 89 (0, 0))
  tb : A.heap[S + 2]? = some (.cells #[.slice (some ⟨S, 0, none⟩) sts.length sts.length] 23 (0, 0))
theorem InB.kept {S : Nat} {s : SL} {sts : List Int} {ok : Nat → Prop} {A B : World} (h : InB S s sts A) (k : Kpt ok A B) (h0 : ok S) (h1 : ok (S + 1)) (h2 : ok (S + 2)) : InB S s sts B := ⟨k.cells _ _ _ _ h0 h.sb, k.cells _ _ _ _ h1 h.db, k.cells _ _ _ _ h2 h.tb⟩
theorem InB.st {S : Nat} {s : SL} {sts : List Int} {A B : World} {M : Nat} (h : InB S s sts A) (k : StN M A B) : InB S s sts B := ⟨k.cells h.sb, k.cells h.db, k.cells h.tb⟩
theorem InB.start (A : World) (S : Nat) (hS : A.heap.size = S) (s : SL) (sts : List Int) : InB S s sts (((A.alloc (.cells (sts.map (Value.int .i64)).toArray 3)).alloc (.cells #[.slice s.1 s.2.1 s.2.2] 89)).alloc (.cells #[.slice (some ⟨S, 0, none⟩) sts.length sts.length] 23)) :=
  ⟨below_new (below_new (heap_new_at hS)), below_new (heap_new_at (by simp [hS])), heap_new_at (by simp [hS])⟩
theorem InB.own {S : Nat} {s : SL} {sts : List Int} {ps : List Nat} {A : World} (h : InB S s sts A) (hn : s.2.1 = ps.length) (hr : SR A s.1 (ps.map fun p => Value.pointer (some ⟨p, 0, none⟩))) (hs : ∀ p ∈ ps, ∃ x, A.cell? ⟨p, 13, none⟩ = some (.int .i64 x)) : InOwn (S + 1) (S + 2) s (some ⟨S, 0, none⟩, sts.length, sts.length) ps sts A :=
  ⟨by rw [cell_of_row _ _ _ _ _ _ h.db]; rfl, by rw [cell_of_row _ _ _ _ _ _ h.tb]; rfl, hn, rfl, hr, by simpa using SR.row h.sb, hs⟩
theorem below_in (A : World) (o1 o2 o3 : Obj) : Below A.heap.size A (((A.alloc o1).alloc o2).alloc o3) := up (up (below_lay A _) (below_lay _ _)) (below_lay _ _)
theorem ptr_map (es : List En) : es.map En.ptr = (es.map En.p).map fun p => Value.pointer (some ⟨p, 0, none⟩) := by rw [List.map_map]; rfl
structure LQ (w : World) (G : Gq) (nx : Int) (S : Nat) (sts : List Int) (ps : List Nat) (es : List En) (mg : Nat → Mg) (A : World) : Prop where
  qa : QA A G ⟨es, nx, mg⟩
  pp : es.map En.p = ps
  ib : InB S G.s sts A
  pt : Part G.O w A
section
variable {w : World} {G : Gq} {nx : Int} {S : Nat} {sts : List Int} {ps : List Nat} {es : List En} {mg : Nat → Mg} {A B : World}
theorem Part.st {O : Nat → Prop} {N : Nat} (h : Part O w A) (k : StN N A B) (hN : w.heap.size ≤ N) : Part O w B :=
  ⟨k.os.trans h.os, k.tape.trans h.tape, k.output.trans h.output, Nat.le_trans h.size k.size, fun i hi hn => by
    have h1 := h.block i hi hn
    have h2 : i < A.heap.size := Nat.lt_of_lt_of_le hi h.size
    exact (k.blk i _ (Array.getElem?_eq_getElem h2) (.inr (by omega))).trans ((Array.getElem?_eq_getElem h2).symm.trans h1)⟩
theorem LQ.st (h : LQ w G nx S sts ps es mg A) {N : Nat} (k : StN N A B) (hN : w.heap.size ≤ N) : LQ w G nx S sts ps es mg B := ⟨h.qa.st k, h.pp, h.ib.st k, h.pt.st k hN⟩
theorem LQ.own (h : LQ w G nx S sts ps es mg A) : InOwn (S + 1) (S + 2) G.s (some ⟨S, 0, none⟩, sts.length, sts.length) ps sts A :=
  h.ib.own (by rw [h.qa.n, ← h.pp, List.length_map]) (by rw [← h.pp, ← ptr_map]; exact h.qa.sr.2) fun p hp => by
    rw [← h.pp] at hp
    obtain ⟨e, he, rfl⟩ := List.mem_map.1 hp
    exact ⟨_, (h.qa.en e he).1.c12.2.1⟩
theorem LQ.x (h : LQ w G nx S sts ps es mg A) {i : Nat} {e : En} (he : es[i]? = some e) : InX ps sts i A ↔ e.st ∈ sts := by
  have h1 : ps[i]? = some e.p := by rw [← h.pp, List.getElem?_map, he]; rfl
  have h2 := (h.qa.en e (List.mem_of_getElem? he)).1.c12.2.1
  constructor
  · rintro ⟨p, x, a, b, c⟩
    rw [h1] at a
    injection a with a
    subst a
    rw [h2] at b
    injection b with b
    injection b with _ b
    rw [b]
    exact c
  · exact fun hm => ⟨e.p, e.st, h1, h2, hm⟩
theorem LQ.get (h : LQ w G nx S sts ps es mg A) {i : Nat} (hi : i < ps.length) : ∃ e, es[i]? = some e ∧ ps.getD i 0 = e.p := by
  have hl : i < es.length := by rw [← h.pp, List.length_map] at hi; exact hi
  refine ⟨es[i], List.getElem?_eq_getElem hl, ?_⟩
  rw [List.getD_eq_getElem?_getD, ← h.pp, List.getElem?_map, List.getElem?_eq_getElem hl]
  rfl
theorem LQ.start (h : QA w G ⟨es, nx, mg⟩) (hb : Below w.heap.size w A) (hS : A.heap.size = S) (sts : List Int) : LQ w G nx S sts (es.map En.p) es mg (((A.alloc (.cells (sts.map (Value.int .i64)).toArray 3)).alloc (.cells #[.slice G.s.1 G.s.2.1 G.s.2.2] 89)).alloc (.cells #[.slice (some ⟨S, 0, none⟩) sts.length sts.length] 23)) := by
  have hb2 := up hb (below_in A (.cells (sts.map (Value.int .i64)).toArray 3) (.cells #[.slice G.s.1 G.s.2.1 G.s.2.2] 89) (.cells #[.slice (some ⟨S, 0, none⟩) sts.length sts.length] 23))
  exact ⟨h.step hb2, rfl, InB.start A S hS G.s sts, Part.of_below _ hb2⟩
theorem LQ.setE (h : LQ w G nx S sts ps es mg A) (hS : w.heap.size ≤ S) (hO : ∀ i, G.O i → i < w.heap.size) {i : Nat} {e e' : En} (he : es[i]? = some e) (j : Nat) (v : Value) (hp : e'.p = e.p) (hc : e'.c = e.c) (hm : e'.m = e.m) (hcs : e.cells.toArray.setIfInBounds j v = e'.cells.toArray) :
    LQ w G nx S sts ps (es.set i e') mg (A.setCell ⟨e.p, j, none⟩ v) := by
  obtain ⟨h1, h2⟩ := h.qa.setE he j v hp hc hm hcs
  have hOe := (h.qa.en e (List.mem_of_getElem? he)).2.1
  have hlt := hO _ hOe
  refine ⟨h1, by rw [map_p_set he hp]; exact h.pp, h.ib.kept (Kpt.of_part (ok := fun x => ¬ x = e.p) h2 fun _ h => h) (by omega) (by omega) (by omega), (h.pt.trans h2 fun x hx => .inl (by rw [hx]; exact hOe))⟩
theorem LQ.setG (h : LQ w G nx S sts ps es mg A) (hS : w.heap.size ≤ S) (hO : ∀ i, G.O i → i < w.heap.size) {e : En} (he : e ∈ es) (gv : Bool) :
    LQ w G nx S sts ps es (fun x => if x = e.m then ⟨(mg e.m).un, (mg e.m).tr, gv⟩ else mg x) (A.setCell ⟨e.m, 2, none⟩ (.bool gv)) := by
  obtain ⟨h1, h2⟩ := h.qa.setG he gv
  have hOe := (h.qa.en e he).2.2.2
  have hlt := hO _ hOe
  exact ⟨h1, h.pp, h.ib.kept (Kpt.of_part (ok := fun x => ¬ x = e.m) h2 fun _ h => h) (by omega) (by omega) (by omega), (h.pt.trans h2 fun x hx => .inl (by rw [hx]; exact hOe))⟩
theorem LQ.box (h : LQ w G nx S sts ps es mg A) (hO : ∀ i, G.O i → i < w.heap.size) (hF : ∀ i, G.F i → i < w.heap.size) {b : Nat} (hb : w.heap.size ≤ b) (hS : b < S ∨ S + 2 < b) (j : Nat) (v : Value) : LQ w G nx S sts ps es mg (A.setCell ⟨b, j, none⟩ v) := by
  have h2 := part_set A b j v
  exact ⟨h.qa.apart h2 (fun i hi e => by have := hO i hi; omega) (fun i hi e => by have := hF i hi; omega), h.pp, h.ib.kept (Kpt.of_part (ok := fun x => ¬ x = b) h2 fun _ h => h) (by omega) (by omega) (by omega), (h.pt.trans h2 fun x hx => .inr (by omega))⟩
end
end
section
open Go.RowKit Go.Maps
attribute [local go_sem] Oper.semAt_some
theorem upd_cell {cs : Array Value} {t : TypeId} {w : World} {b : Nat} {fr : Nat × Nat} (h : w.heap[b]? = some (.cells cs t fr)) (j : Nat) (v : Value) (hv : cs[j]? = some v) : w.cell? ⟨b, j, none⟩ = some v := by rw [cell_of_row _ _ _ _ _ _ h]; exact hv
theorem upd_fz {cs : Array Value} {t : TypeId} {w : World} {b : Nat} (h : w.heap[b]? = some (.cells cs t (0, 0))) (j : Nat) : w.frozen? ⟨b, j, none⟩ = false := by simp [World.frozen?, h]
theorem set_other {w : World} {b c j : Nat} {v : Value} {o : Obj} (h : w.heap[b]? = some o) (hne : b ≠ c) : (w.setCell ⟨c, j, none⟩ v).heap[b]? = some o := (Below.heap_setCell w ⟨c, j, none⟩ v b hne).trans h
theorem updL_map (f : En → En) (es : List En) : updL (fun _ => f) es es.length = es.map f := by
  rw [updL_all]
  apply List.ext_getElem?
  intro j
  rw [List.getElem?_mapIdx, List.getElem?_map]
def cnt1 (es : List En) (i : Nat) : Nat := ((es.take i).filter fun e => decide (e.st = 1)).length
structure ES (w : World) (s : SL) (es : List En) : Prop where
  sn : s.2.1 = es.length
  rd : SR w s.1 (es.map En.ptr)
  en : ∀ e ∈ es, w.heap[e.p]? = some (.cells e.cells.toArray 96 (0, 0)) ∧ Sm e.c
theorem ES.step {w w' : World} {s : SL} {es : List En} (h : ES w s es) (hb : Below w.heap.size w w') : ES w' s es := ⟨h.sn, h.rd.step hb, fun e he => ⟨(hb.block _ (Array.getElem?_eq_some_iff.1 (h.en e he).1).1).trans (h.en e he).1, (h.en e he).2⟩⟩
theorem QA.es_ {w : World} {G : Gq} {q : Qm} (h : QA w G q) : ES w G.s q.es := ⟨h.n, h.sr.2, fun e he => ⟨(h.en e he).1.blk, (h.en e he).1.sm⟩⟩
theorem ES.at_ {w : World} {s : SL} {es : List En} (h : ES w s es) {e : En} (he : e ∈ es) (j : Nat) (v : Value) (hv : e.cells[j]? = some v) : w.cell? ⟨e.p, j, none⟩ = some v := by
  rw [cell_of_row _ _ _ _ _ _ (h.en e he).1]
  simpa using hv
theorem ES.own {w : World} {s : SL} {es : List En} (h : ES w s es) {S : Nat} {sts : List Int} (hi : InB S s sts w) : InOwn (S + 1) (S + 2) s (some ⟨S, 0, none⟩, sts.length, sts.length) (es.map En.p) sts w :=
  hi.own (by rw [h.sn, List.length_map]) (by rw [← ptr_map]; exact h.rd) fun p hp => by
    obtain ⟨e, he, rfl⟩ := List.mem_map.1 hp
    exact ⟨_, h.at_ he 13 _ rfl⟩
theorem ES.x {w : World} {s : SL} {es : List En} (h : ES w s es) {sts : List Int} {i : Nat} {e : En} (he : es[i]? = some e) : InX (es.map En.p) sts i w ↔ e.st ∈ sts := by
  have h1 : (es.map En.p)[i]? = some e.p := by rw [List.getElem?_map, he]; rfl
  have h2 := h.at_ (List.mem_of_getElem? he) 13 _ rfl
  constructor
  · rintro ⟨p, x, a, b, c⟩
    rw [h1] at a
    injection a with a
    subst a
    rw [h2] at b
    injection b with b
    injection b with _ b
    rw [b]
    exact c
  · exact fun hm => ⟨e.p, e.st, h1, h2, hm⟩
theorem ES.get (es : List En) {i : Nat} (hi : i < (es.map En.p).length) : ∃ e, es[i]? = some e ∧ (es.map En.p).getD i 0 = e.p := by
  have hl : i < es.length := by rw [List.length_map] at hi; exact hi
  refine ⟨es[i], List.getElem?_eq_getElem hl, ?_⟩
  rw [List.getD_eq_getElem?_getD, List.getElem?_map, List.getElem?_eq_getElem hl]
  rfl
def octF (es : List En) (sts : List Int) (i : Nat) : Option Nat := match es[i]? with | some e => if e.st ∈ sts then some e.c.da.2.1 else none | none => none
def octs (es : List En) (sts : List Int) : Nat := sumF (octF es sts) es.length
theorem octF_le {es : List En} {sts : List Int} (h : ∀ e ∈ es, Sm e.c) : ∀ i n, octF es sts i = some n → n ≤ 1000000 := by
  intro i n hn
  unfold octF at hn
  cases he : es[i]? with
  | none => rw [he] at hn; cases hn
  | some e =>
    rw [he] at hn
    dsimp only at hn
    split at hn
    · injection hn with hn
      subst hn
      exact (h e (List.mem_of_getElem? he)).da
    · cases hn
theorem sum_in {w : World} {s : SL} {es : List En} (h : ES w s es) {S : Nat} {sts : List Int} (hi : InB S s sts w) (hle : es.length ≤ 1024) (hsts : sts.length ≤ 1000) :
    Calls Tryz.prog 66 #[.func (.func 71) #[] #[.pointer (some ⟨S + 1, 0, none⟩), .pointer (some ⟨S + 1 + 1, 0, none⟩)], .func (.func 67) #[] #[]] w fun e w' => e = .returned (.int .i64 ((octs es sts : Nat) : Int)) ∧ Below w.heap.size w w' := by
  have hl : (es.map En.p).length = es.length := List.length_map _
  have hK : ∀ A, Below w.heap.size w A → Kpt (fun _ => True) w A := fun A hb => Kpt.of_below hb
  refine sum_any 71 _ (enters_of Tryz.func71 (by kernel_rfl) rfl) es.length (es.map En.p) (InX (es.map En.p) sts) (fun _ => InOwn (S + 1) (S + 2) s (some ⟨S, 0, none⟩, sts.length, sts.length) (es.map En.p) sts) (octF es sts) w
    (fun w1 => by have := in1_seq 4 (by omega) (S + 1) (S + 2) s (some ⟨S, 0, none⟩, sts.length, sts.length) (es.map En.p) sts (by rw [hl]; exact hle) hsts (fun _ _ => True) w1; rw [hl] at this; exact this)
    (fun i A B M st hx => by
      obtain ⟨p, y, h1, h2, h3⟩ := hx
      exact ⟨p, y, h1, st.cell h2, h3⟩)
    (fun i A hlt hb => ?_) (fun i A hb => (h.step hb).own (hi.kept (hK A hb) trivial trivial trivial)) (fun i A n hlt hb hn => ?_) (octF_le fun e he => (h.en e he).2) hle
  · rw [(h.step hb).x (List.getElem?_eq_getElem hlt)]
    unfold octF
    rw [List.getElem?_eq_getElem hlt]
    dsimp only
    split <;> simp_all
  · obtain ⟨e, he, hge⟩ := ES.get es (i := i) (by rw [hl]; exact hlt)
    rw [hge]
    unfold octF at hn
    rw [he] at hn
    dsimp only at hn
    split at hn
    · injection hn with hn
      subst hn
      exact ⟨_, _, (h.step hb).at_ (List.mem_of_getElem? he) 11 _ rfl⟩
    · cases hn
theorem Flying_any {w : World} {G : Gq} {q : Qm} (h : QA w G q) :
    Calls Tryz.prog 46 #[.pointer (some ⟨G.b, 0, none⟩)] w fun e w' => e = .returned (.int .i64 ((octs q.es [1] : Nat) : Int)) ∧ Below w.heap.size w w' := by
  have HL := keep (list_at G.b _ _ _ w h.b0.1)
  have HE := keep h.es_
  have hle := keep h.le
  clear h
  go_enter Tryz.func46, Tryz.ntmps46
  go_wp2_with (first
    | (go_at_call 37; refine HL.out.mono ?_; rintro e w' ⟨rfl, rfl⟩)
    | (go_at_call 36; refine (in_any _ _ _ _ _ _ _).mono ?_; rintro e w' ⟨rfl, rfl⟩
       have KI := InB.start w w.heap.size rfl G.s [1]
       have KB := below_in w (.cells ([1].map (Value.int .i64)).toArray 3) (.cells #[.slice G.s.1 G.s.2.1 G.s.2.2] 89) (.cells #[.slice (some ⟨w.heap.size, 0, none⟩) 1 1] 23)
       have KS := keep (And.intro (sum_in (HE.out.step KB) KI hle.out (by decide)) KB)
       clear KI KB
       try simp only [World.size_alloc])
    | (go_at_call 66; refine KS.out.1.mono ?_; rintro e w' ⟨rfl, hb2⟩; replace hb2 := keep hb2))
  go_ret
  exact ⟨rfl, up KS.out.2 hb2.out⟩
theorem Left_any {w : World} {G : Gq} {q : Qm} (h : QA w G q) :
    Calls Tryz.prog 34 #[.pointer (some ⟨G.b, 0, none⟩)] w fun e w' => e = .returned (.int .i64 ((octs q.es [2, 0] : Nat) : Int)) ∧ Below w.heap.size w w' := by
  have HL := keep (list_at G.b _ _ _ w h.b0.1)
  have HE := keep h.es_
  have hle := keep h.le
  clear h
  go_enter Tryz.func34, Tryz.ntmps34
  go_wp2_with (first
    | (go_at_call 37; refine HL.out.mono ?_; rintro e w' ⟨rfl, rfl⟩)
    | (go_at_call 36; refine (in_any _ _ _ _ _ _ _).mono ?_; rintro e w' ⟨rfl, rfl⟩
       have KI := InB.start w w.heap.size rfl G.s [2, 0]
       have KB := below_in w (.cells ([2, 0].map (Value.int .i64)).toArray 3) (.cells #[.slice G.s.1 G.s.2.1 G.s.2.2] 89) (.cells #[.slice (some ⟨w.heap.size, 0, none⟩) 2 2] 23)
       have KS := keep (And.intro (sum_in (HE.out.step KB) KI hle.out (by decide)) KB)
       clear KI KB
       try simp only [World.size_alloc])
    | (go_at_call 66; refine KS.out.1.mono ?_; rintro e w' ⟨rfl, hb2⟩; replace hb2 := keep hb2))
  go_ret
  exact ⟨rfl, up KS.out.2 hb2.out⟩
end
section
open Go.RowKit
theorem SR.of_own2' {w : World} {base : Nat} {e : TypeId} {size n c : Nat} {A : Option Addr} {xs : List Value} (h : w.ownsRow base e size (.slice A n c) n xs) : SR w A xs := fun hx => by
  rcases h.2 with ⟨_, h0⟩ | ⟨g, cap, cur, hv, _, hg, _, _, _, ht⟩
  · have := h.1
    rw [h0] at this
    exact absurd (List.eq_nil_of_length_eq_zero (by simpa using this)) hx
  · injection hv with hA
    subst hA
    have := (SR.row hg).take (n * size)
    rw [ht] at this
    exact this hx
theorem own_shape2' {w : World} {base : Nat} {e : TypeId} {size n : Nat} {v : Value} {xs : List Value} (h : w.ownsRow base e size v n xs) : ∃ A c, v = .slice A n c ∧ n ≤ c ∧ SR w A xs := by
  rcases h.2 with ⟨rfl, h0⟩ | ⟨g, cap, cur, rfl, _, _, hnc, _⟩
  · subst h0
    have : xs = [] := List.eq_nil_of_length_eq_zero (by simpa using h.1)
    subst this
    exact ⟨none, 0, rfl, Nat.le_refl _, SR.nil _ _⟩
  · exact ⟨_, cap, rfl, hnc, SR.of_own2' h⟩
section
variable {P : Program} {w : World} {ops : Array Oper} {rest : List Oper} {o : Oper} {a : Act} {Q : Exit → Act → World → Prop}
theorem run_append_bare2 (base : Nat) (t ty e : TypeId) (i : TypeInfo) (size : Nat) (ht : P.underlying t = some (.slice e)) (hi : P.info? e = some i) (v : Value) (n : Nat) (xs : List Value) (hown : w.ownsRow base e size v n xs) (c : Nat) :
    (Builtin.append_ #[t, t] ty #[v, .slice none 0 c]).run P w = .ok v w := by
  rcases hown.2 with ⟨rfl, rfl⟩ | ⟨g, cap, cur, rfl, _, _, hnc, _⟩
  · simp [Builtin.append_, run_underlying ht, sizeOf, typeInfo, hi, Builtin.lenOf, Builtin.firstCells]
  · simp [Builtin.append_, run_underlying ht, sizeOf, typeInfo, hi, Builtin.lenOf, Builtin.firstCells, storeCells, hnc]
end
end
section
open Go.RowKit
section
variable {P : Program} {w : World} {ops : Array Oper} {rest : List Oper} {o : Oper} {a : Act} {Q : Exit → Act → World → Prop}
theorem run_append_toK {S : Nat} (hS : 0 < S) (base : Nat) (t ty e : TypeId) (i : TypeInfo) (z : Value) (ht : P.underlying t = some (.slice e)) (hi : P.info? e = some i) (hz : i.zero = some z) (hsize : i.size = S) (hz1 : z.cells.size = S)
    (v : Value) (n : Nat) (xs : List Value) (hown : w.ownsRow base e S v n xs) (B : Option Addr) (m c : Nat) (news : List Value) (hm : m * S = news.length) (hr : SR w B news) (h1 : ∀ u ∈ news, u.oneCell' = true)
    (h63 : n + m ≤ maxLen) (hbytes : (n + m) * i.bytes ≤ 140737488355328) (hbase : base ≤ w.heap.size) :
    ∃ v' w', (Builtin.append_ #[t, t] ty #[v, .slice B m c]).run P w = .ok v' w' ∧ w'.ownsRow base e S v' (n + m) (xs ++ news) ∧ w.grownBy w' v.ownBlock := by
  have fin : ∀ (b : Addr), (∀ j u, news[j]? = some u → w.cell? (b.add j) = some u) → ∃ v' w', (Builtin.append_ #[t, t] ty #[v, .slice (some b) m c]).run P w = .ok v' w' ∧ w'.ownsRow base e S v' (n + m) (xs ++ news) ∧ w.grownBy w' v.ownBlock := by
    intro b hb
    obtain ⟨v', w', hrun, h2, h3, _⟩ := run_append_own (P := P) w base t ty e i z S i.bytes ht hi hz hsize rfl hz1 hS v n xs hown b m c news (by omega) hb h1 h63 hbytes hbase
    exact ⟨v', w', hrun, h2, h3⟩
  rcases news with _ | ⟨x, l⟩
  · obtain rfl : m = 0 := (Nat.mul_eq_zero.1 (show m * S = 0 from hm)).resolve_right (by omega)
    rcases B with _ | b
    · exact ⟨v, w, run_append_bare2 base t ty e i S ht hi v n xs hown c, by simpa using hown, ⟨rfl, rfl, rfl, Nat.le_refl _, fun _ _ _ => rfl⟩⟩
    · exact fin b (fun j u hj => by simp at hj)
  · obtain ⟨b, o, rfl, _, hc⟩ := hr (by simp)
    exact fin _ (fun j u hj => by rw [Addr.add_lit]; exact hc j u hj)
theorem wpl_appendK {S : Nat} (hS : 0 < S) (hg : Region.wanted o (yielded ops a.tmps) = true) (s x : Operand) (t : TypeId) (ho : o.op = .call { callee := .builtin .append, args := #[s, x], argTypes := #[t, t] })
    (base : Nat) (e : TypeId) (i : TypeInfo) (z : Value) (ht : P.underlying t = some (.slice e)) (hi : P.info? e = some i) (hz : i.zero = some z) (hsize : i.size = S) (hz1 : z.cells.size = S)
    (v : Value) (n : Nat) (xs : List Value) (hs : a.eval s = v) (hown : w.ownsRow base e S v n xs) (B : Option Addr) (m c : Nat) (news : List Value) (hx : a.eval x = .slice B m c) (hm : m * S = news.length) (hr : SR w B news) (h1 : ∀ u ∈ news, u.oneCell' = true)
    (h63 : n + m ≤ maxLen) (hbytes : (n + m) * i.bytes ≤ 140737488355328) (hbase : base ≤ w.heap.size)
    (h : ∀ A' c' w', Hid (w'.ownsRow base e S (.slice A' (n + m) c') (n + m) (xs ++ news)) → Below base w w' → Hid (w.grownBy w' v.ownBlock) → wpList P ops Q rest (a.put o.dst (.slice A' (n + m) c')) w') : wpList P ops Q (o :: rest) a w := by
  refine wpl_wanted hg fun K hK => ?_
  obtain ⟨v', w', hrun, h2, h3⟩ := run_append_toK (P := P) hS base t o.type e i z ht hi hz hsize hz1 v n xs hown B m c news hm hr h1 h63 hbytes hbase
  obtain ⟨A', c', rfl, _⟩ := own_shape2' h2
  unfold Oper.wp execOp
  simp only [ho, resolve, invoke, builtin, Sem.run_bind, Sem.run_pure, Result.andThen_ok, List.map_toArray, List.map_cons, List.map_nil, hs, hx, hrun]
  exact hK _ _ (h A' c' w' (show _ from h2) ((Below.refl base w).grown h3 hbase fun k hk => (hown.lt k hk).1) (show _ from h3))
theorem step_appendK {S : Nat} {K : Act → World → Prop} {E : Prop} (hS : 0 < S) (hgd : o.guard = none) (s x : Operand) (t : TypeId) (ho : o.op = .call { callee := .builtin .append, args := #[s, x], argTypes := #[t, t] })
    (base : Nat) (e : TypeId) (i : TypeInfo) (z : Value) (ht : P.underlying t = some (.slice e)) (hi : P.info? e = some i) (hz : i.zero = some z) (hsize : i.size = S) (hz1 : z.cells.size = S)
    (v : Value) (n : Nat) (xs : List Value) (hs : a.eval s = v) (hown : w.ownsRow base e S v n xs) (B : Option Addr) (m c : Nat) (news : List Value) (hx : a.eval x = .slice B m c) (hm : m * S = news.length) (hr : SR w B news) (h1 : ∀ u ∈ news, u.oneCell' = true)
    (h63 : n + m ≤ maxLen) (hbytes : (n + m) * i.bytes ≤ 140737488355328) (hbase : base ≤ w.heap.size)
    (h : ∀ A' c' w', Hid (w'.ownsRow base e S (.slice A' (n + m) c') (n + m) (xs ++ news)) → Below base w w' → K (a.put o.dst (.slice A' (n + m) c')) w') : if Region.wanted o (yielded ops a.tmps) = true then Oper.wp P o a w K Q else E := by
  have hw : Region.wanted o (yielded ops a.tmps) = true := by simp [Region.wanted, hgd]
  rw [if_pos hw]
  obtain ⟨v', w', hrun, h2, h3⟩ := run_append_toK (P := P) hS base t o.type e i z ht hi hz hsize hz1 v n xs hown B m c news hm hr h1 h63 hbytes hbase
  obtain ⟨A', c', rfl, _⟩ := own_shape2' h2
  unfold Oper.wp execOp
  simp only [ho, resolve, invoke, builtin, Sem.run_bind, Sem.run_pure, Result.andThen_ok, List.map_toArray, List.map_cons, List.map_nil, hs, hx, hrun]
  exact h A' c' w' (show _ from h2) ((Below.refl base w).grown h3 hbase fun k hk => (hown.lt k hk).1)
end
end
section
open Go.RowKit Go.Maps
def CpK {α : Type} (f : α → List Value) (K : Nat) (T : TypeId) (w : World) (l : List α) (e : Ending) (w' : World) : Prop :=
  ∃ A c, e = .returned (.slice A l.length c) ∧ Below w.heap.size w w' ∧ w'.ownsRow w.heap.size T K (.slice A l.length c) l.length (flatF f l)
theorem lr_none {α : Type} {f : α → List Value} {K : Nat} (hf : ∀ x, (f x).length = K) (hK : 0 < K) {w : World} {n c : Nat} {l : List α} (h : LR f w (none, n, c) l) : l = [] := by
  cases l with
  | nil => rfl
  | cons x r =>
    obtain ⟨b, o, e, _⟩ := h.2.2 (by
      intro h0
      have := congrArg List.length h0
      rw [flatF_len hf] at this
      have hp : 0 < (x :: r).length * K := Nat.mul_pos (Nat.succ_pos _) hK
      simp only [List.length_nil] at this
      omega)
    cases e
theorem own_zero (w : World) (base : Nat) (e : TypeId) (size : Nat) : w.ownsRow base e size (.slice none 0 0) 0 [] := World.ownsRow_nil _ _ _ _
theorem cBlock_info : (Tryz.prog.info? 143).map (fun i => (i.zero, i.size, i.bytes)) = some (some (.agg #[.int .u16 0, .int .u16 0]), 2, 4) := by kernel_rfl
set_option maxHeartbeats 1000000 in
theorem cBlock_any (A : Option Addr) (n c : Nat) (l : List (Int × Int)) (w : World) (h : LR blC w (A, n, c) l) (hn : n ≤ 1000000) :
    Calls Tryz.prog 103 #[.slice A n c] w (CpK blC 2 143 w l) := by
  obtain ⟨i0, hi0, hz0, hz1, hz2⟩ := info_parts cBlock_info
  have qn : ∀ (w : World), (binOp .eql 36 (.slice A n c) (.slice none 0 0)).run Tryz.prog w = .ok (.bool A.isNone) w := fun w => Lib.run_eql_slice_nil w _ _ _ n c 0 0 Tryz.underlying36
  obtain rfl : n = l.length := h.1
  cases A with
  | none =>
    obtain rfl := lr_none blC_len (by decide) h
    clear h hn
    have qn' : ∀ (w : World), (binOp .eql 36 (.slice none 0 c) (.slice none 0 0)).run Tryz.prog w = .ok (.bool true) w := qn
    clear qn
    go_enter Tryz.func103, Tryz.ntmps103
    go_wp2
    go_ret
    exact ⟨none, 0, rfl, Below.refl _ _, own_zero _ _ _ _⟩
  | some a =>
    have qn' : ∀ (w : World), (binOp .eql 36 (.slice (some a) l.length c) (.slice none 0 0)).run Tryz.prog w = .ok (.bool false) w := qn
    clear qn
    have HL := keep (h.2.2.step (below_lay w (.cells #[] 143)))
    have LW := keep (below_lay w (.cells #[] 143))
    have HN := keep hn
    have HO := keep (show (w.alloc (.cells #[] 143)).ownsRow w.heap.size 143 2 (.slice (some ⟨w.heap.size, 0, none⟩) 0 0) 0 [] from ⟨by simp, .inr ⟨w.heap.size, 0, #[], rfl, Nat.le_refl _, heap_alloc_new w _, Nat.le_refl _, Nat.zero_le _, by simp, by simp⟩⟩)
    have HFL := keep (show l.length * 2 = (flatF blC l).length from (flatF_len blC_len l).symm)
    clear h hn
    go_enter Tryz.func103, Tryz.ntmps103
    go_wp2_with (at_builtin; refine wpl_appendK (S := 2) (by decide) rfl (.tmp 5) (.tmp 6) 36 rfl w.heap.size 143 i0 (.agg #[.int .u16 0, .int .u16 0]) Tryz.underlying36 hi0 hz0 hz1 rfl _ 0 [] rfl HO.out (some a) l.length c (flatF blC l) rfl HFL.out HL.out (flatF_one blC_one _) (by have := HN.out; unfold maxLen; omega) (by have := HN.out; rw [hz2]; omega) (by simp) ?_
                 intro A4 c4 w4 ho4 hb4 _
                 simp only [Nat.zero_add, List.nil_append] at ho4
                 replace hb4 := keep (LW.out.trans hb4))
    go_ret
    exact ⟨A4, c4, rfl, hb4.out, ho4.out⟩
theorem cU32_info : (Tryz.prog.info? 22).map (fun i => (i.zero, i.size, i.bytes)) = some (some (.int .u32 0), 1, 4) := by kernel_rfl
set_option maxHeartbeats 1000000 in
theorem cU32_any (A : Option Addr) (n c : Nat) (l : List Int) (w : World) (h : LR duC w (A, n, c) l) (hn : n ≤ 1000000) :
    Calls Tryz.prog 104 #[.slice A n c] w (CpK duC 1 22 w l) := by
  obtain ⟨i0, hi0, hz0, hz1, hz2⟩ := info_parts cU32_info
  have qn : ∀ (w : World), (binOp .eql 37 (.slice A n c) (.slice none 0 0)).run Tryz.prog w = .ok (.bool A.isNone) w := fun w => Lib.run_eql_slice_nil w _ _ _ n c 0 0 Tryz.underlying37
  obtain rfl : n = l.length := h.1
  cases A with
  | none =>
    obtain rfl := lr_none duC_len (by decide) h
    clear h hn
    have qn' : ∀ (w : World), (binOp .eql 37 (.slice none 0 c) (.slice none 0 0)).run Tryz.prog w = .ok (.bool true) w := qn
    clear qn
    go_enter Tryz.func104, Tryz.ntmps104
    go_wp2
    go_ret
    exact ⟨none, 0, rfl, Below.refl _ _, own_zero _ _ _ _⟩
  | some a =>
    have qn' : ∀ (w : World), (binOp .eql 37 (.slice (some a) l.length c) (.slice none 0 0)).run Tryz.prog w = .ok (.bool false) w := qn
    clear qn
    have HL := keep (h.2.2.step (below_lay w (.cells #[] 22)))
    have LW := keep (below_lay w (.cells #[] 22))
    have HN := keep hn
    have HO := keep (show (w.alloc (.cells #[] 22)).ownsRow w.heap.size 22 1 (.slice (some ⟨w.heap.size, 0, none⟩) 0 0) 0 [] from ⟨by simp, .inr ⟨w.heap.size, 0, #[], rfl, Nat.le_refl _, heap_alloc_new w _, Nat.le_refl _, Nat.zero_le _, by simp, by simp⟩⟩)
    have HFL := keep (show l.length * 1 = (flatF duC l).length from (flatF_len duC_len l).symm)
    clear h hn
    go_enter Tryz.func104, Tryz.ntmps104
    go_wp2_with (at_builtin; refine wpl_appendK (S := 1) (by decide) rfl (.tmp 5) (.tmp 6) 37 rfl w.heap.size 22 i0 (.int .u32 0) Tryz.underlying37 hi0 hz0 hz1 rfl _ 0 [] rfl HO.out (some a) l.length c (flatF duC l) rfl HFL.out HL.out (flatF_one duC_one _) (by have := HN.out; unfold maxLen; omega) (by have := HN.out; rw [hz2]; omega) (by simp) ?_
                 intro A4 c4 w4 ho4 hb4 _
                 simp only [Nat.zero_add, List.nil_append] at ho4
                 replace hb4 := keep (LW.out.trans hb4))
    go_ret
    exact ⟨A4, c4, rfl, hb4.out, ho4.out⟩
theorem cSkip_info : (Tryz.prog.info? 167).map (fun i => (i.zero, i.size, i.bytes)) = some (some (.agg #[.int .u16 0, .int .u16 0]), 2, 4) := by kernel_rfl
set_option maxHeartbeats 1000000 in
theorem cSkip_any (A : Option Addr) (n c : Nat) (l : List (Int × Int)) (w : World) (h : LR blC w (A, n, c) l) (hn : n ≤ 1000000) :
    Calls Tryz.prog 105 #[.slice A n c] w (CpK blC 2 167 w l) := by
  obtain ⟨i0, hi0, hz0, hz1, hz2⟩ := info_parts cSkip_info
  have qn : ∀ (w : World), (binOp .eql 38 (.slice A n c) (.slice none 0 0)).run Tryz.prog w = .ok (.bool A.isNone) w := fun w => Lib.run_eql_slice_nil w _ _ _ n c 0 0 Tryz.underlying38
  obtain rfl : n = l.length := h.1
  cases A with
  | none =>
    obtain rfl := lr_none blC_len (by decide) h
    clear h hn
    have qn' : ∀ (w : World), (binOp .eql 38 (.slice none 0 c) (.slice none 0 0)).run Tryz.prog w = .ok (.bool true) w := qn
    clear qn
    go_enter Tryz.func105, Tryz.ntmps105
    go_wp2
    go_ret
    exact ⟨none, 0, rfl, Below.refl _ _, own_zero _ _ _ _⟩
  | some a =>
    have qn' : ∀ (w : World), (binOp .eql 38 (.slice (some a) l.length c) (.slice none 0 0)).run Tryz.prog w = .ok (.bool false) w := qn
    clear qn
    have HL := keep (h.2.2.step (below_lay w (.cells #[] 167)))
    have LW := keep (below_lay w (.cells #[] 167))
    have HN := keep hn
    have HO := keep (show (w.alloc (.cells #[] 167)).ownsRow w.heap.size 167 2 (.slice (some ⟨w.heap.size, 0, none⟩) 0 0) 0 [] from ⟨by simp, .inr ⟨w.heap.size, 0, #[], rfl, Nat.le_refl _, heap_alloc_new w _, Nat.le_refl _, Nat.zero_le _, by simp, by simp⟩⟩)
    have HFL := keep (show l.length * 2 = (flatF blC l).length from (flatF_len blC_len l).symm)
    clear h hn
    go_enter Tryz.func105, Tryz.ntmps105
    go_wp2_with (at_builtin; refine wpl_appendK (S := 2) (by decide) rfl (.tmp 5) (.tmp 6) 38 rfl w.heap.size 167 i0 (.agg #[.int .u16 0, .int .u16 0]) Tryz.underlying38 hi0 hz0 hz1 rfl _ 0 [] rfl HO.out (some a) l.length c (flatF blC l) rfl HFL.out HL.out (flatF_one blC_one _) (by have := HN.out; unfold maxLen; omega) (by have := HN.out; rw [hz2]; omega) (by simp) ?_
                 intro A4 c4 w4 ho4 hb4 _
                 simp only [Nat.zero_add, List.nil_append] at ho4
                 replace hb4 := keep (LW.out.trans hb4))
    go_ret
    exact ⟨A4, c4, rfl, hb4.out, ho4.out⟩
theorem cParam_info : (Tryz.prog.info? 178).map (fun i => (i.zero, i.size, i.bytes)) = some (some (.agg #[.int .u16 0, .slice none 0 0]), 2, 32) := by kernel_rfl
set_option maxHeartbeats 1000000 in
theorem cParam_any (A : Option Addr) (n c : Nat) (l : List PZ) (w : World) (h : LR PZ.cells w (A, n, c) l) (hn : n ≤ 1000000) :
    Calls Tryz.prog 106 #[.slice A n c] w (CpK PZ.cells 2 178 w l) := by
  obtain ⟨i0, hi0, hz0, hz1, hz2⟩ := info_parts cParam_info
  have qn : ∀ (w : World), (binOp .eql 39 (.slice A n c) (.slice none 0 0)).run Tryz.prog w = .ok (.bool A.isNone) w := fun w => Lib.run_eql_slice_nil w _ _ _ n c 0 0 Tryz.underlying39
  obtain rfl : n = l.length := h.1
  cases A with
  | none =>
    obtain rfl := lr_none PZ.len (by decide) h
    clear h hn
    have qn' : ∀ (w : World), (binOp .eql 39 (.slice none 0 c) (.slice none 0 0)).run Tryz.prog w = .ok (.bool true) w := qn
    clear qn
    go_enter Tryz.func106, Tryz.ntmps106
    go_wp2
    go_ret
    exact ⟨none, 0, rfl, Below.refl _ _, own_zero _ _ _ _⟩
  | some a =>
    have qn' : ∀ (w : World), (binOp .eql 39 (.slice (some a) l.length c) (.slice none 0 0)).run Tryz.prog w = .ok (.bool false) w := qn
    clear qn
    have HL := keep (h.2.2.step (below_lay w (.cells #[] 178)))
    have LW := keep (below_lay w (.cells #[] 178))
    have HN := keep hn
    have HO := keep (show (w.alloc (.cells #[] 178)).ownsRow w.heap.size 178 2 (.slice (some ⟨w.heap.size, 0, none⟩) 0 0) 0 [] from ⟨by simp, .inr ⟨w.heap.size, 0, #[], rfl, Nat.le_refl _, heap_alloc_new w _, Nat.le_refl _, Nat.zero_le _, by simp, by simp⟩⟩)
    have HFL := keep (show l.length * 2 = (flatF PZ.cells l).length from (flatF_len PZ.len l).symm)
    clear h hn
    go_enter Tryz.func106, Tryz.ntmps106
    go_wp2_with (at_builtin; refine wpl_appendK (S := 2) (by decide) rfl (.tmp 5) (.tmp 6) 39 rfl w.heap.size 178 i0 (.agg #[.int .u16 0, .slice none 0 0]) Tryz.underlying39 hi0 hz0 hz1 rfl _ 0 [] rfl HO.out (some a) l.length c (flatF PZ.cells l) rfl HFL.out HL.out (flatF_one PZ.one _) (by have := HN.out; unfold maxLen; omega) (by have := HN.out; rw [hz2]; omega) (by simp) ?_
                 intro A4 c4 w4 ho4 hb4 _
                 simp only [Nat.zero_add, List.nil_append] at ho4
                 replace hb4 := keep (LW.out.trans hb4))
    go_ret
    exact ⟨A4, c4, rfl, hb4.out, ho4.out⟩
def byC (b : UInt8) : List Value := [.int .u8 (b.toNat : Int)]
theorem byC_len (x : UInt8) : (byC x).length = 1 := rfl
theorem byC_one (x : UInt8) : ∀ u ∈ byC x, u.oneCell' = true := by
  intro u hu
  simp only [byC, List.mem_cons, List.not_mem_nil, or_false] at hu
  subst hu
  rfl
theorem flat_by (bs : List UInt8) : flatF byC bs = bc bs := by
  unfold flatF byC bc
  induction bs with
  | nil => rfl
  | cons x r ih => simp [List.flatMap_cons, ih]
theorem bs_lr {w : World} {A : Option Addr} {n c : Nat} {bs : List UInt8} (h : BS w A n c bs) : LR byC w (A, n, c) bs := ⟨h.1, h.2.1, by rw [flat_by]; exact h.2.2⟩
theorem cByte_info : (Tryz.prog.info? 5).map (fun i => (i.zero, i.size, i.bytes)) = some (some (.int .u8 0), 1, 1) := by kernel_rfl
set_option maxHeartbeats 1000000 in
theorem cByte_any (A : Option Addr) (n c : Nat) (l : List UInt8) (w : World) (h : LR byC w (A, n, c) l) (hn : n ≤ 140737488355328) :
    Calls Tryz.prog 65 #[.slice A n c] w (CpK byC 1 5 w l) := by
  obtain ⟨i0, hi0, hz0, hz1, hz2⟩ := info_parts cByte_info
  have qn : ∀ (w : World), (binOp .eql 31 (.slice A n c) (.slice none 0 0)).run Tryz.prog w = .ok (.bool A.isNone) w := fun w => Lib.run_eql_slice_nil w _ _ _ n c 0 0 Tryz.underlying31
  obtain rfl : n = l.length := h.1
  cases A with
  | none =>
    obtain rfl := lr_none byC_len (by decide) h
    clear h hn
    have qn' : ∀ (w : World), (binOp .eql 31 (.slice none 0 c) (.slice none 0 0)).run Tryz.prog w = .ok (.bool true) w := qn
    clear qn
    go_enter Tryz.func65, Tryz.ntmps65
    go_wp2
    go_ret
    exact ⟨none, 0, rfl, Below.refl _ _, own_zero _ _ _ _⟩
  | some a =>
    have qn' : ∀ (w : World), (binOp .eql 31 (.slice (some a) l.length c) (.slice none 0 0)).run Tryz.prog w = .ok (.bool false) w := qn
    clear qn
    have HL := keep (h.2.2.step (below_lay w (.cells #[] 5)))
    have LW := keep (below_lay w (.cells #[] 5))
    have HN := keep hn
    have HO := keep (show (w.alloc (.cells #[] 5)).ownsRow w.heap.size 5 1 (.slice (some ⟨w.heap.size, 0, none⟩) 0 0) 0 [] from ⟨by simp, .inr ⟨w.heap.size, 0, #[], rfl, Nat.le_refl _, heap_alloc_new w _, Nat.le_refl _, Nat.zero_le _, by simp, by simp⟩⟩)
    have HFL := keep (show l.length * 1 = (flatF byC l).length from (flatF_len byC_len l).symm)
    clear h hn
    go_enter Tryz.func65, Tryz.ntmps65
    go_wp2_with (at_builtin; refine wpl_appendK (S := 1) (by decide) rfl (.tmp 5) (.tmp 6) 31 rfl w.heap.size 5 i0 (.int .u8 0) Tryz.underlying31 hi0 hz0 hz1 rfl _ 0 [] rfl HO.out (some a) l.length c (flatF byC l) rfl HFL.out HL.out (flatF_one byC_one _) (by have := HN.out; unfold maxLen; omega) (by have := HN.out; rw [hz2]; omega) (by simp) ?_
                 intro A4 c4 w4 ho4 hb4 _
                 simp only [Nat.zero_add, List.nil_append] at ho4
                 replace hb4 := keep (LW.out.trans hb4))
    go_ret
    exact ⟨A4, c4, rfl, hb4.out, ho4.out⟩
def ptC (p : Nat) : List Value := [.pointer (some ⟨p, 0, none⟩)]
theorem ptC_len (x : Nat) : (ptC x).length = 1 := rfl
theorem ptC_one (x : Nat) : ∀ u ∈ ptC x, u.oneCell' = true := by
  intro u hu
  simp only [ptC, List.mem_cons, List.not_mem_nil, or_false] at hu
  subst hu
  rfl
theorem cPtr_info : (Tryz.prog.info? 91).map (fun i => (i.zero, i.size, i.bytes)) = some (some (.pointer none), 1, 8) := by kernel_rfl
set_option maxHeartbeats 1000000 in
theorem cPtr_any (A : Option Addr) (n c : Nat) (l : List Nat) (w : World) (h : LR ptC w (A, n, c) l) (hn : n ≤ 1000000) :
    Calls Tryz.prog 121 #[.slice A n c] w (CpK ptC 1 91 w l) := by
  obtain ⟨i0, hi0, hz0, hz1, hz2⟩ := info_parts cPtr_info
  have qn : ∀ (w : World), (binOp .eql 89 (.slice A n c) (.slice none 0 0)).run Tryz.prog w = .ok (.bool A.isNone) w := fun w => Lib.run_eql_slice_nil w _ _ _ n c 0 0 Tryz.underlying89
  obtain rfl : n = l.length := h.1
  cases A with
  | none =>
    obtain rfl := lr_none ptC_len (by decide) h
    clear h hn
    have qn' : ∀ (w : World), (binOp .eql 89 (.slice none 0 c) (.slice none 0 0)).run Tryz.prog w = .ok (.bool true) w := qn
    clear qn
    go_enter Tryz.func121, Tryz.ntmps121
    go_wp2
    go_ret
    exact ⟨none, 0, rfl, Below.refl _ _, own_zero _ _ _ _⟩
  | some a =>
    have qn' : ∀ (w : World), (binOp .eql 89 (.slice (some a) l.length c) (.slice none 0 0)).run Tryz.prog w = .ok (.bool false) w := qn
    clear qn
    have HL := keep (h.2.2.step (below_lay w (.cells #[] 91)))
    have LW := keep (below_lay w (.cells #[] 91))
    have HN := keep hn
    have HO := keep (show (w.alloc (.cells #[] 91)).ownsRow w.heap.size 91 1 (.slice (some ⟨w.heap.size, 0, none⟩) 0 0) 0 [] from ⟨by simp, .inr ⟨w.heap.size, 0, #[], rfl, Nat.le_refl _, heap_alloc_new w _, Nat.le_refl _, Nat.zero_le _, by simp, by simp⟩⟩)
    have HFL := keep (show l.length * 1 = (flatF ptC l).length from (flatF_len ptC_len l).symm)
    clear h hn
    go_enter Tryz.func121, Tryz.ntmps121
    go_wp2_with (at_builtin; refine wpl_appendK (S := 1) (by decide) rfl (.tmp 5) (.tmp 6) 89 rfl w.heap.size 91 i0 (.pointer none) Tryz.underlying89 hi0 hz0 hz1 rfl _ 0 [] rfl HO.out (some a) l.length c (flatF ptC l) rfl HFL.out HL.out (flatF_one ptC_one _) (by have := HN.out; unfold maxLen; omega) (by have := HN.out; rw [hz2]; omega) (by simp) ?_
                 intro A4 c4 w4 ho4 hb4 _
                 simp only [Nat.zero_add, List.nil_append] at ho4
                 replace hb4 := keep (LW.out.trans hb4))
    go_ret
    exact ⟨A4, c4, rfl, hb4.out, ho4.out⟩
end
end Go.Proofs.YtnlkdlnmffibhaaGreat
