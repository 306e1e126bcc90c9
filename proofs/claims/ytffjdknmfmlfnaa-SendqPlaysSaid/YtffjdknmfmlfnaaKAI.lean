/- KAI of the stage: texts Q8, Q9, joined. -/
import Derived.Test.YtffjdknmfmlfnaaKAH
set_option linter.unusedSimpArgs false
set_option linter.unusedVariables false
namespace Go.Proofs.Ytffjdknmfmlfnaa
section
open Go.RowKit Go.Maps
attribute [local go_sem] Oper.semAt_some

/-! ### Lists, turned place by place -/
def updL (f : Nat → En → En) (es : List En) (i : Nat) : List En := (es.take i).mapIdx f ++ es.drop i
theorem updL_get (f : Nat → En → En) (es : List En) (i j : Nat) : (updL f es i)[j]? = if j < i then (es[j]?).map (f j) else es[j]? := by
  unfold updL
  by_cases hj : j < i
  · rw [if_pos hj]
    by_cases hl : j < es.length
    · rw [List.getElem?_append_left (by simp; omega), List.getElem?_mapIdx, List.getElem?_take, if_pos hj]
    · rw [List.getElem?_eq_none (by simp; omega), List.getElem?_eq_none (by omega)]
      rfl
  · rw [if_neg hj]
    by_cases hl : i ≤ es.length
    · rw [List.getElem?_append_right (by simp; omega), List.getElem?_drop, List.length_mapIdx, List.length_take, Nat.min_eq_left hl]
      congr 1
      omega
    · rw [List.getElem?_eq_none (by simp; omega), List.getElem?_eq_none (by omega)]
theorem updL_zero (f : Nat → En → En) (es : List En) : updL f es 0 = es := by simp [updL]
theorem updL_all (f : Nat → En → En) (es : List En) : updL f es es.length = es.mapIdx f := by simp [updL]
theorem updL_next (f : Nat → En → En) (es : List En) (i : Nat) {e : En} (he : es[i]? = some e) : updL f es (i + 1) = (updL f es i).set i (f i e) := by
  apply List.ext_getElem?
  intro j
  have hl := (List.getElem?_eq_some_iff.1 he).1
  rw [updL_get, List.getElem?_set, updL_get]
  by_cases hij : i = j
  · subst hij
    rw [if_pos rfl, if_pos (Nat.lt_succ_self _), if_pos (by simp [updL]; omega), he]
    rfl
  · rw [if_neg hij]
    by_cases hj : j < i
    · rw [if_pos (by omega), if_pos hj]
    · rw [if_neg (by omega), if_neg hj]
theorem updL_same (f : Nat → En → En) (es : List En) (i : Nat) {e : En} (he : es[i]? = some e) (hf : f i e = e) : updL f es (i + 1) = updL f es i := by
  rw [updL_next f es i he, hf]
  apply List.ext_getElem?
  intro j
  rw [List.getElem?_set]
  by_cases hij : i = j
  · subst hij
    have hl := (List.getElem?_eq_some_iff.1 he).1
    rw [if_pos rfl, if_pos (by simp [updL]; omega), updL_get, if_neg (by omega), he]
  · rw [if_neg hij]
theorem updL_at (f : Nat → En → En) (es : List En) (i : Nat) : (updL f es i)[i]? = es[i]? := by rw [updL_get, if_neg (by omega)]
theorem updL_p (f : Nat → En → En) (hf : ∀ i e, (f i e).p = e.p) (es : List En) (i : Nat) : (updL f es i).map En.p = es.map En.p := by
  apply List.ext_getElem?
  intro j
  rw [List.getElem?_map, List.getElem?_map, updL_get]
  split
  · cases es[j]? with
    | none => rfl
    | some e => simp [hf]
  · rfl
theorem map_p_set {es : List En} {i : Nat} {e e' : En} (he : es[i]? = some e) (hp : e'.p = e.p) : (es.set i e').map En.p = es.map En.p := by
  apply List.ext_getElem?
  intro j
  rw [List.getElem?_map, List.getElem?_map, List.getElem?_set]
  by_cases hij : i = j
  · subst hij
    rw [if_pos rfl, if_pos (List.getElem?_eq_some_iff.1 he).1, he]
    simp [hp]
  · rw [if_neg hij]

/-! ### The blocks that a range over in lays -/
structure InB (S : Nat) (s : SL) (sts : List Int) (A : World) : Prop where
  sb : A.heap[S]? = some (.cells (sts.map (Value.int .i64)).toArray 3 (0, 0))
  db : A.heap[S + 1]? = some (.cells #[.slice s.1 s.2.1 s.2.2] 54 (0, 0))
  tb : A.heap[S + 2]? = some (.cells #[.slice (some ⟨S, 0, none⟩) sts.length sts.length] 115 (0, 0))
theorem InB.kept {S : Nat} {s : SL} {sts : List Int} {ok : Nat → Prop} {A B : World} (h : InB S s sts A) (k : Kpt ok A B) (h0 : ok S) (h1 : ok (S + 1)) (h2 : ok (S + 2)) : InB S s sts B := ⟨k.cells _ _ _ _ h0 h.sb, k.cells _ _ _ _ h1 h.db, k.cells _ _ _ _ h2 h.tb⟩
theorem InB.st {S : Nat} {s : SL} {sts : List Int} {A B : World} {M : Nat} (h : InB S s sts A) (k : StN M A B) : InB S s sts B := ⟨k.cells h.sb, k.cells h.db, k.cells h.tb⟩
theorem InB.start (A : World) (S : Nat) (hS : A.heap.size = S) (s : SL) (sts : List Int) : InB S s sts (((A.alloc (.cells (sts.map (Value.int .i64)).toArray 3)).alloc (.cells #[.slice s.1 s.2.1 s.2.2] 54)).alloc (.cells #[.slice (some ⟨S, 0, none⟩) sts.length sts.length] 115)) :=
  ⟨below_new (below_new (heap_new_at hS)), below_new (heap_new_at (by simp [hS])), heap_new_at (by simp [hS])⟩
theorem InB.own {S : Nat} {s : SL} {sts : List Int} {ps : List Nat} {A : World} (h : InB S s sts A) (hn : s.2.1 = ps.length) (hr : SR A s.1 (ps.map fun p => Value.pointer (some ⟨p, 0, none⟩))) (hs : ∀ p ∈ ps, ∃ x, A.cell? ⟨p, 13, none⟩ = some (.int .i64 x)) : InOwn (S + 1) (S + 2) s (some ⟨S, 0, none⟩, sts.length, sts.length) ps sts A :=
  ⟨by rw [cell_of_row _ _ _ _ _ _ h.db]; rfl, by rw [cell_of_row _ _ _ _ _ _ h.tb]; rfl, hn, rfl, hr, by simpa using SR.row h.sb, hs⟩
theorem below_in (A : World) (o1 o2 o3 : Obj) : Below A.heap.size A (((A.alloc o1).alloc o2).alloc o3) := up (up (below_lay A _) (below_lay _ _)) (below_lay _ _)
theorem ptr_map (es : List En) : es.map En.ptr = (es.map En.p).map fun p => Value.pointer (some ⟨p, 0, none⟩) := by rw [List.map_map]; rfl

/-- Between two rounds of a range over a queue's entries. -/
structure LQ (w : World) (G : Gq) (nx : Int) (S : Nat) (sts : List Int) (ps : List Nat) (es : List En) (mg : Nat → Mg) (A : World) : Prop where
  qa : QA A G ⟨es, nx, mg⟩
  pp : es.map En.p = ps
  ib : InB S G.s sts A
  pt : Part G.O w A
section
variable {w : World} {G : Gq} {nx : Int} {S : Nat} {sts : List Int} {ps : List Nat} {es : List En} {mg : Nat → Mg} {A B : World}
theorem Part.st {O : Nat → Prop} {N : Nat} (h : Part O w A) (k : StN N A B) (hN : w.heap.size ≤ N) : Part O w B :=
  ⟨k.os.trans h.os, k.tape.trans h.tape, k.output.trans h.output, Nat.le_trans h.size k.size, fun i hi hn => by
    have h1 := h.block i hi hn
    have h2 : i < A.heap.size := Nat.lt_of_lt_of_le hi h.size
    exact (k.blk i _ (Array.getElem?_eq_getElem h2) (.inr (by omega))).trans ((Array.getElem?_eq_getElem h2).symm.trans h1)⟩
theorem LQ.st (h : LQ w G nx S sts ps es mg A) {N : Nat} (k : StN N A B) (hN : w.heap.size ≤ N) : LQ w G nx S sts ps es mg B := ⟨h.qa.st k, h.pp, h.ib.st k, h.pt.st k hN⟩
theorem LQ.own (h : LQ w G nx S sts ps es mg A) : InOwn (S + 1) (S + 2) G.s (some ⟨S, 0, none⟩, sts.length, sts.length) ps sts A :=
  h.ib.own (by rw [h.qa.n, ← h.pp, List.length_map]) (by rw [← h.pp, ← ptr_map]; exact h.qa.sr.2) fun p hp => by
    rw [← h.pp] at hp
    obtain ⟨e, he, rfl⟩ := List.mem_map.1 hp
    exact ⟨_, (h.qa.en e he).1.c12.2.1⟩
theorem LQ.x (h : LQ w G nx S sts ps es mg A) {i : Nat} {e : En} (he : es[i]? = some e) : InX ps sts i A ↔ e.st ∈ sts := by
  have h1 : ps[i]? = some e.p := by rw [← h.pp, List.getElem?_map, he]; rfl
  have h2 := (h.qa.en e (List.mem_of_getElem? he)).1.c12.2.1
  constructor
  · rintro ⟨p, x, a, b, c⟩
    rw [h1] at a
    injection a with a
    subst a
    rw [h2] at b
    injection b with b
    injection b with _ b
    rw [b]
    exact c
  · exact fun hm => ⟨e.p, e.st, h1, h2, hm⟩
theorem LQ.get (h : LQ w G nx S sts ps es mg A) {i : Nat} (hi : i < ps.length) : ∃ e, es[i]? = some e ∧ ps.getD i 0 = e.p := by
  have hl : i < es.length := by rw [← h.pp, List.length_map] at hi; exact hi
  refine ⟨es[i], List.getElem?_eq_getElem hl, ?_⟩
  rw [List.getD_eq_getElem?_getD, ← h.pp, List.getElem?_map, List.getElem?_eq_getElem hl]
  rfl
theorem LQ.start (h : QA w G ⟨es, nx, mg⟩) (hb : Below w.heap.size w A) (hS : A.heap.size = S) (sts : List Int) : LQ w G nx S sts (es.map En.p) es mg (((A.alloc (.cells (sts.map (Value.int .i64)).toArray 3)).alloc (.cells #[.slice G.s.1 G.s.2.1 G.s.2.2] 54)).alloc (.cells #[.slice (some ⟨S, 0, none⟩) sts.length sts.length] 115)) := by
  have hb2 := up hb (below_in A (.cells (sts.map (Value.int .i64)).toArray 3) (.cells #[.slice G.s.1 G.s.2.1 G.s.2.2] 54) (.cells #[.slice (some ⟨S, 0, none⟩) sts.length sts.length] 115))
  exact ⟨h.step hb2, rfl, InB.start A S hS G.s sts, Part.of_below _ hb2⟩
/-- A cell of an entry is written. -/
theorem LQ.setE (h : LQ w G nx S sts ps es mg A) (hS : w.heap.size ≤ S) (hO : ∀ i, G.O i → i < w.heap.size) {i : Nat} {e e' : En} (he : es[i]? = some e) (j : Nat) (v : Value) (hp : e'.p = e.p) (hc : e'.c = e.c) (hm : e'.m = e.m) (hcs : e.cells.toArray.setIfInBounds j v = e'.cells.toArray) :
    LQ w G nx S sts ps (es.set i e') mg (A.setCell ⟨e.p, j, none⟩ v) := by
  obtain ⟨h1, h2⟩ := h.qa.setE he j v hp hc hm hcs
  have hOe := (h.qa.en e (List.mem_of_getElem? he)).2.1
  have hlt := hO _ hOe
  refine ⟨h1, by rw [map_p_set he hp]; exact h.pp, h.ib.kept (Kpt.of_part (ok := fun x => ¬ x = e.p) h2 fun _ h => h) (by omega) (by omega) (by omega), (h.pt.trans h2 fun x hx => .inl (by rw [hx]; exact hOe))⟩
/-- A message is given up. -/
theorem LQ.setG (h : LQ w G nx S sts ps es mg A) (hS : w.heap.size ≤ S) (hO : ∀ i, G.O i → i < w.heap.size) {e : En} (he : e ∈ es) (gv : Bool) :
    LQ w G nx S sts ps es (fun x => if x = e.m then ⟨(mg e.m).un, (mg e.m).tr, gv⟩ else mg x) (A.setCell ⟨e.m, 2, none⟩ (.bool gv)) := by
  obtain ⟨h1, h2⟩ := h.qa.setG he gv
  have hOe := (h.qa.en e he).2.2.2
  have hlt := hO _ hOe
  exact ⟨h1, h.pp, h.ib.kept (Kpt.of_part (ok := fun x => ¬ x = e.m) h2 fun _ h => h) (by omega) (by omega) (by omega), (h.pt.trans h2 fun x hx => .inl (by rw [hx]; exact hOe))⟩
/-- A box of the call's own is written. -/
theorem LQ.box (h : LQ w G nx S sts ps es mg A) (hO : ∀ i, G.O i → i < w.heap.size) (hF : ∀ i, G.F i → i < w.heap.size) {b : Nat} (hb : w.heap.size ≤ b) (hS : b < S ∨ S + 2 < b) (j : Nat) (v : Value) : LQ w G nx S sts ps es mg (A.setCell ⟨b, j, none⟩ v) := by
  have h2 := part_set A b j v
  exact ⟨h.qa.apart h2 (fun i hi e => by have := hO i hi; omega) (fun i hi e => by have := hF i hi; omega), h.pp, h.ib.kept (Kpt.of_part (ok := fun x => ¬ x = b) h2 fun _ h => h) (by omega) (by omega) (by omega), (h.pt.trans h2 fun x hx => .inr (by omega))⟩
theorem LQ.drew (h : LQ w G nx S sts ps es mg A) : LQ w G nx S sts ps es mg A.drew := h.st (StN.drew w.heap.size A) (Nat.le_refl _)
end
end
section
open Go.RowKit Go.Maps
attribute [local go_sem] Oper.semAt_some

theorem upd_cell {cs : Array Value} {t : TypeId} {w : World} {b : Nat} {fr : Nat × Nat} (h : w.heap[b]? = some (.cells cs t fr)) (j : Nat) (v : Value) (hv : cs[j]? = some v) : w.cell? ⟨b, j, none⟩ = some v := by rw [cell_of_row _ _ _ _ _ _ h]; exact hv
theorem upd_fz {cs : Array Value} {t : TypeId} {w : World} {b : Nat} (h : w.heap[b]? = some (.cells cs t (0, 0))) (j : Nat) : w.frozen? ⟨b, j, none⟩ = false := by simp [World.frozen?, h]
theorem set_other {w : World} {b c j : Nat} {v : Value} {o : Obj} (h : w.heap[b]? = some o) (hne : b ≠ c) : (w.setCell ⟨c, j, none⟩ v).heap[b]? = some o := (Below.heap_setCell w ⟨c, j, none⟩ v b hne).trans h
theorem updL_map (f : En → En) (es : List En) : updL (fun _ => f) es es.length = es.map f := by
  rw [updL_all]
  apply List.ext_getElem?
  intro j
  rw [List.getElem?_mapIdx, List.getElem?_map]
/-! ### Timeout -/
def toutE (e : En) : En := if e.st = 1 then { e with st := 2 } else e
def cnt1 (es : List En) (i : Nat) : Nat := ((es.take i).filter fun e => decide (e.st = 1)).length
theorem cnt1_le (es : List En) (i : Nat) : cnt1 es i ≤ es.length := by
  unfold cnt1
  have h1 := List.length_filter_le (fun e : En => decide (e.st = 1)) (es.take i)
  have h2 : (es.take i).length ≤ es.length := by rw [List.length_take]; omega
  omega
theorem cnt1_next {es : List En} {i : Nat} {e : En} (he : es[i]? = some e) : cnt1 es (i + 1) = cnt1 es i + if e.st = 1 then 1 else 0 := by
  unfold cnt1
  rw [List.take_add_one, he, List.filter_append, List.length_append]
  by_cases h : e.st = 1 <;> simp [h]
structure TouJ (w : World) (G : Gq) (q : Qm) (S : Nat) (i : Nat) (A : World) : Prop where
  lq : LQ w G q.nx S [1] (q.es.map En.p) (updL (fun _ => toutE) q.es i) q.mg A
  nb : A.heap[w.heap.size]? = some (.cells #[.int .i64 (cnt1 q.es i : Int)] 3 (0, 0))
set_option maxRecDepth 100000 in
set_option maxHeartbeats 2000000 in
theorem Timeout_any {w : World} {G : Gq} {q : Qm} (h : QA w G q) :
    Calls Try.prog 21 #[.pointer (some ⟨G.b, 0, none⟩)] w fun e w' => e = .returned (.int .i64 ((cnt1 q.es q.es.length : Nat) : Int)) ∧ QA w' G { q with es := q.es.map toutE } ∧ Ltr w G w' G := by
  have F1 : Fence.wide.fn 39 := trivial
  have F2 : Fence.wide.fn 44 := trivial
  have HL := keep (fun W (hb : Below w.heap.size w W) => list_at G.b _ _ _ W (h.step hb).b0.1)
  have HO := keep h.olt
  have HF := keep h.flt
  have HQ := keep h
  have hle := h.le
  clear h
  refine (callsIn_wide (n := 5)).1 ?_
  refine callsIn_of_wp_marks Try.func21 rfl trivial ?_ rfl
  simp only [Try.ntmps21, List.size_toArray, List.length_cons, List.length_nil, Nat.reduceAdd, Nat.reduceSub, Array.replicate_succ, Array.replicate_zero, List.push_toArray, List.append_toArray, List.nil_append, List.cons_append]
  gi_wp2_with (first
    | (gi_at_call 39; refine (callsIn_wide.2 (HL.out _ (below_lay w _))).mono ?_; rintro e w' ⟨rfl, rfl⟩)
    | (gi_at_call 44; refine (callsIn_wide.2 (in_any _ _ _ _ _ _ _)).mono ?_; rintro e w' ⟨rfl, rfl⟩))
  generalize hW1 : World.alloc _ _ = W1
  have J0 : TouJ w G q (w.heap.size + 1) 0 W1 := by
    rw [← hW1]
    refine ⟨by rw [updL_zero]; exact LQ.start HQ.out (below_lay w _) (by simp) [1], below_new (below_new (below_new (heap_new_at rfl)))⟩
  have hs1 : w.heap.size ≤ W1.heap.size := J0.lq.pt.size
  clear hW1
  have hps : (q.es.map En.p).length = q.es.length := List.length_map _
  refine rangeFunc_ix (n := 5) rfl (by omega) (gf := 68) (lb := #[.pointer (some ⟨w.heap.size + 1 + 1, 0, none⟩), .pointer (some ⟨w.heap.size + 1 + 1 + 1, 0, none⟩)]) rfl trivial (enters_of Try.func68 (by kernel_rfl) rfl) (N := (q.es.map En.p).length) (enc := encP (q.es.map En.p)) (fun _ => rfl)
    (InX (q.es.map En.p) [1]) (fun _ => InOwn (w.heap.size + 1 + 1) (w.heap.size + 1 + 2) G.s (some ⟨w.heap.size + 1, 0, none⟩, 1, 1) (q.es.map En.p) [1]) (fun _ _ => True)
    (TouJ w G q (w.heap.size + 1)) (fun _ _ => False)
    (in1_seq (5 - 1) (by omega) _ _ _ _ (q.es.map En.p) [1] (by rw [hps]; exact hle) (by decide) _ _)
    (fun i A B st h => ⟨h.lq.st st hs1, st.cells h.nb⟩) (fun _ _ _ _ h => h)
    (fun i A B st h => by
      obtain ⟨p, y, h1, h2, h3⟩ := h
      exact ⟨p, y, h1, st.cell h2, h3⟩)
    (fun _ _ _ _ _ _ _ _ _ _ _ _ _ _ => trivial)
    (fun i A h => h.lq.own)
    (fun i A hi h hx => by
      obtain ⟨e, he, _⟩ := h.lq.get hi
      have hne := fun hh => hx ((h.lq.x he).2 hh)
      rw [updL_at] at he
      have hst : e.st ≠ 1 := fun e1 => hne (by rw [e1]; exact List.mem_singleton.2 rfl)
      exact ⟨by rw [updL_same _ _ _ he (by unfold toutE; rw [if_neg hst])]; exact h.lq, by rw [cnt1_next he, if_neg hst]; exact h.nb⟩)
    J0 ?round ?done (fun _ _ _ _ h _ => h.elim)
  case round =>
    rintro l i A hl hi hJ hx
    obtain ⟨e, he, hge⟩ := hJ.lq.get hi
    have hst := (hJ.lq.x he).1 hx
    simp only [Array.zip, encP]
    rw [hge]
    have HI := keep hi
    have HE := keep he
    have HST := keep (List.mem_singleton.1 hst)
    clear hJ hx he hge hi hst
    gi_wp2
    refine ⟨by first | rfl | trivial, fun A2 hJ2 hx2 => ?_⟩
    have he := HE.out
    have hea := (hJ2.lq.qa.en e (List.mem_of_getElem? he))
    have c13 := hea.1.c12.2.1
    have f13 := hea.1.fz 13
    have hne : w.heap.size ≠ e.p := by have := HO.out _ hea.2.1; omega
    have hne2 : e.p ≠ w.heap.size := fun h => hne h.symm
    have cn := upd_cell hJ2.nb 0 _ rfl
    have fn' := upd_fz hJ2.nb 0
    have hcn := cnt1_le q.es (i + 1)
    rw [updL_at] at he
    have hc1 := cnt1_next he
    rw [if_pos HST.out] at hc1
    have hJ3 : TouJ w G q (w.heap.size + 1) (i + 1) ((A2.setCell ⟨e.p, 13, none⟩ (.int .i64 2)).setCell ⟨w.heap.size, 0, none⟩ (.int .i64 ((cnt1 q.es i : Int) + 1))) := by
      have hu : toutE e = { e with st := 2 } := by unfold toutE; rw [if_pos HST.out]
      refine ⟨?_, ?_⟩
      · rw [updL_next _ _ _ he, hu]
        exact (hJ2.lq.setE (Nat.le_succ _) HO.out (e' := { e with st := 2 }) HE.out 13 _ rfl rfl rfl rfl).box HO.out HF.out (Nat.le_refl _) (.inl (Nat.lt_succ_self _)) 0 _
      · rw [hc1]
        exact heap_setCell_same _ _ 0 _ _ _ (set_other hJ2.nb hne)
    have HJ3 := keep hJ3
    have hlt : (cnt1 q.es i : Int) + 1 ≤ 1024 := by omega
    have hge0 : 0 ≤ (cnt1 q.es i : Int) := by omega
    clear hJ2 hx2 he hea hJ3 hc1 hcn
    generalize cnt1 q.es i = k at *
    gi_wp2
    exact ⟨((KeepsOthers.setCell _ _ _).trans (KeepsOthers.setCell _ _ _)).from _, trivial, HJ3.out⟩
  case done =>
    intro D A hD hJ hDd
    have cn := upd_cell hJ.nb 0 _ rfl
    have HJ := keep hJ
    have k1 := StN.putObj (N := W1.heap.size) (.deferred none) hDd rfl hD
    clear hJ
    rw [hps] at cn HJ
    gi_wp2
    refine ⟨by simp, .inl ⟨_, _, rfl, run_takeDeferred hDd, ?_⟩⟩
    have hl := HJ.out.lq.st k1 hs1
    rw [updL_map] at hl
    exact ⟨_, results_tmp rfl _ _ _, rfl, hl.qa, rfl, hl.pt, fun _ h => .inl h, fun _ h => .inl h⟩
/-! ### Octets by states -/
/-- Entries as a slice of pointers tells them. -/
structure ES (w : World) (s : SL) (es : List En) : Prop where
  sn : s.2.1 = es.length
  rd : SR w s.1 (es.map En.ptr)
  en : ∀ e ∈ es, w.heap[e.p]? = some (.cells e.cells.toArray 78 (0, 0)) ∧ Sm e.c
theorem ES.step {w w' : World} {s : SL} {es : List En} (h : ES w s es) (hb : Below w.heap.size w w') : ES w' s es := ⟨h.sn, h.rd.step hb, fun e he => ⟨(hb.block _ (Array.getElem?_eq_some_iff.1 (h.en e he).1).1).trans (h.en e he).1, (h.en e he).2⟩⟩
theorem ES.st {w w' : World} {N : Nat} {s : SL} {es : List En} (h : ES w s es) (hb : StN N w w') : ES w' s es := ⟨h.sn, hb.sr h.rd, fun e he => ⟨hb.cells (h.en e he).1, (h.en e he).2⟩⟩
theorem QA.es_ {w : World} {G : Gq} {q : Qm} (h : QA w G q) : ES w G.s q.es := ⟨h.n, h.sr.2, fun e he => ⟨(h.en e he).1.blk, (h.en e he).1.sm⟩⟩
theorem ES.at_ {w : World} {s : SL} {es : List En} (h : ES w s es) {e : En} (he : e ∈ es) (j : Nat) (v : Value) (hv : e.cells[j]? = some v) : w.cell? ⟨e.p, j, none⟩ = some v := by
  rw [cell_of_row _ _ _ _ _ _ (h.en e he).1]
  simpa using hv
theorem ES.own {w : World} {s : SL} {es : List En} (h : ES w s es) {S : Nat} {sts : List Int} (hi : InB S s sts w) : InOwn (S + 1) (S + 2) s (some ⟨S, 0, none⟩, sts.length, sts.length) (es.map En.p) sts w :=
  hi.own (by rw [h.sn, List.length_map]) (by rw [← ptr_map]; exact h.rd) fun p hp => by
    obtain ⟨e, he, rfl⟩ := List.mem_map.1 hp
    exact ⟨_, h.at_ he 13 _ rfl⟩
theorem ES.x {w : World} {s : SL} {es : List En} (h : ES w s es) {sts : List Int} {i : Nat} {e : En} (he : es[i]? = some e) : InX (es.map En.p) sts i w ↔ e.st ∈ sts := by
  have h1 : (es.map En.p)[i]? = some e.p := by rw [List.getElem?_map, he]; rfl
  have h2 := h.at_ (List.mem_of_getElem? he) 13 _ rfl
  constructor
  · rintro ⟨p, x, a, b, c⟩
    rw [h1] at a
    injection a with a
    subst a
    rw [h2] at b
    injection b with b
    injection b with _ b
    rw [b]
    exact c
  · exact fun hm => ⟨e.p, e.st, h1, h2, hm⟩
theorem ES.get (es : List En) {i : Nat} (hi : i < (es.map En.p).length) : ∃ e, es[i]? = some e ∧ (es.map En.p).getD i 0 = e.p := by
  have hl : i < es.length := by rw [List.length_map] at hi; exact hi
  refine ⟨es[i], List.getElem?_eq_getElem hl, ?_⟩
  rw [List.getD_eq_getElem?_getD, List.getElem?_map, List.getElem?_eq_getElem hl]
  rfl
def octF (es : List En) (sts : List Int) (i : Nat) : Option Nat := match es[i]? with | some e => if e.st ∈ sts then some e.c.da.2.1 else none | none => none
/-- How many octets the entries of some states have. -/
def octs (es : List En) (sts : List Int) : Nat := sumF (octF es sts) es.length
theorem octF_le {es : List En} {sts : List Int} (h : ∀ e ∈ es, Sm e.c) : ∀ i n, octF es sts i = some n → n ≤ 1000000 := by
  intro i n hn
  unfold octF at hn
  cases he : es[i]? with
  | none => rw [he] at hn; cases hn
  | some e =>
    rw [he] at hn
    dsimp only at hn
    split at hn
    · injection hn with hn
      subst hn
      exact (h e (List.mem_of_getElem? he)).da
    · cases hn
theorem sum_in {w : World} {s : SL} {es : List En} (h : ES w s es) {S : Nat} {sts : List Int} (hi : InB S s sts w) (hle : es.length ≤ 1024) (hsts : sts.length ≤ 1000) :
    Calls Try.prog 46 #[.func (.func 68) #[] #[.pointer (some ⟨S + 1, 0, none⟩), .pointer (some ⟨S + 1 + 1, 0, none⟩)], .func (.func 40) #[] #[]] w fun e w' => e = .returned (.int .i64 ((octs es sts : Nat) : Int)) ∧ Below w.heap.size w w' := by
  have hl : (es.map En.p).length = es.length := List.length_map _
  have hK : ∀ A, Below w.heap.size w A → Kpt (fun _ => True) w A := fun A hb => Kpt.of_below hb
  refine sum_any 68 _ (enters_of Try.func68 (by kernel_rfl) rfl) es.length (es.map En.p) (InX (es.map En.p) sts) (fun _ => InOwn (S + 1) (S + 2) s (some ⟨S, 0, none⟩, sts.length, sts.length) (es.map En.p) sts) (octF es sts) w
    (fun w1 => by have := in1_seq 4 (by omega) (S + 1) (S + 2) s (some ⟨S, 0, none⟩, sts.length, sts.length) (es.map En.p) sts (by rw [hl]; exact hle) hsts (fun _ _ => True) w1; rw [hl] at this; exact this)
    (fun i A B M st hx => by
      obtain ⟨p, y, h1, h2, h3⟩ := hx
      exact ⟨p, y, h1, st.cell h2, h3⟩)
    (fun i A hlt hb => ?_) (fun i A hb => (h.step hb).own (hi.kept (hK A hb) trivial trivial trivial)) (fun i A n hlt hb hn => ?_) (octF_le fun e he => (h.en e he).2) hle
  · rw [(h.step hb).x (List.getElem?_eq_getElem hlt)]
    unfold octF
    rw [List.getElem?_eq_getElem hlt]
    dsimp only
    split <;> simp_all
  · obtain ⟨e, he, hge⟩ := ES.get es (i := i) (by rw [hl]; exact hlt)
    rw [hge]
    unfold octF at hn
    rw [he] at hn
    dsimp only at hn
    split at hn
    · injection hn with hn
      subst hn
      exact ⟨_, _, (h.step hb).at_ (List.mem_of_getElem? he) 11 _ rfl⟩
    · cases hn
theorem Flying_any {w : World} {G : Gq} {q : Qm} (h : QA w G q) :
    Calls Try.prog 32 #[.pointer (some ⟨G.b, 0, none⟩)] w fun e w' => e = .returned (.int .i64 ((octs q.es [1] : Nat) : Int)) ∧ Below w.heap.size w w' := by
  have HL := keep (list_at G.b _ _ _ w h.b0.1)
  have HE := keep h.es_
  have hle := keep h.le
  clear h
  go_enter Try.func32, Try.ntmps32
  go_wp2_with (first
    | (go_at_call 39; refine HL.out.mono ?_; rintro e w' ⟨rfl, rfl⟩)
    | (go_at_call 44; refine (in_any _ _ _ _ _ _ _).mono ?_; rintro e w' ⟨rfl, rfl⟩
       have KI := InB.start w w.heap.size rfl G.s [1]
       have KB := below_in w (.cells ([1].map (Value.int .i64)).toArray 3) (.cells #[.slice G.s.1 G.s.2.1 G.s.2.2] 54) (.cells #[.slice (some ⟨w.heap.size, 0, none⟩) 1 1] 115)
       have KS := keep (And.intro (sum_in (HE.out.step KB) KI hle.out (by decide)) KB)
       clear KI KB
       try simp only [World.size_alloc])
    | (go_at_call 46; refine KS.out.1.mono ?_; rintro e w' ⟨rfl, hb2⟩; replace hb2 := keep hb2))
  go_ret
  exact ⟨rfl, up KS.out.2 hb2.out⟩
theorem Left_any {w : World} {G : Gq} {q : Qm} (h : QA w G q) :
    Calls Try.prog 34 #[.pointer (some ⟨G.b, 0, none⟩)] w fun e w' => e = .returned (.int .i64 ((octs q.es [2, 0] : Nat) : Int)) ∧ Below w.heap.size w w' := by
  have HL := keep (list_at G.b _ _ _ w h.b0.1)
  have HE := keep h.es_
  have hle := keep h.le
  clear h
  go_enter Try.func34, Try.ntmps34
  go_wp2_with (first
    | (go_at_call 39; refine HL.out.mono ?_; rintro e w' ⟨rfl, rfl⟩)
    | (go_at_call 44; refine (in_any _ _ _ _ _ _ _).mono ?_; rintro e w' ⟨rfl, rfl⟩
       have KI := InB.start w w.heap.size rfl G.s [2, 0]
       have KB := below_in w (.cells ([2, 0].map (Value.int .i64)).toArray 3) (.cells #[.slice G.s.1 G.s.2.1 G.s.2.2] 54) (.cells #[.slice (some ⟨w.heap.size, 0, none⟩) 2 2] 115)
       have KS := keep (And.intro (sum_in (HE.out.step KB) KI hle.out (by decide)) KB)
       clear KI KB
       try simp only [World.size_alloc])
    | (go_at_call 46; refine KS.out.1.mono ?_; rintro e w' ⟨rfl, hb2⟩; replace hb2 := keep hb2))
  go_ret
  exact ⟨rfl, up KS.out.2 hb2.out⟩
end
end Go.Proofs.Ytffjdknmfmlfnaa
