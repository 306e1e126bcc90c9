/- KAV of the stage: texts Q16, RegR, RegH, joined. -/
import Derived.Test.YtffjdknmfmlfnaaKAU
import Derived.OrdersIn
import Derived.RangeFuncCalls
import Derived.Deep.RegionHeld3
set_option linter.unusedSimpArgs false
set_option linter.unusedVariables false
namespace Go.Proofs.Ytffjdknmfmlfnaa
section
open Go.RowKit Go.Maps

def sendE (now : Int) (e : En) : En := { e with st := 1, la := now, ms := 0, sn := wrap64 (e.sn + 1) }
def takeGo (now : Int) (n : Nat) : Nat → Nat → List En → Int → List CZ → List En × List CZ
  | 0, _, es, _, t => (es, t)
  | k + 1, i, es, r, t =>
    match es[ixD n i]? with
    | none => (es, t)
    | some e => if e.st = phD n i then (if r < (e.c.da.2.1 : Int) then (es, t) else takeGo now n k (i + 1) (es.set (ixD n i) (sendE now e)) (r - (e.c.da.2.1 : Int)) (t ++ [e.c])) else takeGo now n k (i + 1) es r t
def takeQ (q : Qm) (now room : Int) : List En × List CZ := takeGo now q.es.length (q.es.length + q.es.length) 0 q.es room []
theorem takeGo_no {now : Int} {n k i : Nat} {es : List En} {r : Int} {t : List CZ} {e : En} (he : es[ixD n i]? = some e) (h : e.st ≠ phD n i) : takeGo now n (k + 1) i es r t = takeGo now n k (i + 1) es r t := by
  rw [takeGo, he]
  simp only
  rw [if_neg h]
theorem takeGo_full {now : Int} {n k i : Nat} {es : List En} {r : Int} {t : List CZ} {e : En} (he : es[ixD n i]? = some e) (h : e.st = phD n i) (hr : r < (e.c.da.2.1 : Int)) : takeGo now n (k + 1) i es r t = (es, t) := by
  rw [takeGo, he]
  simp only
  rw [if_pos h, if_pos hr]
theorem takeGo_yes {now : Int} {n k i : Nat} {es : List En} {r : Int} {t : List CZ} {e : En} (he : es[ixD n i]? = some e) (h : e.st = phD n i) (hr : ¬ r < (e.c.da.2.1 : Int)) : takeGo now n (k + 1) i es r t = takeGo now n k (i + 1) (es.set (ixD n i) (sendE now e)) (r - (e.c.da.2.1 : Int)) (t ++ [e.c]) := by
  rw [takeGo, he]
  simp only
  rw [if_pos h, if_neg hr]
/-- Between two rounds of Take: what lies where. -/
structure TkM (w : World) (G : Gq) (q : Qm) (now : Int) (es : List En) (r : Int) (s : SL) (ys : List CZ) (A : World) : Prop where
  qa : QA A G ⟨es, q.nx, q.mg⟩
  pp : es.map En.p = q.es.map En.p
  pt : Part G.O w A
  nb : A.heap[w.heap.size]? = some (.cells #[.int .i64 now] 3 (0, 0))
  rb : A.heap[w.heap.size + 1]? = some (.cells #[.int .i64 r] 3 (0, 0))
  tb : A.heap[w.heap.size + 2]? = some (.cells #[.slice s.1 s.2.1 s.2.2] 31 (0, 0))
  db : A.heap[w.heap.size + 3]? = some (.cells #[.slice G.s.1 G.s.2.1 G.s.2.2] 54 (0, 0))
  row : A.ownsRow (w.heap.size + 4) 45 12 (.slice s.1 s.2.1 s.2.2) s.2.1 (flatF CZ.cells ys)
  zs : ∀ y ∈ ys, ZV A y ∧ (∀ k, adB y k → w.heap.size + 4 ≤ k ∧ k < A.heap.size ∧ (Value.slice s.1 s.2.1 s.2.2).ownBlock ≠ some k) ∧ A.ownsRow (w.heap.size + 4) 5 1 (.slice y.da.1 y.da.2.1 y.da.2.2) y.da.2.1 (bc y.bs)
section
variable {w : World} {G : Gq} {q : Qm} {now r : Int} {es : List En} {s : SL} {ys : List CZ} {A B : World}
theorem adB.inf {y : CZ} {ok : Nat → Prop} (h : ∀ k, adB y k → ok k) : ∀ p ∈ y.ads, InF ok p := fun p hp a ea => h _ ⟨p, hp, a, ea, rfl⟩
theorem TkM.st (h : TkM w G q now es r s ys A) {N : Nat} (k : StN N A B) (hN : w.heap.size ≤ N) : TkM w G q now es r s ys B :=
  ⟨h.qa.st k, h.pp, h.pt.st k hN, k.cells h.nb, k.cells h.rb, k.cells h.tb, k.cells h.db, k.own h.row, fun y hy => by
    obtain ⟨a1, a2, a3⟩ := h.zs y hy
    exact ⟨a1.st k, fun i hi => ⟨(a2 i hi).1, Nat.lt_of_lt_of_le (a2 i hi).2.1 k.size, (a2 i hi).2.2⟩, k.own a3⟩⟩
theorem TkM.own (h : TkM w G q now es r s ys A) : DuOwn (w.heap.size + 3) G.s (q.es.map En.p) A :=
  ⟨upd_cell h.db 0 _ rfl, by rw [h.qa.n, ← h.pp, List.length_map], by rw [← h.pp, ← ptr_map]; exact h.qa.sr.2, fun p hp => by
    rw [← h.pp] at hp
    obtain ⟨e, he, rfl⟩ := List.mem_map.1 hp
    exact ⟨_, (h.qa.en e he).1.c12.2.1⟩⟩
theorem TkM.len (h : TkM w G q now es r s ys A) : es.length = q.es.length := by
  have := congrArg List.length h.pp
  rwa [List.length_map, List.length_map] at this
theorem TkM.get (h : TkM w G q now es r s ys A) {i : Nat} (hi : i < (q.es.map En.p).length + (q.es.map En.p).length) : ∃ e, es[ixD (q.es.map En.p).length i]? = some e ∧ (q.es.map En.p).getD (ixD (q.es.map En.p).length i) 0 = e.p := by
  have hl : ixD (q.es.map En.p).length i < es.length := by
    rw [h.len]
    have : (q.es.map En.p).length = q.es.length := List.length_map _
    unfold ixD
    split <;> omega
  refine ⟨es[ixD (q.es.map En.p).length i], List.getElem?_eq_getElem hl, ?_⟩
  have key : ∀ j (hj : j < es.length), (q.es.map En.p).getD j 0 = es[j].p := fun j hj => by
    rw [List.getD_eq_getElem?_getD, ← h.pp, List.getElem?_map, List.getElem?_eq_getElem hj]
    rfl
  exact key _ hl
theorem TkM.x (h : TkM w G q now es r s ys A) {i : Nat} {e : En} (he : es[ixD (q.es.map En.p).length i]? = some e) : DuX (q.es.map En.p) i A ↔ e.st = phD (q.es.map En.p).length i := by
  have h1 : (q.es.map En.p)[ixD (q.es.map En.p).length i]? = some e.p := by
    have : (es.map En.p)[ixD (q.es.map En.p).length i]? = some e.p := by rw [List.getElem?_map, he]; rfl
    rwa [h.pp] at this
  have h2 := (h.qa.en e (List.mem_of_getElem? he)).1.c12.2.1
  constructor
  · rintro ⟨p, a, b⟩
    rw [h1] at a
    injection a with a
    subst a
    rw [h2] at b
    injection b with b
    injection b with _ b
  · exact fun hm => ⟨e.p, h1, by rw [h2, hm]⟩
/-- A block of the queue's own is written: what else there is stays. -/
theorem TkM.set (h : TkM w G q now es r s ys A) (hO : ∀ i, G.O i → i < w.heap.size) {es' : List En} {b j : Nat} {v : Value} (hb : G.O b) (hq : QA (A.setCell ⟨b, j, none⟩ v) G ⟨es', q.nx, q.mg⟩) (hp : es'.map En.p = q.es.map En.p) : TkM w G q now es' r s ys (A.setCell ⟨b, j, none⟩ v) := by
  have hpt := part_set A b j v
  have k := Kpt.of_part (ok := fun x => ¬ x = b) hpt fun _ h => h
  have hlt := hO b hb
  refine ⟨hq, hp, h.pt.trans hpt fun x hx => .inl (by rw [hx]; exact hb), set_other h.nb (by omega), set_other h.rb (by omega), set_other h.tb (by omega), set_other h.db (by omega), k.own h.row fun g hg e => by have := (h.row.lt g hg).1; omega, fun y hy => ?_⟩
  obtain ⟨a1, a2, a3⟩ := h.zs y hy
  exact ⟨a1.kept k (adB.inf fun i hi e => by have := (a2 i hi).1; omega), fun i hi => ⟨(a2 i hi).1, Nat.lt_of_lt_of_le (a2 i hi).2.1 hpt.size, (a2 i hi).2.2⟩, k.own a3 fun g hg e => by have := (a3.lt g hg).1; omega⟩
/-- The room that is left. -/
theorem TkM.room (h : TkM w G q now es r s ys A) (hO : ∀ i, G.O i → i < w.heap.size) (hF : ∀ i, G.F i → i < w.heap.size) (r' : Int) : TkM w G q now es r' s ys (A.setCell ⟨w.heap.size + 1, 0, none⟩ (.int .i64 r')) := by
  have hpt := part_set A (w.heap.size + 1) 0 (.int .i64 r')
  have k := Kpt.of_part (ok := fun x => ¬ x = w.heap.size + 1) hpt fun _ h => h
  refine ⟨h.qa.apart hpt (fun i hi e => by have := hO i hi; omega) (fun i hi e => by have := hF i hi; omega), h.pp, h.pt.trans hpt fun x hx => .inr (by omega), set_other h.nb (by omega), heap_setCell_same A (w.heap.size + 1) 0 _ _ _ h.rb, set_other h.tb (by omega), set_other h.db (by omega), k.own h.row fun g hg e => by have := (h.row.lt g hg).1; omega, fun y hy => ?_⟩
  obtain ⟨a1, a2, a3⟩ := h.zs y hy
  exact ⟨a1.kept k (adB.inf fun i hi e => by have := (a2 i hi).1; omega), fun i hi => ⟨(a2 i hi).1, Nat.lt_of_lt_of_le (a2 i hi).2.1 hpt.size, (a2 i hi).2.2⟩, k.own a3 fun g hg e => by have := (a3.lt g hg).1; omega⟩
/-- One is sent. -/
theorem TkM.send (h : TkM w G q now es r s ys A) (hO : ∀ i, G.O i → i < w.heap.size) {i : Nat} {e : En} (he : es[i]? = some e) (hnow : True) :
    TkM w G q now (es.set i (sendE now e)) r s ys ((((A.setCell ⟨e.p, 13, none⟩ (.int .i64 1)).setCell ⟨e.p, 15, none⟩ (.int .i64 now)).setCell ⟨e.p, 16, none⟩ (.int .i64 0)).setCell ⟨e.p, 14, none⟩ (.int .i64 (wrap64 (e.sn + 1)))) := by
  have hl := (List.getElem?_eq_some_iff.1 he).1
  have hOe := (h.qa.en e (List.mem_of_getElem? he)).2.1
  have at_ : ∀ (es : List En) (x : En), i < es.length → (es.set i x)[i]? = some x := fun es x hi => by rw [List.getElem?_set, if_pos rfl, if_pos hi]
  have m1 := h.set hO hOe (h.qa.setE he (e' := { e with st := 1 }) 13 (.int .i64 1) rfl rfl rfl rfl).1 ((map_p_set (e' := { e with st := 1 }) he rfl).trans h.pp)
  have g1 := at_ es { e with st := 1 } hl
  have m2 := m1.set hO hOe (m1.qa.setE g1 (e' := { e with st := 1, la := now }) 15 (.int .i64 now) rfl rfl rfl rfl).1 ((map_p_set (e' := { e with st := 1, la := now }) g1 rfl).trans m1.pp)
  rw [List.set_set] at m2
  have g2 := at_ es { e with st := 1, la := now } hl
  have m3 := m2.set hO hOe (m2.qa.setE g2 (e' := { e with st := 1, la := now, ms := 0 }) 16 (.int .i64 0) rfl rfl rfl rfl).1 ((map_p_set (e' := { e with st := 1, la := now, ms := 0 }) g2 rfl).trans m2.pp)
  rw [List.set_set] at m3
  have g3 := at_ es { e with st := 1, la := now, ms := 0 } hl
  have m4 := m3.set hO hOe (m3.qa.setE g3 (e' := sendE now e) 14 (.int .i64 (wrap64 (e.sn + 1))) rfl rfl rfl rfl).1 ((map_p_set (e' := sendE now e) g3 rfl).trans m3.pp)
  rw [List.set_set] at m4
  exact m4
/-- One is told. -/
theorem TkM.app (h : TkM w G q now es r s ys A) (hO : ∀ i, G.O i → i < w.heap.size) (hF : ∀ i, G.F i → i < w.heap.size) {w3 : World} (hb : Below A.heap.size A w3) {y : CZ} (hz : ZV w3 y) (hi : ∀ p ∈ y.ads, InF (fun k => A.heap.size ≤ k ∧ k < w3.heap.size) p) (hda : w3.ownsRow A.heap.size 5 1 (.slice y.da.1 y.da.2.1 y.da.2.2) y.da.2.1 (bc y.bs))
    {W4 : World} (hW4 : W4 = w3.alloc (.cells y.cells.toArray 45)) {w5 : World} {A5 : Option Addr} {c5 : Nat} (ho : w5.ownsRow (w.heap.size + 4) 45 12 (.slice A5 (s.2.1 + 1) c5) (s.2.1 + 1) (flatF CZ.cells ys ++ y.cells)) (hg : W4.grownBy w5 (Value.slice s.1 s.2.1 s.2.2).ownBlock)
    (hl : (Value.slice A5 (s.2.1 + 1) c5).ownBlock = (Value.slice s.1 s.2.1 s.2.2).ownBlock ∨ (Value.slice A5 (s.2.1 + 1) c5).ownBlock = some W4.heap.size) :
    TkM w G q now es r (A5, s.2.1 + 1, c5) (ys ++ [y]) (w5.setCell ⟨w.heap.size + 2, 0, none⟩ (.slice A5 (s.2.1 + 1) c5)) ∧ (∀ N, w.heap.size + 4 ≤ N → KpT itT N A (w5.setCell ⟨w.heap.size + 2, 0, none⟩ (.slice A5 (s.2.1 + 1) c5))) ∧ KeepsOthers A (w5.setCell ⟨w.heap.size + 2, 0, none⟩ (.slice A5 (s.2.1 + 1) c5)) := by
  have hbA : Below A.heap.size A W4 := by
    rw [hW4]
    exact up hb (below_lay w3 _)
  have hs4 : w3.heap.size < W4.heap.size := by rw [hW4]; simp
  have hb34 : Below w3.heap.size w3 W4 := by rw [hW4]; exact below_lay w3 _
  have hA := h.st (StN.of_below (N := w.heap.size) hbA) (Nat.le_refl _)
  have hp1 : Part (fun i => (Value.slice s.1 s.2.1 s.2.2).ownBlock = some i) W4 w5 := Part.of_grown hg fun k hk => hk
  have hge : ∀ g, (Value.slice s.1 s.2.1 s.2.2).ownBlock = some g → w.heap.size + 4 ≤ g ∧ g < A.heap.size := fun g hg' => h.row.lt g hg'
  have hp2 := part_set w5 (w.heap.size + 2) 0 (.slice A5 (s.2.1 + 1) c5)
  have hpt : Part (fun i => i = w.heap.size + 2 ∨ (Value.slice s.1 s.2.1 s.2.2).ownBlock = some i) W4 (w5.setCell ⟨w.heap.size + 2, 0, none⟩ (.slice A5 (s.2.1 + 1) c5)) := (hp1.mono fun i hi => .inr hi).trans hp2 fun i hi => .inl (.inl hi)
  have k := Kpt.of_part (ok := fun i => ¬ (i = w.heap.size + 2 ∨ (Value.slice s.1 s.2.1 s.2.2).ownBlock = some i)) hpt fun _ h => h
  have lo : ∀ i, i < w.heap.size + 4 → i ≠ w.heap.size + 2 → ¬ (i = w.heap.size + 2 ∨ (Value.slice s.1 s.2.1 s.2.2).ownBlock = some i) := fun i h1 h2 hc => by
    rcases hc with hc | hc
    · exact h2 hc
    · have := (hge i hc).1; omega
  have ht : w5.heap[w.heap.size + 2]? = some (.cells #[.slice s.1 s.2.1 s.2.2] 31 (0, 0)) := (hp1.block _ (Array.getElem?_eq_some_iff.1 hA.tb).1 fun hc => by have := (hge _ hc).1; omega).trans hA.tb
  have ha : ∀ i, adB y i → A.heap.size ≤ i ∧ i < w3.heap.size := fun i ⟨B, hB, a, ea, hi'⟩ => by rw [← hi']; exact hi B hB a ea
  have hsA : w.heap.size + 4 ≤ A.heap.size := by have := (Array.getElem?_eq_some_iff.1 h.db).1; omega
  have hnewOwn : ∀ i, (Value.slice A5 (s.2.1 + 1) c5).ownBlock = some i → i = W4.heap.size ∨ (Value.slice s.1 s.2.1 s.2.2).ownBlock = some i := fun i hi => by
    rcases hl with hl | hl
    · exact .inr (by rw [← hl]; exact hi)
    · rw [hl] at hi
      injection hi with hi
      exact .inl hi.symm
  refine ⟨⟨hA.qa.apart hpt (fun i hi hc => lo i (by have := hO i hi; omega) (by have := hO i hi; omega) hc) (fun i hi hc => lo i (by have := hF i hi; omega) (by have := hF i hi; omega) hc), h.pp, hA.pt.trans hpt fun x hx => .inr ?_, k.cells _ _ _ _ (lo _ (by omega) (by omega)) hA.nb, k.cells _ _ _ _ (lo _ (by omega) (by omega)) hA.rb, heap_setCell_same w5 _ 0 _ _ _ ht, k.cells _ _ _ _ (lo _ (by omega) (by omega)) hA.db, ?_, fun z hzm => ?_⟩, fun N hN => ?_, ?_⟩
  · rcases hx with rfl | hx
    · omega
    · have := (hge x hx).1; omega
  · rw [flatF_append, show flatF CZ.cells [y] = y.cells by simp [flatF]]
    exact hp2.own ho fun g hg' e => by
      rcases hnewOwn g hg' with h1 | h1
      · have := (Array.getElem?_eq_some_iff.1 hA.tb).1; omega
      · have := (hge g h1).1; omega
  · rcases List.mem_append.1 hzm with hzm | hzm
    · obtain ⟨a1, a2, a3⟩ := hA.zs z hzm
      have a2' := (h.zs z hzm).2.1
      have ok : ∀ i, adB z i → ¬ (i = w.heap.size + 2 ∨ (Value.slice s.1 s.2.1 s.2.2).ownBlock = some i) := fun i hi hc => by
        rcases hc with hc | hc
        · have := (a2 i hi).1; omega
        · exact (a2 i hi).2.2 hc
      refine ⟨a1.kept k (adB.inf ok), fun i hi => ⟨(a2 i hi).1, Nat.lt_of_lt_of_le (a2 i hi).2.1 hpt.size, fun hc => ?_⟩, k.own a3 fun g hg' hc => ?_⟩
      · rcases hnewOwn i hc with h1 | h1
        · have := (a2' i hi).2.1
          have := hbA.size
          omega
        · exact (a2 i hi).2.2 h1
      · rcases hc with hc | hc
        · have := (a3.lt g hg').1; omega
        · obtain ⟨cu, f1, hcu⟩ := own_cells a3 hg'
          obtain ⟨cv, f2, hcv⟩ := own_cells hA.row hc
          exact cells_cells hcu hcv (by decide) rfl
    · rw [List.mem_singleton.1 hzm]
      have ok : ∀ i, adB y i → ¬ (i = w.heap.size + 2 ∨ (Value.slice s.1 s.2.1 s.2.2).ownBlock = some i) := fun i hi' hc => by
        have := (ha i hi').1
        rcases hc with hc | hc
        · omega
        · have := (hge i hc).2; omega
      refine ⟨(hz.step hb34).kept k (adB.inf ok), fun i hi' => ⟨by have := (ha i hi').1; omega, Nat.lt_of_lt_of_le (Nat.lt_trans (ha i hi').2 hs4) hpt.size, fun hc => ?_⟩, k.own (own_mono (own_step hda hb34) hsA) fun g hg' hc => ?_⟩
      · rcases hnewOwn i hc with h1 | h1
        · have := (ha i hi').2; omega
        · have := (ha i hi').1
          have := (hge i h1).2
          omega
      · have h1 := (own_step hda hb34).lt g hg'
        rcases hc with hc | hc
        · omega
        · have := (hge g hc).2; omega
  · refine ((KpT.of_below hbA).trans (KpT.of_grown hg fun r hr => ?_)).trans (KpT.of_grown (grown_set w5 ⟨w.heap.size + 2, 0, none⟩ _) fun r hr => ?_)
    · obtain ⟨cv, f2, hcv⟩ := own_cells hA.row hr
      exact ⟨_, _, _, hcv, .inr (by unfold itT; decide)⟩
    · injection hr with hr
      subst hr
      exact ⟨_, _, _, ht, .inl (by show w.heap.size + 2 < N; omega)⟩
  · refine ((KeepsOthers.of_grownBy (row := none) ⟨hbA.os, hbA.tape, hbA.output, hbA.size, fun i hi _ => hbA.block i hi⟩ (fun _ _ e => by cases e)).trans (KeepsOthers.of_grownBy hg fun j o ej hj => ?_)).trans (KeepsOthers.setCell _ _ _)
    obtain ⟨cv, f2, hcv⟩ := own_cells hA.row ej
    rw [hcv] at hj
    cases hj
    rfl
end
end
section
open Go.RowKit

def noDefer (ops : Array Oper) : Bool := ops.all fun o => match o.op with | .defer _ => false | _ => true
theorem noDefer_spec {ops : Array Oper} (h : noDefer ops = true) {i : Nat} {o : Oper} (ho : ops[i]? = some o) : ∀ c, o.op ≠ .defer c := by
  intro c hc
  have hm : o ∈ ops := Array.mem_of_getElem? ho
  have := Array.all_eq_true_iff_forall_mem.1 h o hm
  rw [hc] at this
  cases this
section
variable {F : Fence} {n : Nat} {P : Program} {ops : Array Oper} {Q : Exit → Act → World → Prop} {md : Region.Mode} {l : Nat}
theorem wpIn_op_round {o : Oper} (hd : ∀ c, o.op ≠ .defer c) {a : Act} {w : World} {K : Act → World → Prop} (h : o.wpIn F n P a w K Q) : o.wpIn (F.inRound l) n P a w K Q := by
  unfold Oper.wpIn at *
  rw [Oper.semAt_eq _ _ _ hd] at h ⊢
  exact h
theorem wpAnyIn_round (hd : noDefer ops = true) : ∀ (fuel : Nat) (listed : Array Bool) (a : Act) (w : World), wpAnyIn F n P md ops Q fuel listed a w → wpAnyIn (F.inRound l) n P md ops Q fuel listed a w
  | 0, _, _, _, h => h
  | fuel + 1, listed, a, w, h => by
    refine ⟨h.1, fun i hi => ?_⟩
    have h2 := wpOpIn_mono (fun a' w' h' => wpAnyIn_round hd fuel _ a' w' h') (h.2 i hi)
    unfold wpOpIn at *
    cases ho : ops[i]? with
    | none => rw [ho] at h2; exact h2
    | some o =>
      rw [ho] at h2
      simp only at h2 ⊢
      split
      · rename_i hw
        rw [if_pos hw] at h2
        exact wpIn_op_round (noDefer_spec hd ho) h2
      · rename_i hw
        rw [if_neg hw] at h2
        exact h2
theorem wpIn_region_round {id : Nat} {a : Act} {w : World} (hm : P.follows .mixedOrders = true) (hd : noDefer ops = true)
    (h : wpAnyIn F n P .any ops Q ops.size (Array.replicate ops.size false) a w.drew) : (Code.region id ops true).wpIn (F.inRound l) n P Q a w :=
  wpIn_region_any hm (wpAnyIn_round hd _ _ _ _ h)
end
end
section
open Go.RowKit

section
variable {n : Nat} {P : Program} {ops : Array Oper} {Q : Exit → Act → World → Prop} {md : Region.Mode} {l : Nat} {S : World → Prop}
theorem rowsIn_wide_ {row : String} {args : Array Value} {w : World} {R : Value → World → Prop} (h : Rows P row args w R) : RowsIn Fence.wide n P row args w R := fun c cs _ => by
  obtain ⟨v, w', r, s⟩ := h c cs
  exact ⟨v, w', r, stepsIn_wide.2 s⟩
theorem upon_wide {o : Oper} {a : Act} {K : Act → World → Prop} {r : Result Next} (h : o.upon P a K Q r) : o.uponIn Fence.wide n P a K Q r := by
  unfold Oper.upon at h
  unfold Oper.uponIn
  split at h
  · exact h
  · exact h
  · exact h
  · exact ⟨(fun hh => by cases hh), callsIn_wide.2 h⟩
  · exact ⟨(fun hh => by cases hh), rowsIn_wide_ h⟩
  · exact h
  · exact h.elim
theorem op_wide {o : Oper} {a : Act} {w : World} {K : Act → World → Prop} (h : o.wp P a w K Q) : o.wpIn Fence.wide n P a w K Q := by
  unfold Oper.wpIn
  refine ⟨fun _ _ => trivial, ?_⟩
  show o.uponIn Fence.wide n P a K Q ((o.semAt none a.eval).run P w)
  have e : o.semAt none a.eval = execOp a.eval o := by simp [Oper.semAt]
  rw [e]
  exact upon_wide h
theorem wpOp_wide (hL : ¬ LetsOut Q) {i : Nat} {a : Act} {w : World} {K : Act → World → Prop} (h : wpOp P ops Q i K a w) : wpOpIn Fence.wide n P ops Q i K a w := by
  unfold wpOp at h
  unfold wpOpIn
  cases ho : ops[i]? with
  | none => rw [ho] at h; exact h
  | some o =>
    rw [ho] at h
    simp only at h ⊢
    split
    · rename_i hw
      rw [if_pos hw] at h
      rcases h with h | h
      · exact op_wide h
      · exact absurd h.2 hL
    · rename_i hw
      rw [if_neg hw] at h
      exact ⟨fun _ _ => trivial, h⟩
theorem wpAny_wide (hL : ¬ LetsOut Q) : ∀ (fuel : Nat) (listed : Array Bool) (a : Act) (w : World), wpAny P md ops Q fuel listed a w → wpAnyIn Fence.wide n P md ops Q fuel listed a w
  | 0, _, _, _, h => h
  | fuel + 1, listed, a, w, h => ⟨h.1, fun i hi => wpOpIn_mono (fun a' w' h' => wpAny_wide hL fuel _ a' w' h') (wpOp_wide hL (h.2 i hi))⟩
/-- S is held while it is walked. -/
theorem wpIn_region_held {id : Nat} {a : Act} {w : World} (hm : P.follows .mixedOrders = true) (hd : noDefer ops = true) (hL : ¬ LetsOut Q) (hS : S w.drew)
    (h : S w.drew → wpAnyH P .any ops Q S ops.size (Array.replicate ops.size false) a w.drew) : (Code.region id ops true).wpIn (Fence.wide.inRound l) n P Q a w :=
  wpIn_region_round hm hd (wpAny_wide hL _ _ _ _ (wpAny_of_held _ _ _ _ (h hS)))
/-- Nothing is held. -/
theorem wpIn_region_bare {id : Nat} {a : Act} {w : World} (hm : P.follows .mixedOrders = true) (hd : noDefer ops = true) (hL : ¬ LetsOut Q)
    (h : wpAny P .any ops Q ops.size (Array.replicate ops.size false) a w.drew) : (Code.region id ops true).wpIn (Fence.wide.inRound l) n P Q a w :=
  wpIn_region_round hm hd (wpAny_wide hL _ _ _ _ h)
end
end
end Go.Proofs.Ytffjdknmfmlfnaa
