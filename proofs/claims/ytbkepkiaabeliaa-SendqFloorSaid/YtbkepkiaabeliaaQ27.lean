/- What lies where while an answer is taken in. -/
import Derived.Test.YtbkepkiaabeliaaQ26
namespace Go.Proofs.Ytbkepkiaabeliaa
open Go.RowKit Go.Maps
set_option linter.unusedVariables false

/-- Behind what went away: the queue with entries es; what is gone; the two results; what is deferred. -/
structure AkW (w : World) (G G1 : Gq) (nx : Int) (mg : Nat → Mg) (gone : List En) (g : SL) (rB D : Nat) (es : List En) (b sa : Int) (lo mo : Bool) (W : World) : Prop where
  qa : QA W G1 ⟨es, nx, mg⟩
  pt : Part G.O w W
  gn : ES W g gone
  rs : RsB W rB b sa lo mo
  rb : RsB W (w.heap.size + 1) 0 0 false false
  dd : W.heap[D]? = some (.deferred (some []))
section
variable {w : World} {G G1 : Gq} {nx : Int} {mg : Nat → Mg} {gone es : List En} {g : SL} {rB D : Nat} {b sa : Int} {lo mo : Bool} {W W' : World}
theorem AkW.step (h : AkW w G G1 nx mg gone g rB D es b sa lo mo W) (hb : Below W.heap.size W W') : AkW w G G1 nx mg gone g rB D es b sa lo mo W' :=
  ⟨h.qa.step hb, h.pt.trans (Part.of_below (fun _ => False) hb) fun i hi => hi.elim, h.gn.step hb, h.rs.step hb, h.rb.step hb, (hb.block _ (Array.getElem?_eq_some_iff.1 h.dd).1).trans h.dd⟩
/-- Entries of the queue were written. -/
theorem AkW.part (h : AkW w G G1 nx mg gone g rB D es b sa lo mo W) {L es' : List En} (hp : Part (fun i => ∃ e ∈ L, e.p = i) W W') (hq : QA W' G1 ⟨es', nx, mg⟩) (hL : ∀ e ∈ L, G.O e.p ∧ e.p < w.heap.size ∧ (∃ cs t fr, W.heap[e.p]? = some (.cells cs t fr)) ∧ ∀ x ∈ gone, x.p ≠ e.p) (hrB : w.heap.size ≤ rB) (hg : InF (fun i => w.heap.size ≤ i) g.1) :
    AkW w G G1 nx mg gone g rB D es' b sa lo mo W' := by
  have k := Kpt.of_part (ok := fun i => ¬ ∃ e ∈ L, e.p = i) hp fun _ h => h
  have lo_ : ∀ i, w.heap.size ≤ i → ¬ ∃ e ∈ L, e.p = i := fun i hi ⟨e, he, hh⟩ => by have := (hL e he).2.1; omega
  refine ⟨hq, h.pt.trans hp fun i ⟨e, he, hh⟩ => .inl (hh ▸ (hL e he).1), h.gn.part hp (fun a ea => lo_ _ (hg a ea)) fun x hx ⟨e, he, hh⟩ => (hL e he).2.2.2 x hx hh.symm, k.cells _ _ _ _ (lo_ _ hrB) h.rs, k.cells _ _ _ _ (lo_ _ (by omega)) h.rb, ?_⟩
  refine (hp.block _ (Array.getElem?_eq_some_iff.1 h.dd).1 fun ⟨e, he, hh⟩ => ?_).trans h.dd
  obtain ⟨cs, t, fr, hc⟩ := (hL e he).2.2.1
  rw [hh, h.dd] at hc
  cases hc
/-- The result is written. -/
theorem AkW.set (h : AkW w G G1 nx mg gone g rB D es b sa lo mo W) (hO : ∀ i, G1.O i → i < w.heap.size) (hF : ∀ i, G1.F i → i < w.heap.size) (hrB : w.heap.size + 1 < rB) (hg : InF (fun i => i ≠ rB) g.1) (hge : ∀ x ∈ gone, x.p < w.heap.size) (j : Nat) (v : Value) {b' sa' : Int} {lo' mo' : Bool} (he : (#[.int .i64 b, .int .i64 sa, .bool lo, .bool mo] : Array Value).setIfInBounds j v = #[.int .i64 b', .int .i64 sa', .bool lo', .bool mo']) :
    AkW w G G1 nx mg gone g rB D es b' sa' lo' mo' (W.setCell ⟨rB, j, none⟩ v) := by
  have hp := part_set W rB j v
  refine ⟨h.qa.apart hp (fun i hi e => by have := hO i hi; omega) (fun i hi e => by have := hF i hi; omega), h.pt.trans hp fun i hi => .inr (by omega), h.gn.part hp hg fun x hx e => by have := hge x hx; omega, ?_, set_other h.rb (by omega), ?_⟩
  · have := heap_setCell_same W rB j _ _ v h.rs
    rw [he] at this
    exact this
  · refine (hp.block _ (Array.getElem?_eq_some_iff.1 h.dd).1 fun e => ?_).trans h.dd
    have h1 := h.dd
    rw [e, show W.heap[rB]? = _ from h.rs] at h1
    cases h1
end
/-- What Ack leaves. -/
structure AckP (w : World) (G : Gq) (q : Qm) (cum : Int) (bl : List (Int × Int)) (w' : World) : Prop where
  qa : QA w' (cutG G (stp q cum)) (ackQ q cum bl)
  lt : Ltr w G w' (cutG G (stp q cum))
/-- The difference of times, entry by entry. -/
structure SmI (Wb : World) (g : SL) (now : Int) (gone : List En) (mo : Bool) (i : Nat) (A : World) : Prop where
  bl : Below Wb.heap.size Wb A
  ib : InB (Wb.heap.size + 1) g [1, 2] A
  rs : RsB A Wb.heap.size 0 (smp now gone i) false mo
theorem SmI.st {Wb : World} {g : SL} {now : Int} {gone : List En} {mo : Bool} {i : Nat} {A B : World} (h : SmI Wb g now gone mo i A) {N : Nat} (k : StN N A B) (hN : Wb.heap.size ≤ N) : SmI Wb g now gone mo i B := ⟨k.below h.bl hN, h.ib.st k, k.cells h.rs⟩
theorem smp_next {now : Int} {es : List En} {i : Nat} {e : En} (he : es[i]? = some e) : smp now es (i + 1) = if (e.st = 1 ∨ e.st = 2) ∧ e.sn = 1 then IntKind.i64.wrap (now - e.la) else smp now es i := by rw [smp, he]
end Go.Proofs.Ytbkepkiaabeliaa
