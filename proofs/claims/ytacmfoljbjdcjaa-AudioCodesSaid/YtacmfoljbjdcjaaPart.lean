/- What a call writes and what it leaves alone: but for the blocks of S the world is as it was. -/
import Derived.Test.YtacmfoljbjdcjaaMem
import Derived.Maps.RangeWalk
namespace Go.Proofs.Ytacmfoljbjdcjaa
open Go.RowKit Go.Maps
set_option linter.unusedVariables false

/-- But for the blocks of S the world w' is as w was. -/
structure Part (S : Nat → Prop) (w w' : World) : Prop where
  os : w'.os = w.os
  tape : w'.tape = w.tape
  output : w'.output = w.output
  size : w.heap.size ≤ w'.heap.size
  block : ∀ k, k < w.heap.size → ¬ S k → w'.heap[k]? = w.heap[k]?

theorem Part.refl (S : Nat → Prop) (w : World) : Part S w w := ⟨rfl, rfl, rfl, Nat.le_refl _, fun _ _ _ => rfl⟩
theorem Part.trans {S S' : Nat → Prop} {a b c : World} (h : Part S a b) (k : Part S' b c) (hs : ∀ i, S' i → S i ∨ a.heap.size ≤ i) : Part S a c :=
  ⟨k.os.trans h.os, k.tape.trans h.tape, k.output.trans h.output, Nat.le_trans h.size k.size, fun i hi hn => (k.block i (Nat.lt_of_lt_of_le hi h.size) fun hc => by
    rcases hs i hc with h1 | h1
    · exact hn h1
    · omega).trans (h.block i hi hn)⟩
theorem Part.of_below {w w' : World} (S : Nat → Prop) (h : Below w.heap.size w w') : Part S w w' := ⟨h.os, h.tape, h.output, h.size, fun k hk _ => h.block k hk⟩
theorem Part.of_grown {w w' : World} {row : Option Nat} {S : Nat → Prop} (h : w.grownBy w' row) (hr : ∀ k, row = some k → S k) : Part S w w' :=
  ⟨h.os, h.tape, h.output, h.size, fun k hk hn => h.block k hk fun e => hn (hr k e.symm)⟩
theorem Part.below {S : Nat → Prop} {w w' : World} (h : Part S w w') {B : Nat} (hB : B ≤ w.heap.size) (hs : ∀ k, S k → B ≤ k) : Below B w w' :=
  ⟨h.os, h.tape, h.output, h.size, fun k hk => h.block k (by omega) fun hc => by have := hs k hc; omega⟩
theorem Part.mono {S S' : Nat → Prop} {w w' : World} (h : Part S w w') (hs : ∀ k, S k → S' k) : Part S' w w' := ⟨h.os, h.tape, h.output, h.size, fun k hk hn => h.block k hk fun hc => hn (hs k hc)⟩
theorem Part.new {S : Nat → Prop} {w w' : World} (h : Part S w w') (hs : ∀ k, S k → w.heap.size ≤ k) : Below w.heap.size w w' := h.below (Nat.le_refl _) hs
theorem Part.alloc {S : Nat → Prop} {a w : World} (h : Part S a w) (o : Obj) : Part S a (w.alloc o) :=
  h.trans (Part.of_below (fun _ => False) (below_lay w o)) fun _ hc => hc.elim
theorem Part.setCell {S : Nat → Prop} {a w : World} (h : Part S a w) {p : Addr} (hp : S p.block ∨ a.heap.size ≤ p.block) (u : Value) : Part S a (w.setCell p u) :=
  h.trans (S' := fun k => k = p.block) ⟨rfl, rfl, rfl, by simp [World.setCell], fun k _ hk => Below.heap_setCell _ _ _ _ hk⟩ fun i hi => by rw [hi]; exact hp
theorem Part.drew {S : Nat → Prop} {a w : World} (h : Part S a w) : Part S a w.drew := ⟨h.os, h.tape, h.output, h.size, h.block⟩
theorem Part.drewN {S : Nat → Prop} {a w : World} (h : Part S a w) (n : Nat) : Part S a (w.drewN n) := ⟨h.os, h.tape, h.output, h.size, h.block⟩
theorem Part.sr {S : Nat → Prop} {w w' : World} (h : Part S w w') {A : Option Addr} {xs : List Value} (hs : SR w A xs) (hA : ∀ a, A = some a → ¬ S a.block) : SR w' A xs := fun hx => by
  obtain ⟨b, o, e, hlt, hc⟩ := hs hx
  exact ⟨b, o, e, Nat.lt_of_lt_of_le hlt h.size, fun j u hu => (World.cell?_of_block (w := w) (a := ⟨b, o + j, none⟩) (h.block b hlt (hA _ e))).trans (hc j u hu)⟩
theorem Part.own {S : Nat → Prop} {w w' : World} (h : Part S w w') {base : Nat} {e : TypeId} {size : Nat} {v : Value} {n : Nat} {xs : List Value} (ho : w.ownsRow base e size v n xs) (hv : ∀ g, v.ownBlock = some g → ¬ S g) : w'.ownsRow base e size v n xs := by
  refine ⟨ho.1, ?_⟩
  rcases ho.2 with hn | ⟨g, cap, cur, rfl, hb, hgg, rest⟩
  · exact .inl hn
  · refine .inr ⟨g, cap, cur, rfl, hb, ?_, rest⟩
    rw [h.block g (Array.getElem?_eq_some_iff.1 hgg).1 (hv g (by simp [Value.ownBlock]))]
    exact hgg
theorem grown_set (w : World) (a : Addr) (u : Value) : w.grownBy (w.setCell a u) (some a.block) :=
  ⟨rfl, rfl, rfl, by simp [World.setCell], fun i _ hi => Below.heap_setCell _ _ _ _ fun e => hi (by rw [e])⟩
end Go.Proofs.Ytacmfoljbjdcjaa
