/- A set of timers in memory: a cell that holds nil or a map, and the map holds the timers of a list. -/
import Derived.Test.YthnhmgdefmahkaaTMath
import Derived.Test.YthnhmgdefmahkaaMem
import Derived.Test.YthnhmgdefmahkaaProg
import Derived.Maps.RangeWalk
namespace Go.Proofs.Ythnhmgdefmahkaa
open Go.RowKit Go.Maps
set_option linter.unusedVariables false

/-- But for the blocks of S the world w' is as w was. -/
structure Part (S : Nat → Prop) (w w' : World) : Prop where
  os : w'.os = w.os
  tape : w'.tape = w.tape
  output : w'.output = w.output
  size : w.heap.size ≤ w'.heap.size
  block : ∀ k, k < w.heap.size → ¬ S k → w'.heap[k]? = w.heap[k]?

theorem Part.refl (S : Nat → Prop) (w : World) : Part S w w := ⟨rfl, rfl, rfl, Nat.le_refl _, fun _ _ _ => rfl⟩
theorem Part.trans {S S' : Nat → Prop} {a b c : World} (h : Part S a b) (k : Part S' b c) (hs : ∀ i, S' i → S i ∨ a.heap.size ≤ i) : Part S a c :=
  ⟨k.os.trans h.os, k.tape.trans h.tape, k.output.trans h.output, Nat.le_trans h.size k.size, fun i hi hn => (k.block i (Nat.lt_of_lt_of_le hi h.size) fun hc => by
    rcases hs i hc with h1 | h1
    · exact hn h1
    · omega).trans (h.block i hi hn)⟩
theorem Part.of_below {w w' : World} (S : Nat → Prop) (h : Below w.heap.size w w') : Part S w w' := ⟨h.os, h.tape, h.output, h.size, fun k hk _ => h.block k hk⟩
theorem Part.of_grown {w w' : World} {row : Option Nat} {S : Nat → Prop} (h : w.grownBy w' row) (hr : ∀ k, row = some k → S k) : Part S w w' :=
  ⟨h.os, h.tape, h.output, h.size, fun k hk hn => h.block k hk fun e => hn (hr k e.symm)⟩
theorem Part.below {S : Nat → Prop} {w w' : World} (h : Part S w w') {B : Nat} (hB : B ≤ w.heap.size) (hs : ∀ k, S k → B ≤ k) : Below B w w' :=
  ⟨h.os, h.tape, h.output, h.size, fun k hk => h.block k (by omega) fun hc => by have := hs k hc; omega⟩
theorem Part.mono {S S' : Nat → Prop} {w w' : World} (h : Part S w w') (hs : ∀ k, S k → S' k) : Part S' w w' := ⟨h.os, h.tape, h.output, h.size, fun k hk hn => h.block k hk fun hc => hn (hs k hc)⟩
theorem Part.new {S : Nat → Prop} {w w' : World} (h : Part S w w') (hs : ∀ k, S k → w.heap.size ≤ k) : Below w.heap.size w w' := h.below (Nat.le_refl _) hs
theorem Part.alloc {S : Nat → Prop} {a w : World} (h : Part S a w) (o : Obj) : Part S a (w.alloc o) :=
  h.trans (Part.of_below (fun _ => False) (below_lay w o)) fun _ hc => hc.elim
theorem Part.setCell {S : Nat → Prop} {a w : World} (h : Part S a w) {p : Addr} (hp : S p.block ∨ a.heap.size ≤ p.block) (u : Value) : Part S a (w.setCell p u) :=
  h.trans (S' := fun k => k = p.block) ⟨rfl, rfl, rfl, by simp [World.setCell], fun k _ hk => Below.heap_setCell _ _ _ _ hk⟩ fun i hi => by rw [hi]; exact hp
theorem Part.drew {S : Nat → Prop} {a w : World} (h : Part S a w) : Part S a w.drew := ⟨h.os, h.tape, h.output, h.size, h.block⟩
theorem Part.drewN {S : Nat → Prop} {a w : World} (h : Part S a w) (n : Nat) : Part S a (w.drewN n) := ⟨h.os, h.tape, h.output, h.size, h.block⟩
theorem Part.sr {S : Nat → Prop} {w w' : World} (h : Part S w w') {A : Option Addr} {xs : List Value} (hs : SR w A xs) (hA : ∀ a, A = some a → ¬ S a.block) : SR w' A xs := fun hx => by
  obtain ⟨b, o, e, hlt, hc⟩ := hs hx
  exact ⟨b, o, e, Nat.lt_of_lt_of_le hlt h.size, fun j u hu => (World.cell?_of_block (w := w) (a := ⟨b, o + j, none⟩) (h.block b hlt (hA _ e))).trans (hc j u hu)⟩
theorem Part.own {S : Nat → Prop} {w w' : World} (h : Part S w w') {base : Nat} {e : TypeId} {size : Nat} {v : Value} {n : Nat} {xs : List Value} (ho : w.ownsRow base e size v n xs) (hv : ∀ g, v.ownBlock = some g → ¬ S g) : w'.ownsRow base e size v n xs := by
  refine ⟨ho.1, ?_⟩
  rcases ho.2 with hn | ⟨g, cap, cur, rfl, hb, hgg, rest⟩
  · exact .inl hn
  · refine .inr ⟨g, cap, cur, rfl, hb, ?_, rest⟩
    rw [h.block g (Array.getElem?_eq_some_iff.1 hgg).1 (hv g (by simp [Value.ownBlock]))]
    exact hgg

/-- A number as a key, as an element. -/
abbrev K (x : Int) : Lit := .int .i64 x
abbrev Dat := DataW Nat
theorem K_key (x : Int) (h : (K x).wf = true) : keyOf Try.prog 3 (.int .i64 x) = some (K x) := keyOf_int_mk Try.underlying3 h
theorem keyed : Keyed Try.prog 3 := int_keyed Try.underlying3
theorem K_lit (x : Int) : WideAt.IsKeyLit (K x) := by simp [WideAt.IsKeyLit]
theorem K_inj {x y : Int} (h : K x = K y) : x = y := by injection h
theorem K_ne {x y : Int} (h : x ≠ y) : K x ≠ K y := fun e => h (K_inj e)

/-- The map D holds the timers of l. -/
structure Shows (D : Dat) (l : List (Int × Int)) : Prop where
  tidy : Tidy D
  size : Maps.size D = l.length
  there : ∀ id t, (id, t) ∈ l → ∀ z, D.atKey (K id) z = .lit (K t)
  away : ∀ id, (∀ t, (id, t) ∉ l) → has D (K id) = false

theorem Shows.nil : Shows (.map []) [] := ⟨tidy_empty, rfl, fun _ _ h => absurd h (List.not_mem_nil), fun _ _ => rfl⟩
theorem Shows.has_of {D : Dat} {l : List (Int × Int)} (h : Shows D l) {id t : Int} (hm : (id, t) ∈ l) : has D (K id) = true := has_true_of_atKey (h.there id t hm)
theorem Shows.hasL {D : Dat} {l : List (Int × Int)} (h : Shows D l) (id : Int) : has D (K id) = hasL l id := by
  cases hh : Ythnhmgdefmahkaa.hasL l id
  · exact h.away id (hasL_not.1 hh)
  · obtain ⟨t, ht⟩ := hasL_mem.1 hh
    exact h.has_of ht
theorem Shows.mem {D : Dat} {l : List (Int × Int)} (h : Shows D l) {id t : Int} (hd : ∀ z, D.atKey (K id) z = .lit (K t)) : (id, t) ∈ l := by
  have h1 : has D (K id) = true := has_true_of_atKey hd
  rw [h.hasL] at h1
  obtain ⟨t', ht⟩ := hasL_mem.1 h1
  have h2 := (h.there id t' ht .nil).symm.trans (hd .nil)
  simp only [DataW.lit.injEq, Lit.int.injEq, true_and] at h2
  rw [← h2]
  exact ht
theorem Shows.put {D : Dat} {l : List (Int × Int)} (h : Shows D l) (ho : Ord l) (id t : Int) : Shows (D.put (K id) (.lit (K t))) (startL l id t) := by
  refine ⟨h.tidy.put (K_lit id) _, ?_, fun i u hm z => ?_, fun i hi => ?_⟩
  · rw [size_put h.tidy, h.hasL, h.size, len_startL]
    cases hh : Ythnhmgdefmahkaa.hasL l id
    · rw [stopL_none fun p hp e => hasL_not.1 hh p.2 (by rw [← e]; exact hp)]
      simp
    · obtain ⟨t', ht⟩ := hasL_mem.1 hh
      have := stopL_len1 ho ht
      simp
      omega
  · rcases mem_startL.1 hm with e | ⟨e1, e2⟩
    · injection e with e1 e2
      subst e1 e2
      exact atKey_put_same h.tidy.isMap (K_lit i) _ z
    · rw [atKey_put_other (K_ne e2)]
      exact h.there i u e1 z
  · have hne : i ≠ id := fun e => hi t (mem_startL.2 (.inl (by rw [e])))
    rw [has_put_other (K_ne hne)]
    exact h.away i fun u hu => hi u (mem_startL.2 (.inr ⟨hu, hne⟩))
theorem Shows.del {D : Dat} {l : List (Int × Int)} (h : Shows D l) (ho : Ord l) (id : Int) : Shows (D.del (K id)) (stopL l id) := by
  refine ⟨h.tidy.del _, ?_, fun i u hm z => ?_, fun i hi => ?_⟩
  · have hs := size_del (k := K id) h.tidy
    rw [h.hasL, h.size] at hs
    cases hh : Ythnhmgdefmahkaa.hasL l id
    · rw [hh] at hs
      rw [stopL_none fun p hp e => hasL_not.1 hh p.2 (by rw [← e]; exact hp)]
      simpa using hs
    · obtain ⟨t', ht⟩ := hasL_mem.1 hh
      have := stopL_len1 ho ht
      rw [hh] at hs
      simp at hs
      omega
  · obtain ⟨e1, e2⟩ := mem_stopL.1 hm
    rw [atKey_del_other (K_ne e2)]
    exact h.there i u e1 z
  · by_cases hne : i = id
    · rw [hne]
      exact has_del_same
    · rw [has_del_other (K_ne hne)]
      exact h.away i fun u hu => hi u (mem_stopL.2 ⟨hu, hne⟩)

/-- Both numbers of each timer fit. -/
def Fits (l : List (Int × Int)) : Prop := ∀ p ∈ l, (K p.1).wf = true ∧ (K p.2).wf = true
theorem Fits.sub {l l' : List (Int × Int)} (h : Fits l) (k : ∀ p ∈ l', p ∈ l) : Fits l' := fun p hp => h p (k p hp)

/-- The map in block k holds the timers of l. -/
def MapAt (w : World) (k : Nat) (l : List (Int × Int)) : Prop := Ord l ∧ Fits l ∧ ∃ D : Dat, w.ownsMap Try.prog 3 (plainElem Try.prog 3) k l.length D ∧ Shows D l
/-- The block b is a set whose map lies in block m (none: nil): the timers of l. -/
def SetAt (w : World) (b : Nat) (m : Option Nat) (l : List (Int × Int)) : Prop :=
  w.heap[b]? = some (.cells #[.map m] 27 (0, 0)) ∧ match m with | none => l = [] | some k => MapAt w k l
def Ow (b : Nat) (m : Option Nat) (k : Nat) : Prop := k = b ∨ m = some k

theorem ownsMap_tight {w : World} {b n : Nat} {D : Dat} (h : w.ownsMap Try.prog 3 (plainElem Try.prog 3) b n D) : w.ownsMap Try.prog 3 (plainElem Try.prog 3) b (Maps.size D) D := by
  obtain ⟨es, clock, hb, F, hs, hD⟩ := h
  refine ⟨es, clock, hb, F, ?_, hD⟩
  rw [hD]
  simp [Maps.size, length_sorted]
theorem MapAt.of {w : World} {k n : Nat} {D : Dat} {l : List (Int × Int)} (h : w.ownsMap Try.prog 3 (plainElem Try.prog 3) k n D) (hs : Shows D l) (ho : Ord l) (hf : Fits l) : MapAt w k l :=
  ⟨ho, hf, D, by have := ownsMap_tight h; rwa [hs.size] at this, hs⟩
theorem MapAt.lt {w : World} {k : Nat} {l : List (Int × Int)} (h : MapAt w k l) : k < w.heap.size := by
  obtain ⟨_, _, D, hD, _⟩ := h
  exact hD.lt
theorem MapAt.kept {S : Nat → Prop} {w w' : World} {k : Nat} {l : List (Int × Int)} (h : MapAt w k l) (hp : Part S w w') (hk : ¬ S k) : MapAt w' k l := by
  have hlt := h.lt
  obtain ⟨h1, h2, D, ⟨es, clock, hb, r⟩, hs⟩ := h
  exact ⟨h1, h2, D, ⟨es, clock, (hp.block k hlt hk).trans hb, r⟩, hs⟩
theorem SetAt.lt {w : World} {b : Nat} {m : Option Nat} {l : List (Int × Int)} (h : SetAt w b m l) : b < w.heap.size := (Array.getElem?_eq_some_iff.1 h.1).1
theorem SetAt.ow_lt {w : World} {b : Nat} {m : Option Nat} {l : List (Int × Int)} (h : SetAt w b m l) {k : Nat} (hk : Ow b m k) : k < w.heap.size := by
  rcases hk with rfl | rfl
  · exact h.lt
  · exact MapAt.lt h.2
theorem SetAt.ne {w : World} {b k : Nat} {l : List (Int × Int)} (h : SetAt w b (some k) l) : k ≠ b := by
  rintro rfl
  obtain ⟨h0, _, _, D, ⟨es, clock, hb, _⟩, _⟩ := h
  rw [h0] at hb
  cases hb
theorem SetAt.ord {w : World} {b : Nat} {m : Option Nat} {l : List (Int × Int)} (h : SetAt w b m l) : Ord l := by
  rcases m with _ | k
  · have : l = [] := h.2
    rw [this]
    exact Ord.nil
  · exact h.2.1
theorem SetAt.fits {w : World} {b : Nat} {m : Option Nat} {l : List (Int × Int)} (h : SetAt w b m l) : Fits l := by
  rcases m with _ | k
  · have : l = [] := h.2
    rw [this]
    intro p hp
    cases hp
  · exact h.2.2.1
theorem SetAt.kept {S : Nat → Prop} {w w' : World} {b : Nat} {m : Option Nat} {l : List (Int × Int)} (h : SetAt w b m l) (hp : Part S w w') (hk : ∀ k, Ow b m k → ¬ S k) : SetAt w' b m l := by
  refine ⟨(hp.block b h.lt (hk b (.inl rfl))).trans h.1, ?_⟩
  rcases m with _ | k
  · exact h.2
  · exact MapAt.kept h.2 hp (hk k (.inr rfl))
theorem SetAt.step {w w' : World} {b : Nat} {m : Option Nat} {l : List (Int × Int)} (h : SetAt w b m l) (hp : Below w.heap.size w w') : SetAt w' b m l := h.kept (Part.of_below (fun _ => False) hp) fun _ _ hc => hc
theorem SetAt.cell {w : World} {b : Nat} {m : Option Nat} {l : List (Int × Int)} (h : SetAt w b m l) : w.cell? ⟨b, 0, none⟩ = some (.map m) := by
  rw [cell_of_row w b 0 _ _ _ h.1]
  rfl
theorem SetAt.frozen {w : World} {b : Nat} {m : Option Nat} {l : List (Int × Int)} (h : SetAt w b m l) : w.frozen? ⟨b, 0, none⟩ = false := by simp [World.frozen?, h.1]
/-- A set's zero value. -/
theorem SetAt.fresh (w : World) : SetAt (w.alloc (.cells #[.map none] 27)) w.heap.size none [] := ⟨heap_alloc_new w _, rfl⟩
end Go.Proofs.Ythnhmgdefmahkaa
