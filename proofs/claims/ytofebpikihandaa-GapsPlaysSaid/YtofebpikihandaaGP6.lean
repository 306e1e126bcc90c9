/- The code's set and the document's, side by side. -/
import Derived.Test.YtofebpikihandaaGP5
import Derived.Test.YtofebpikihandaaGH
import Derived.Test.YtofebpikihandaaSq6
namespace Go.Proofs.Ytofebpikihandaa
open Go.RowKit Go.Maps
set_option linter.unusedVariables false

/-- Two sets apart, both of the call's own: what the code has, and what the document has. -/
structure BothAt (w0 w : World) (b k : Nat) (v : Value) (b2 g off c : Nat) (v2 : Value) (s t : St) : Prop where
  sa : SA w b k v s
  ra : RA w b2 g off c v2 t.f (mark t.L) t.T
  apart : ∀ i, Ow b k v i → ¬ Rb b2 g v2 i
  lo1 : ∀ i, Ow b k v i → w0.heap.size ≤ i
  lo2 : ∀ i, Rb b2 g v2 i → w0.heap.size ≤ i
  bel : Below w0.heap.size w0 w
def Both (w0 w : World) (b k b2 : Nat) (s t : St) : Prop := ∃ v g off c v2, BothAt w0 w b k v b2 g off c v2 s t
theorem Both.below {w0 w : World} {b k b2 : Nat} {s t : St} (h : Both w0 w b k b2 s t) : Below w0.heap.size w0 w := by
  obtain ⟨v, g, off, c, v2, h⟩ := h
  exact h.bel
theorem Both.step {w0 w w' : World} {b k b2 : Nat} {s t : St} (h : Both w0 w b k b2 s t) (hb : Below w.heap.size w w') : Both w0 w' b k b2 s t := by
  obtain ⟨v, g, off, c, v2, h⟩ := h
  exact ⟨v, g, off, c, v2, h.sa.step hb, h.ra.step hb, h.apart, h.lo1, h.lo2, h.bel.trans (hb.mono h.bel.size)⟩
theorem Both.drew {w0 w : World} {b k b2 : Nat} {s t : St} (h : Both w0 w b k b2 s t) : Both w0 w.drew b k b2 s t := h.step ⟨rfl, rfl, rfl, Nat.le_refl _, fun _ _ => rfl⟩
theorem Both.fit {w0 w : World} {b k b2 : Nat} {s t : St} (h : Both w0 w b k b2 s t) : Fit s.L := by
  obtain ⟨v, g, off, c, v2, h⟩ := h
  exact h.sa.map.1
theorem Both.c0 {w0 w : World} {b k b2 : Nat} {s t : St} (h : Both w0 w b k b2 s t) : w.cell? ⟨b2, 0, none⟩ = some (.int .u32 t.f) := by
  obtain ⟨v, g, off, c, v2, h⟩ := h
  exact h.ra.c0
theorem BothAt.turn {w0 w w' : World} {b k b2 g off c : Nat} {v v2 : Value} {s t s' : St} (h : BothAt w0 w b k v b2 g off c v2 s t) (ht : Turned w b k v s'.f s'.L s'.T w') : Both w0 w' b k b2 s' t := by
  obtain ⟨v', h1, h2, h3⟩ := ht
  have hnew : ∀ i, Ow b k v' i → Ow b k v i ∨ w.heap.size ≤ i := fun i hi => by
    rcases hi with hi | hi | hi
    · exact .inl (.inl hi)
    · exact .inl (.inr (.inl hi))
    · rcases h2 with h2 | h2 | ⟨x, h2, hx⟩
      · exact .inl (.inr (.inr (by rw [← h2]; exact hi)))
      · rw [h2] at hi
        simp [Value.ownBlock] at hi
      · rw [h2] at hi
        injection hi with hi
        exact .inr (by omega)
  refine ⟨v', g, off, c, v2, h1, h.ra.kept h3 fun i hi ho => h.apart i ho hi, fun i hi hr => ?_, fun i hi => ?_, h.lo2, h.bel.trans (h3.below h.bel.size fun i hi => h.lo1 i hi)⟩
  · rcases hnew i hi with ho | ho
    · exact h.apart i ho hr
    · have := h.ra.rw_lt hr
      omega
  · rcases hnew i hi with ho | ho
    · exact h.lo1 i ho
    · exact Nat.le_trans h.bel.size ho
theorem BothAt.rturn {w0 w w' : World} {b k b2 g off c : Nat} {v v2 : Value} {s t t' : St} (h : BothAt w0 w b k v b2 g off c v2 s t) (ht : RTurned w b2 g v2 t'.f (mark t'.L) t'.T w') : Both w0 w' b k b2 s t' := by
  obtain ⟨g', off', c', v', h1, hg, h2, h3⟩ := ht
  have hnew : ∀ i, Rb b2 g' v' i → Rb b2 g v2 i ∨ w.heap.size ≤ i := fun i hi => by
    rcases hi with hi | hi | hi
    · exact .inl (.inl hi)
    · rcases hg with hg | hg
      · exact .inl (.inr (.inl (by rw [hi, hg])))
      · exact .inr (by omega)
    · rcases h2 with h2 | h2 | ⟨x, h2, hx⟩
      · exact .inl (.inr (.inr (by rw [← h2]; exact hi)))
      · rw [h2] at hi
        simp [Value.ownBlock] at hi
      · rw [h2] at hi
        injection hi with hi
        exact .inr (by omega)
  refine ⟨v, g', off', c', v', h.sa.kept h3 fun i hi hr => h.apart i hi hr, h1, fun i hi hr => ?_, h.lo1, fun i hi => ?_, h.bel.trans (h3.below h.bel.size fun i hi => h.lo2 i hi)⟩
  · rcases hnew i hr with ho | ho
    · exact h.apart i hi ho
    · have := h.sa.ow_lt hi
      omega
  · rcases hnew i hi with ho | ho
    · exact h.lo2 i ho
    · exact Nat.le_trans h.bel.size ho

section
variable {w0 w : World} {b k b2 : Nat} {s t : St}
theorem Add_both (h : Both w0 w b k b2 s t) {n : Int} (n0 : 0 ≤ n) (n1 : n < 4294967296) :
    Calls Try.prog 8 #[.pointer (some ⟨b, 0, none⟩), .int .u32 n] w fun e w' => e = .returned (.int .i64 (s.told n)) ∧ Both w0 w' b k b2 (s.add n) t := by
  obtain ⟨v, g, off, c, v2, h⟩ := h
  exact (Add_set h.sa n0 n1).mono fun e w' he => ⟨he.1, h.turn he.2⟩
theorem refAdd_both (h : Both w0 w b k b2 s t) (hL : Fit t.L) {n : Int} (n0 : 0 ≤ n) (n1 : n < 4294967296) :
    Calls Try.prog 9 #[.pointer (some ⟨b2, 0, none⟩), .int .u32 n] w fun e w' => e = .returned (.int .i64 (t.told n)) ∧ Both w0 w' b k b2 s (t.add n) := by
  obtain ⟨v, g, off, c, v2, h⟩ := h
  exact (refAdd_set h.ra hL n0 n1).mono fun e w' he => ⟨he.1, h.rturn he.2⟩
theorem Forward_both (h : Both w0 w b k b2 s t) {n : Int} (n0 : 0 ≤ n) (n1 : n < 4294967296) :
    Calls Try.prog 10 #[.pointer (some ⟨b, 0, none⟩), .int .u32 n] w fun e w' => e = .returned (.tuple #[]) ∧ Both w0 w' b k b2 (s.fwd n) t := by
  obtain ⟨v, g, off, c, v2, h⟩ := h
  refine (Forward_set h.sa n0 n1).mono ?_
  rintro e w' ⟨rfl, h1, h2⟩
  exact ⟨rfl, h.turn ⟨v, h1, .inl rfl, h2.mono fun i hi => hi.elim .inl fun hi => .inr (.inl hi)⟩⟩
theorem refForward_both (h : Both w0 w b k b2 s t) (hL : Fit t.L) {n : Int} (n0 : 0 ≤ n) (n1 : n < 4294967296) :
    Calls Try.prog 11 #[.pointer (some ⟨b2, 0, none⟩), .int .u32 n] w fun e w' => e = .returned (.tuple #[]) ∧ Both w0 w' b k b2 s (t.fwd n) := by
  obtain ⟨v, g, off, c, v2, h⟩ := h
  exact (refForward_set h.ra hL n0 n1).mono fun e w' he => ⟨he.1, h.rturn he.2⟩
theorem Has_both (h : Both w0 w b k b2 s t) {n : Int} (n0 : 0 ≤ n) (n1 : n < 4294967296) :
    Calls Try.prog 21 #[.pointer (some ⟨b, 0, none⟩), .int .u32 n] w fun e w' => e = .returned (.bool (had s.f s.L n)) ∧ Below w.heap.size w w' := by
  obtain ⟨v, g, off, c, v2, h⟩ := h
  exact Has_set h.sa n0 n1
theorem refHas_both (h : Both w0 w b k b2 s t) (hL : Fit t.L) {n : Int} (n0 : 0 ≤ n) (n1 : n < 4294967296) :
    Calls Try.prog 22 #[.pointer (some ⟨b2, 0, none⟩), .int .u32 n] w fun e w' => e = .returned (.bool (had t.f t.L n)) ∧ Below w.heap.size w w' := by
  obtain ⟨v, g, off, c, v2, h⟩ := h
  exact (refHas_set h.ra hL n0 n1).mono fun e w' he => ⟨he.1, he.2 ▸ Below.refl _ _⟩
theorem Cum_both (h : Both w0 w b k b2 s t) :
    Calls Try.prog 15 #[.pointer (some ⟨b, 0, none⟩)] w fun e w' => e = .returned (.int .u32 s.f) ∧ Below w.heap.size w w' := by
  obtain ⟨v, g, off, c, v2, h⟩ := h
  exact (Cum_set h.sa).mono fun e w' he => ⟨he.1, he.2 ▸ Below.refl _ _⟩
theorem Len_both (h : Both w0 w b k b2 s t) :
    Calls Try.prog 16 #[.pointer (some ⟨b, 0, none⟩)] w fun e w' => e = .returned (.int .i64 (s.L.length : Int)) ∧ Below w.heap.size w w' := by
  obtain ⟨v, g, off, c, v2, h⟩ := h
  exact (Len_set h.sa).mono fun e w' he => ⟨he.1, he.2 ▸ Below.refl _ _⟩
theorem refLen_both (h : Both w0 w b k b2 s t) (hL : Fit t.L) :
    Calls Try.prog 17 #[.pointer (some ⟨b2, 0, none⟩)] w fun e w' => e = .returned (.int .i64 (t.L.length : Int)) ∧ Below w.heap.size w w' := by
  obtain ⟨v, g, off, c, v2, h⟩ := h
  have := refLen_set h.ra
  rw [cntm_mark hL] at this
  exact this.mono fun e w' he => ⟨he.1, he.2 ▸ Below.refl _ _⟩
theorem Blocks_both (h : Both w0 w b k b2 s t) (hl : s.L.length ≤ 255) :
    Calls Try.prog 19 #[.pointer (some ⟨b, 0, none⟩)] w fun e w' => ∃ A c, e = .returned (.slice A (runs s.L).length c) ∧ SR w' A (prs (runs s.L)) ∧ Below w.heap.size w w' := by
  obtain ⟨v, g, off, c, v2, h⟩ := h
  refine (Blocks_set sort_all h.sa hl).mono ?_
  rintro e w' ⟨A, c, rfl, h1, h2, h3⟩
  exact ⟨A, c, rfl, SR.own h2, h3⟩
theorem refBlocks_both (h : Both w0 w b k b2 s t) (hL : Fit t.L) :
    Calls Try.prog 20 #[.pointer (some ⟨b2, 0, none⟩)] w fun e w' => ∃ A c, e = .returned (.slice A (runs t.L).length c) ∧ SR w' A (prs (runs t.L)) ∧ Below w.heap.size w w' := by
  obtain ⟨v, g, off, c, v2, h⟩ := h
  refine (refBlocks_set h.ra hL).mono ?_
  rintro e w' ⟨A, c, rfl, h2, h3⟩
  exact ⟨A, c, rfl, SR.own h2, h3⟩
/-- The code's list of what was told twice, and the set that is left. -/
theorem Dups_both (h : Both w0 w b k b2 s t) :
    Calls Try.prog 13 #[.pointer (some ⟨b, 0, none⟩)] w fun e w' => ∃ A c, e = .returned (.slice A s.T.length c) ∧ SR w' A (u32s s.T) ∧ (∀ a, A = some a → a.block ≠ b2) ∧ Both w0 w' b k b2 ⟨s.f, s.L, []⟩ t := by
  obtain ⟨v, g, off, c, v2, h⟩ := h
  obtain ⟨A, c', hv, _⟩ := own_shape h.sa.row
  refine (Dups_set h.sa).mono ?_
  rintro e w' ⟨rfl, h1, h2, h3⟩
  have hb := h.turn (s' := ⟨s.f, s.L, []⟩) ⟨.slice none 0 0, h1, .inr (.inl rfl), h3.mono fun i hi => .inl hi⟩
  rw [hv] at h2 ⊢
  refine ⟨A, c', rfl, SR.own h2, fun a ha e => ?_, hb⟩
  subst ha
  have ho : Ow b k v a.block := .inr (.inr (by rw [hv]; rcases h2.2 with ⟨h0, _⟩ | ⟨g3, cap, cur, h0, _⟩ <;> injection h0 with h0 <;> cases h0; rfl))
  exact h.apart _ ho (.inl e)
theorem refDups_both (h : Both w0 w b k b2 s t) {A : Option Addr} {xs : List Value} (hs : SR w A xs) (hA : ∀ a, A = some a → a.block ≠ b2) :
    Calls Try.prog 14 #[.pointer (some ⟨b2, 0, none⟩)] w fun e w' => ∃ A2 c, e = .returned (.slice A2 t.T.length c) ∧ SR w' A2 (u32s t.T) ∧ SR w' A xs ∧ Both w0 w' b k b2 s ⟨t.f, t.L, []⟩ := by
  obtain ⟨v, g, off, c, v2, h⟩ := h
  obtain ⟨A2, c', hv, _⟩ := own_shape h.ra.row
  refine (refDups_set h.ra).mono ?_
  rintro e w' ⟨rfl, h1, h2, h3⟩
  have hb := h.rturn (t' := ⟨t.f, t.L, []⟩) ⟨g, off, c, .slice none 0 0, h1, .inl rfl, .inr (.inl rfl), h3.mono fun i hi => .inl hi⟩
  rw [hv] at h2 ⊢
  exact ⟨A2, c', rfl, SR.own h2, h3.sr hs fun a ha => hA a ha, hb⟩
end
theorem New_both (n : Int) (n0 : 0 ≤ n) (n1 : n < 4294967296) {w0 w : World} {b k : Nat} (hw : Below w0.heap.size w0 w) (h : SetAt w b k (.slice none 0 0) (wr (n - 1)) [] []) (hb : w0.heap.size ≤ b) (hk : w0.heap.size ≤ k) :
    Calls Try.prog 7 #[.int .u32 n] w fun e w' => ∃ b2, e = .returned (.pointer (some ⟨b2, 0, none⟩)) ∧ Both w0 w' b k b2 (St.new n) (St.new n) := by
  refine (refNew_any n n0 n1 w).mono ?_
  rintro e w' ⟨b2, g, c, rfl, h1, h2, h3, h4⟩
  have hlt := h.lt
  have hkl := h.map.lt
  refine ⟨b2, rfl, .slice none 0 0, g, 0, c, .slice none 0 0, h.step h4, h1, fun i hi hr => ?_, fun i hi => ?_, fun i hi => ?_, hw.trans (h4.mono hw.size)⟩
  · have hi2 : i < w.heap.size := h.ow_lt hi
    rcases hr with rfl | rfl | hr
    · omega
    · omega
    · simp [Value.ownBlock] at hr
  · rcases hi with rfl | rfl | hi
    · exact hb
    · exact hk
    · simp [Value.ownBlock] at hi
  · have := hw.size
    rcases hi with rfl | rfl | hi
    · omega
    · omega
    · simp [Value.ownBlock] at hi
end Go.Proofs.Ytofebpikihandaa
