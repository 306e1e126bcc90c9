/- The floor never goes down; the runs above it lie apart, rising. -/
import Derived.Test.YtofebpikihandaaGI
namespace Go.Proofs.Ytofebpikihandaa
set_option linter.unusedVariables false

/-- No height is 1: that number would be the floor. -/
def Two (L : List Nat) : Prop := ∀ x ∈ L, 2 ≤ x
theorem two_put {s : St} (hL : Fit s.L) {h : Nat} (h1 : 1 ≤ h) (h2 : h ≤ 1024) : Two (s.put h).L := fun x hx => by
  have hf : Fit (insN h s.L) := ⟨hL.asc.ins h1, fun y hy => by
    rcases mem_insN.1 hy with rfl | hy
    · exact h2
    · exact hL.top y hy⟩
  exact hf.rise.shift_two x hx
theorem two_add {s : St} (hL : Fit s.L) (h : Two s.L) {n : Int} : Two (s.add n).L := by
  unfold St.add
  split
  · exact h
  · rename_i hh
    split
    · exact h
    · rename_i hf
      refine two_put hL ?_ (by omega)
      rcases Nat.eq_zero_or_pos (ht s.f n) with h0 | h0
      · exact absurd (had_iff.2 (.inl h0)) hh
      · exact h0
theorem two_fwd {s : St} (hL : Fit s.L) (h : Two s.L) {n : Int} : Two (s.fwd n).L := by
  unfold St.fwd
  split
  · exact (hL.shift _).rise.shift_two
  · exact h
theorem not_less_up {f : Int} {u : Nat} (h : u ≤ 2147483648) : less32 (wr (f + u)) f = false := by
  unfold less32 lessI
  apply decide_eq_false
  rintro ⟨h1, h2⟩
  unfold dist wr at h1 h2
  omega
theorem less_self (f : Int) : less32 f f = false := by
  unfold less32 lessI
  apply decide_eq_false
  rintro ⟨h1, h2⟩
  unfold dist at h1
  simp at h1
theorem put_not_less {s : St} (hL : Fit s.L) {h : Nat} (h1 : 1 ≤ h) (h2 : h ≤ 1024) : less32 (s.put h).f s.f = false := by
  have hf : Fit (insN h s.L) := ⟨hL.asc.ins h1, fun y hy => by
    rcases mem_insN.1 hy with rfl | hy
    · exact h2
    · exact hL.top y hy⟩
  have hu := hf.rise.le hf.top
  exact not_less_up (by omega)
theorem add_not_less {s : St} (hL : Fit s.L) {n : Int} : less32 (s.add n).f s.f = false := by
  unfold St.add
  split
  · exact less_self _
  · rename_i hh
    split
    · exact less_self _
    · refine put_not_less hL ?_ (by omega)
      rcases Nat.eq_zero_or_pos (ht s.f n) with h0 | h0
      · exact absurd (had_iff.2 (.inl h0)) hh
      · exact h0
theorem fwd_not_less {s : St} (hL : Fit s.L) {n : Int} (n0 : 0 ≤ n) (n1 : n < 4294967296) : less32 (s.fwd n).f s.f = false := by
  unfold St.fwd
  split
  · rename_i hh
    have hM := hL.shift (ht s.f n)
    have hu : riseL (shiftL (ht s.f n) s.L) ≤ 1024 - ht s.f n := hM.rise.le fun x hx => by
      have := mem_shiftL.1 hx
      have := hL.top _ this.2
      omega
    dsimp only
    obtain ⟨r, hr⟩ : ∃ r, riseL (shiftL (ht s.f n) s.L) = r := ⟨_, rfl⟩
    rw [hr] at hu ⊢
    have e : wr (n + (r : Int)) = wr (s.f + ((ht s.f n + r : Nat) : Int)) := by
      have h := up_ht (f := s.f) n0 n1
      rw [show s.f + ((ht s.f n + r : Nat) : Int) = (s.f + (ht s.f n : Int)) + (r : Int) by omega, ← wr_add (s.f + (ht s.f n : Int)), h]
    rw [e]
    exact not_less_up (by omega)
  · exact less_self _

/-- Runs, the last one first: each ends two ahead of the next one. -/
structure Rows (R : List (Nat × Nat)) : Prop where
  apart : R.Pairwise fun x y => y.2 + 2 ≤ x.1
  each : ∀ x ∈ R, 2 ≤ x.1 ∧ x.1 ≤ x.2
theorem rows_push {R : List (Nat × Nat)} {h : Nat} (hR : Rows R) (h2 : 2 ≤ h) (hu : ∀ x ∈ R, x.2 < h) : Rows (pushRun R h) ∧ ∀ x ∈ pushRun R h, x.2 ≤ h := by
  rcases R with _ | ⟨⟨a, b⟩, r⟩
  · refine ⟨⟨List.pairwise_singleton _ _, fun x hx => ?_⟩, fun x hx => ?_⟩ <;> simp [pushRun] at hx <;> subst hx <;> simp <;> omega
  · have hp := List.pairwise_cons.1 hR.apart
    have hab := hR.each (a, b) (List.mem_cons_self ..)
    have hb := hu (a, b) (List.mem_cons_self ..)
    dsimp only at hab hb
    by_cases e : h = b + 1
    · rw [push_on e]
      refine ⟨⟨List.pairwise_cons.2 ⟨hp.1, hp.2⟩, fun x hx => ?_⟩, fun x hx => ?_⟩
      · rcases List.mem_cons.1 hx with rfl | hx
        · exact ⟨hab.1, by dsimp only; omega⟩
        · exact hR.each x (List.mem_cons_of_mem _ hx)
      · rcases List.mem_cons.1 hx with rfl | hx
        · exact Nat.le_refl _
        · exact Nat.le_of_lt (hu x (List.mem_cons_of_mem _ hx))
    · rw [push_off e]
      refine ⟨⟨List.pairwise_cons.2 ⟨fun y hy => ?_, hR.apart⟩, fun x hx => ?_⟩, fun x hx => ?_⟩
      · rcases List.mem_cons.1 hy with rfl | hy
        · dsimp only; omega
        · have := hp.1 y hy
          dsimp only at this ⊢
          omega
      · rcases List.mem_cons.1 hx with rfl | hx
        · exact ⟨h2, Nat.le_refl _⟩
        · exact hR.each x hx
      · rcases List.mem_cons.1 hx with rfl | hx
        · exact Nat.le_refl _
        · exact Nat.le_of_lt (hu x hx)
theorem rows_fold : ∀ (L : List Nat) (R : List (Nat × Nat)), Rows R → (∀ h ∈ L, 2 ≤ h) → L.Pairwise (· < ·) → (∀ x ∈ R, ∀ h ∈ L, x.2 < h) → Rows (L.foldl pushRun R)
  | [], R, hR, _, _, _ => hR
  | h :: t, R, hR, h2, hp, hx => by
    have hq := List.pairwise_cons.1 hp
    have k := rows_push hR (h2 h (List.mem_cons_self ..)) (fun x hxx => hx x hxx h (List.mem_cons_self ..))
    exact rows_fold t _ k.1 (fun y hy => h2 y (List.mem_cons_of_mem _ hy)) hq.2 fun x hxx y hy => Nat.lt_of_le_of_lt (k.2 x hxx) (hq.1 y hy)
theorem rows_top (T : Nat) : ∀ (L : List Nat) (R : List (Nat × Nat)), (∀ x ∈ R, x.1 ≤ T ∧ x.2 ≤ T) → (∀ h ∈ L, h ≤ T) → ∀ x ∈ L.foldl pushRun R, x.1 ≤ T ∧ x.2 ≤ T
  | [], R, hR, _ => hR
  | h :: t, R, hR, hL => by
    refine rows_top T t (pushRun R h) (fun x hx => ?_) (fun y hy => hL y (List.mem_cons_of_mem _ hy))
    have hh := hL h (List.mem_cons_self ..)
    rcases R with _ | ⟨⟨a, b⟩, r⟩
    · simp [pushRun] at hx
      subst hx
      exact ⟨hh, hh⟩
    · have hab := hR (a, b) (List.mem_cons_self ..)
      by_cases e : h = b + 1
      · rw [push_on e] at hx
        rcases List.mem_cons.1 hx with rfl | hx
        · exact ⟨hab.1, hh⟩
        · exact hR x (List.mem_cons_of_mem _ hx)
      · rw [push_off e] at hx
        rcases List.mem_cons.1 hx with rfl | hx
        · exact ⟨hh, hh⟩
        · exact hR x hx
theorem runs_top {L : List Nat} (hL : ∀ h ∈ L, h ≤ 1024) {k f t : Nat} (hk : (runs L)[k]? = some (f, t)) : f ≤ 1024 ∧ t ≤ 1024 := by
  obtain ⟨hlt, hg⟩ := List.getElem?_eq_some_iff.1 hk
  have hm : (f, t) ∈ runs L := hg ▸ List.getElem_mem hlt
  exact rows_top 1024 L [] (fun x hx => absurd hx List.not_mem_nil) hL (f, t) (List.mem_reverse.1 (List.mem_of_mem_take hm))
/-- How far the runs ahead of the k-th go. -/
def lastTo (R : List (Nat × Nat)) (k : Nat) : Nat := if k = 0 then 0 else ((R[k - 1]?).getD (0, 0)).2
theorem runs_rise {L : List Nat} (hL : Asc L) (h2 : Two L) {k f t : Nat} (hk : (runs L)[k]? = some (f, t)) : lastTo (runs L) k + 2 ≤ f ∧ f ≤ t ∧ lastTo (runs L) (k + 1) = t := by
  have hR := rows_fold L [] ⟨List.Pairwise.nil, fun x hx => absurd hx List.not_mem_nil⟩ h2 hL.up (fun x hx => absurd hx List.not_mem_nil)
  have hp : (runs L).Pairwise fun x y => x.2 + 2 ≤ y.1 := (List.pairwise_reverse.2 hR.apart).sublist (List.take_sublist _ _)
  have he : ∀ x ∈ runs L, 2 ≤ x.1 ∧ x.1 ≤ x.2 := fun x hx => hR.each x (List.mem_reverse.1 (List.mem_of_mem_take hx))
  obtain ⟨hlt, hg⟩ := List.getElem?_eq_some_iff.1 hk
  have hm := he (f, t) (hg ▸ List.getElem_mem hlt)
  dsimp only at hm
  refine ⟨?_, hm.2, ?_⟩
  · unfold lastTo
    by_cases h0 : k = 0
    · rw [if_pos h0]
      omega
    · rw [if_neg h0, List.getElem?_eq_getElem (by omega)]
      have := List.pairwise_iff_getElem.1 hp (k - 1) k (by omega) hlt (by omega)
      rw [hg] at this
      exact this
  · unfold lastTo
    rw [if_neg (by omega), Nat.add_sub_cancel, hk]
    rfl
end Go.Proofs.Ytofebpikihandaa
