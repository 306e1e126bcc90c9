/- In whatever order: which of the first k numbers are still to come. -/
import Derived.Test.YtidolhhipdhknaaGI
namespace Go.Proofs.Ytidolhhipdhknaa
open Go.RowKit Go.Maps
set_option linter.unusedVariables false

/-- Of the first k numbers from a on all have come but those at the places R. -/
structure Come (a : Int) (k : Nat) (R : List Nat) (s : St) : Prop where
  nodup : R.Nodup
  sub : ∀ i ∈ R, i < k
  fit : Fit s.L
  two : ∀ x ∈ s.L, 2 ≤ x
  told : s.T.length = min (k - R.length) 64
  len : R.length ≤ k
  place : ∃ j : Nat, j ≤ k ∧ s.f = wr (a - 1 + j) ∧ ∀ i, (i < j ∨ (j ≤ i ∧ i - j + 1 ∈ s.L)) ↔ (i < k ∧ i ∉ R)

theorem Come.start (a : Int) (k : Nat) : Come a k (List.range k) (St.new a) := by
  refine ⟨List.nodup_range, fun i hi => List.mem_range.1 hi, Fit.nil, fun x hx => absurd hx List.not_mem_nil, by simp [St.new], by simp, 0, by omega, ?_, fun i => ?_⟩
  · simp [St.new]
  · simp [St.new]
/-- One of them comes, twice. -/
theorem Come.more {a : Int} {k : Nat} {R R' : List Nat} {s : St} (h : Come a k R s) (hk : k ≤ 127) {r : Nat} (hr : r ∈ R) (hn : R'.Nodup) (hm : ∀ i, i ∈ R' ↔ i ∈ R ∧ i ≠ r) (hl : R'.length + 1 = R.length) :
    s.told (wr (a + r)) = 0 ∧ (s.add (wr (a + r))).told (wr (a + r)) = 1 ∧ had ((s.add (wr (a + r))).add (wr (a + r))).f ((s.add (wr (a + r))).add (wr (a + r))).L (wr (a + r)) = true ∧ Come a k R' ((s.add (wr (a + r))).add (wr (a + r))) := by
  obtain ⟨j, hj, hf, hp⟩ := h.place
  have hrk := h.sub r hr
  have hno : ¬ (r < j ∨ (j ≤ r ∧ r - j + 1 ∈ s.L)) := fun c => ((hp r).1 c).2 hr
  have hjr : j ≤ r := by
    by_cases c : r < j
    · exact absurd (.inl c) hno
    · omega
  have hht : ht s.f (wr (a + r)) = r - j + 1 := by
    have := ht_up s.f (r - j + 1) (by omega)
    rw [← this]
    congr 1
    rw [hf, wr_add]
    congr 1
    omega
  have hh : had s.f s.L (wr (a + r)) = false := by
    cases c : had s.f s.L (wr (a + r))
    · rfl
    · rw [had_iff, hht] at c
      rcases c with c | c | c
      · omega
      · omega
      · exact absurd (.inr ⟨hjr, c⟩) hno
  have hadd : s.add (wr (a + r)) = s.put (r - j + 1) := by
    unfold St.add
    rw [hht, hh, if_neg (by simp), if_neg (by omega)]
  have hn2 : had (s.put (r - j + 1)).f (s.put (r - j + 1)).L (wr (a + r)) = true := by
    have := had_new h.fit (n := wr (a + r)) (by rw [hht]; omega) (by rw [hht]; omega)
    rwa [hht] at this
  have hadd2 : (s.put (r - j + 1)).add (wr (a + r)) = ⟨(s.put (r - j + 1)).f, (s.put (r - j + 1)).L, (s.T ++ [wr (a + r)]).take 64⟩ := by
    unfold St.add
    rw [if_pos hn2]
    rfl
  refine ⟨?_, ?_, ?_, ?_⟩
  · unfold St.told
    rw [hht, hh, if_neg (by simp), if_neg (by omega)]
  · rw [hadd]
    unfold St.told
    rw [if_pos hn2]
  · rw [hadd, hadd2]
    exact hn2
  · rw [hadd, hadd2]
    have hM := h.fit.ins (x := r - j + 1) (by omega) (by omega)
    have hR := hM.rise
    have hlen := h.len
    have key : ∀ i, (i < j + riseL (insN (r - j + 1) s.L) ∨ (j + riseL (insN (r - j + 1) s.L) ≤ i ∧ i - (j + riseL (insN (r - j + 1) s.L)) + 1 ∈ shiftL (riseL (insN (r - j + 1) s.L)) (insN (r - j + 1) s.L))) ↔ (i < k ∧ i ∉ R') := fun i => by
      generalize hu : riseL (insN (r - j + 1) s.L) = u at hR
      have e1 : (i < j + u ∨ (j + u ≤ i ∧ i - (j + u) + 1 ∈ shiftL u (insN (r - j + 1) s.L))) ↔ (i < j ∨ (j ≤ i ∧ i - j + 1 ∈ insN (r - j + 1) s.L)) := by
        rw [mem_shiftL]
        constructor
        · rintro (c | ⟨c, _, d⟩)
          · by_cases c2 : i < j
            · exact .inl c2
            · exact .inr ⟨by omega, hR.all _ (by omega) (by omega)⟩
          · exact .inr ⟨by omega, by rwa [show i - (j + u) + 1 + u = i - j + 1 by omega] at d⟩
        · rintro (c | ⟨c, d⟩)
          · exact .inl (by omega)
          · by_cases c2 : i < j + u
            · exact .inl c2
            · exact .inr ⟨by omega, by omega, by rwa [show i - (j + u) + 1 + u = i - j + 1 by omega]⟩
      rw [e1, mem_insN]
      have := hp i
      rw [hm]
      constructor
      · rintro (c | ⟨c, d | d⟩)
        · obtain ⟨x, y⟩ := this.1 (.inl c)
          exact ⟨x, fun z => y z.1⟩
        · have : i = r := by omega
          subst this
          exact ⟨hrk, fun z => z.2 rfl⟩
        · obtain ⟨x, y⟩ := this.1 (.inr ⟨c, d⟩)
          exact ⟨x, fun z => y z.1⟩
      · rintro ⟨c, d⟩
        by_cases e : i = r
        · subst e
          exact .inr ⟨hjr, .inl rfl⟩
        · rcases this.2 ⟨c, fun z => d ⟨z, e⟩⟩ with x | ⟨x, y⟩
          · exact .inl x
          · exact .inr ⟨x, .inr y⟩
    refine ⟨hn, fun i hi => h.sub i ((hm i).1 hi).1, hM.shift _, hR.shift_two, ?_, by omega, j + riseL (insN (r - j + 1) s.L), ?_, ?_, key⟩
    · simp only [List.length_take, List.length_append, List.length_singleton, h.told]
      omega
    · by_cases c : j + riseL (insN (r - j + 1) s.L) = 0
      · omega
      · have := ((key (j + riseL (insN (r - j + 1) s.L) - 1)).1 (.inl (by omega))).1
        omega
    · show wr (s.f + riseL (insN (r - j + 1) s.L)) = _
      rw [hf, wr_add]
      congr 1
      omega
/-- All have come. -/
theorem Come.all {a : Int} {k : Nat} {s : St} (h : Come a k [] s) : s.f = wr (a + k - 1) ∧ s.L = [] ∧ s.T.length = min k 64 := by
  obtain ⟨j, hj, hf, hp⟩ := h.place
  have hjk : j = k := by
    by_cases c : j < k
    · have := (hp j).2 ⟨c, List.not_mem_nil⟩
      rcases this with c | ⟨_, c⟩
      · omega
      · have := h.two _ c
        omega
    · omega
  refine ⟨?_, ?_, by rw [h.told]; simp⟩
  · rw [hf, hjk]
    congr 1
    omega
  · rcases hL : s.L with _ | ⟨x, r⟩
    · rfl
    · have hx : x ∈ s.L := by rw [hL]; simp
      have := h.two x hx
      have := ((hp (j + x - 1)).1 (.inr ⟨by omega, by rwa [show j + x - 1 - j + 1 = x by omega]⟩)).1
      omega
/-- The one at place p taken out. -/
theorem out_at {R : List Nat} (h : R.Nodup) {p r : Nat} (hp : R[p]? = some r) : (R.take p ++ R.drop (p + 1)).Nodup ∧ (∀ i, i ∈ R.take p ++ R.drop (p + 1) ↔ i ∈ R ∧ i ≠ r) ∧ (R.take p ++ R.drop (p + 1)).length + 1 = R.length := by
  obtain ⟨h1, h2⟩ := List.getElem?_eq_some_iff.1 hp
  have e : R = R.take p ++ r :: R.drop (p + 1) := by
    conv => lhs; rw [← List.take_append_drop p R]
    rw [List.drop_eq_getElem_cons h1, h2]
  have hn := h
  rw [e] at hn
  have hs : (R.take p ++ R.drop (p + 1)).Sublist R := by
    conv => rhs; rw [e]
    exact List.Sublist.append_left (List.sublist_cons_self _ _) _
  have hr : r ∉ R.take p ++ R.drop (p + 1) := by
    obtain ⟨_, h4, h5⟩ := List.nodup_append.1 hn
    intro hc
    rcases List.mem_append.1 hc with hc | hc
    · exact h5 r hc r (by simp) rfl
    · exact (List.nodup_cons.1 h4).1 hc
  refine ⟨h.sublist hs, fun i => ⟨fun hi => ⟨hs.mem hi, fun c => hr (by rw [← c]; exact hi)⟩, fun ⟨hi, hne⟩ => ?_⟩, ?_⟩
  · rw [e, List.mem_append, List.mem_cons] at hi
    rcases hi with hi | hi | hi
    · exact List.mem_append.2 (.inl hi)
    · exact absurd hi hne
    · exact List.mem_append.2 (.inr hi)
  · simp only [List.length_append, List.length_take, List.length_drop]
    omega
end Go.Proofs.Ytidolhhipdhknaa
