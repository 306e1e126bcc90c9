/- No message that is held is empty; so they are not many. -/
import Derived.WalkKit
import Derived.Test.YthpcblbciidmeaaJM3
namespace Go.Proofs.Ythpcblbciidmeaa
set_option linter.unusedVariables false

structure Ne (j : Jn) : Prop where
  s : ∀ p ∈ j.st, p.2.da ≠ []
  r : ∀ m ∈ j.rd, m.da ≠ []
theorem Ne.new (s : Int) : Ne (newJ s) := ⟨fun _ h => (by cases h), fun _ h => (by cases h)⟩
theorem Ne.pop {j : Jn} (h : Ne j) {s : Int} {m : Msg} (hm : hasS j.st s (j.nx s) = some m) : Ne (popJ j s m) :=
  ⟨fun p hp => h.s p (mem_delS.1 hp).1, fun x hx => by
    rcases List.mem_append.1 hx with hx | hx
    · exact h.r x hx
    · rw [List.mem_singleton.1 hx]
      exact h.s _ (hasS_some hm).1⟩
theorem Ne.tellN : ∀ (f : Nat) (j : Jn) (s : Int), Ne j → Ne (tellN f j s)
  | 0, j, s, h => h
  | f + 1, j, s, h => by
    unfold Go.Proofs.Ythpcblbciidmeaa.tellN
    cases hm : hasS j.st s (j.nx s) with
    | none => exact h
    | some m => exact Ne.tellN f _ s (h.pop hm)
theorem Ne.tell {j : Jn} (h : Ne j) (s : Int) : Ne (tell j s) := Ne.tellN _ j s h
theorem Ne.comes {j : Jn} (h : Ne j) {m : Msg} (hm : m.da ≠ []) (k : Int) : Ne (comes j m k) := by
  unfold Go.Proofs.Ythpcblbciidmeaa.comes
  split
  · exact ⟨h.s, fun x hx => by
      rcases List.mem_append.1 hx with hx | hx
      · exact h.r x hx
      · rw [List.mem_singleton.1 hx]; exact hm⟩
  · split
    · exact h
    · refine Ne.tell (j := { j with st := (k, m) :: j.st }) ⟨fun p hp => ?_, h.r⟩ _
      rcases List.mem_cons.1 hp with rfl | hp
      · exact hm
      · exact h.s p hp
theorem msgOf_ne {r l : List Ch} (h : Run l r) (hd : ∀ x ∈ l, x.da ≠ []) : (msgOf r).da ≠ [] := by
  cases r with
  | nil => have := h.wh; cases this
  | cons x s =>
    show (x :: s).flatMap Ch.da ≠ []
    rw [List.flatMap_cons]
    intro hc
    exact hd x (h.mem x List.mem_cons_self) (List.append_eq_nil_iff.1 hc).1
theorem Ne.came {j j' : Jn} (h : Ne j) (hw : Wf j) {c : Ch} (he : addE j c = 0) (hj : Came j c j') : Ne j' := by
  cases hj with
  | part _ => exact ⟨h.s, h.r⟩
  | all r hr hm =>
    refine Ne.comes (j := { j with ch := without r (c :: j.ch) }) ⟨h.s, h.r⟩ (msgOf_ne hr fun x hx => ?_) _
    rcases List.mem_cons.1 hx with rfl | hx
    · exact (addE_ok he).2.1
    · exact (hw.ok x hx).2.1
theorem Ne.add {j j' : Jn} {e : Int} (h : Ne j) (hw : Wf j) {c : Ch} (ha : AddR j c e j') : Ne j' := by
  obtain ⟨rfl, h1, h2⟩ := ha
  by_cases he : addE j c = 0
  · exact h.came hw he (h2 he)
  · rw [h1 he]; exact h
theorem Ne.go {j : Jn} (h : Ne j) (s : Int) : Ne (goJ j s) := by
  unfold goJ
  cases hm : hasS j.st s (j.nx s) with
  | none => exact ⟨h.s, h.r⟩
  | some m => exact h.pop hm
theorem Ne.goN : ∀ (f : Nat) (j : Jn) (s : Int), Ne j → Ne (goN f j s)
  | 0, j, s, h => h
  | f + 1, j, s, h => Ne.goN f _ s (h.go s)
theorem Ne.skip {j : Jn} (h : Ne j) (p : Int × Int) : Ne (skipJ j p) := by
  unfold skipJ
  split
  · exact h
  · exact (Ne.goN _ j p.1 h).tell _
theorem Ne.skips : ∀ (l : List (Int × Int)) (j : Jn), Ne j → Ne (l.foldl skipJ j)
  | [], j, h => h
  | p :: l, j, h => Ne.skips l _ (h.skip p)
theorem Ne.fwd {j : Jn} (h : Ne j) (n : Int) (l : List (Int × Int)) : Ne (fwdJ j n l) := Ne.skips l _ ⟨h.s, h.r⟩
theorem Ne.reset {j : Jn} (h : Ne j) (s : Int) : Ne (resetJ j s) := by
  unfold resetJ
  split
  · exact ⟨fun p hp => h.s p (List.mem_filter.1 hp).1, h.r⟩
  · exact h
theorem Ne.take {j : Jn} (h : Ne j) : Ne (takeJ j) := ⟨h.s, fun _ hx => (by cases hx)⟩
theorem few_rd : ∀ (l : List Msg), (∀ m ∈ l, m.da ≠ []) → l.length ≤ octM l
  | [], _ => Nat.le_refl _
  | m :: l, h => by
    have h1 := few_rd l fun x hx => h x (List.mem_cons_of_mem _ hx)
    have h2 : 0 < m.da.length := List.length_pos_iff.2 (h m List.mem_cons_self)
    unfold octM at h1 ⊢
    simp only [List.length_cons, List.map_cons, List.sum_cons]
    omega
theorem few_ch : ∀ (l : List Ch), (∀ m ∈ l, m.da ≠ []) → l.length ≤ octC l
  | [], _ => Nat.le_refl _
  | m :: l, h => by
    have h1 := few_ch l fun x hx => h x (List.mem_cons_of_mem _ hx)
    have h2 : 0 < m.da.length := List.length_pos_iff.2 (h m List.mem_cons_self)
    unfold octC at h1 ⊢
    simp only [List.length_cons, List.map_cons, List.sum_cons]
    omega
/-- All that is asked of what is held. -/
structure Good (j : Jn) : Prop where
  wf : Wf j
  ne : Ne j
  le : j.oct ≤ 65536
theorem Good.rd {j : Jn} (h : Good j) : j.rd.length ≤ 65536 := by
  have h1 := few_rd j.rd h.ne.r
  have h2 := h.le
  unfold Jn.oct at h2
  omega
theorem Good.ch {j : Jn} (h : Good j) : j.ch.length ≤ 65536 := by
  have h1 := few_ch j.ch fun x hx => (h.wf.ok x hx).2.1
  have h2 := h.le
  unfold Jn.oct at h2
  omega
theorem nodup_le {l : List Nat} (h : l.Nodup) {N : Nat} (hN : ∀ x ∈ l, x < N) : l.length ≤ N := by
  have h2 : ((List.range N).filter fun x => decide (x ∈ l)).Perm l := by
    refine (List.perm_ext_iff_of_nodup (List.nodup_range.filter _) h).2 fun x => ?_
    rw [List.mem_filter, List.mem_range]
    exact ⟨fun hx => of_decide_eq_true hx.2, fun hx => ⟨hN x hx, decide_eq_true hx⟩⟩
  have h3 := h2.length_eq
  have h4 := List.length_filter_le (fun x => decide (x ∈ l)) (List.range N)
  rw [h3, List.length_range] at h4
  exact h4
/-! ### How many wait on one stream -/
def stc (l : List (Int × Msg)) (s : Int) : Nat := (l.filter fun p => decide (p.2.st = s)).length
theorem stc_le {l : List (Int × Msg)} (hk : KeysS l) (hr : ∀ p ∈ l, 0 ≤ p.1 ∧ p.1 < 65536) (s : Int) : stc l s ≤ 65536 := by
  have h1 : ((l.filter fun p => decide (p.2.st = s)).map fun p => p.1.toNat).Nodup := by
    unfold List.Nodup
    rw [List.pairwise_map]
    refine (hk.filter fun p => decide (p.2.st = s)).imp_of_mem fun {a b} ha hb hab e => hab ?_
    obtain ⟨ha1, ha2⟩ := List.mem_filter.1 ha
    obtain ⟨hb1, hb2⟩ := List.mem_filter.1 hb
    have := hr a ha1
    have := hr b hb1
    exact ⟨by omega, (of_decide_eq_true ha2).trans (of_decide_eq_true hb2).symm⟩
  have h2 := nodup_le h1 (N := 65536) fun x hx => by
    obtain ⟨p, hp, rfl⟩ := List.mem_map.1 hx
    have := hr p (List.mem_filter.1 hp).1
    omega
  rw [List.length_map] at h2
  exact h2
theorem stc_cons (l : List (Int × Msg)) (k : Int) (m : Msg) (s : Int) : stc ((k, m) :: l) s = if m.st = s then stc l s + 1 else stc l s := by
  unfold stc
  by_cases h : m.st = s
  · rw [if_pos h, List.filter_cons_of_pos (by simpa using h)]
    rfl
  · rw [if_neg h, List.filter_cons_of_neg (by simpa using h)]
theorem stc_del {l : List (Int × Msg)} (hk : KeysS l) (s k t : Int) : stc (delS l s k) t = stc l t - if t = s ∧ (hasS l s k).isSome = true then 1 else 0 := by
  by_cases ht : t = s
  · subst ht
    cases hm : hasS l t k with
    | none =>
      have : delS l t k = l := by
        unfold delS
        rw [List.filter_eq_self]
        intro p hp
        cases hi : isS t k p
        · rfl
        · obtain ⟨a, b⟩ := isS_iff.1 hi
          exact absurd b (hasS_none.1 hm p.2 (by rw [← a]; exact hp))
      rw [this, if_neg (by simp)]
      rfl
    | some m =>
      rw [if_pos ⟨rfl, rfl⟩]
      have h1 := (delS_one (hk.filter fun p => decide (p.2.st = t)) (s := t) (k := k) (m := m) ?_).2
      · unfold stc
        have e : (delS l t k).filter (fun p => decide (p.2.st = t)) = delS (l.filter fun p => decide (p.2.st = t)) t k := by
          unfold delS
          rw [List.filter_filter, List.filter_filter]
          congr 1
          funext p
          exact Bool.and_comm _ _
        rw [e]
        omega
      · obtain ⟨h2, h3⟩ := hasS_some hm
        exact hasS_of (hk.filter _) (List.mem_filter.2 ⟨h2, decide_eq_true h3⟩) h3
  · rw [if_neg fun h => ht h.1]
    unfold stc delS
    rw [List.filter_filter]
    congr 1
    refine List.filter_congr fun p _ => ?_
    by_cases h : p.2.st = t
    · have : isS s k p = false := by
        cases hi : isS s k p
        · rfl
        · exact absurd (h.symm.trans (isS_iff.1 hi).2) ht
      simp [h, this]
    · simp [h]
theorem without_sub {s : List Ch} {l : List Ch} : ∀ x ∈ without s l, x ∈ l := fun x hx => (mem_without.1 hx).1
end Go.Proofs.Ythpcblbciidmeaa
