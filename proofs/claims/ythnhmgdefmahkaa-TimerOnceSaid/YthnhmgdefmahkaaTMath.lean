/- Timers as a list in the order in which they are due: (id, time), plain lists of numbers. -/
import Derived.WalkKit
namespace Go.Proofs.Ythnhmgdefmahkaa
set_option linter.unusedVariables false

/-- p is due ahead of q. -/
def bef (p q : Int × Int) : Bool := decide (p.2 < q.2 ∨ (p.2 = q.2 ∧ p.1 < q.1))
theorem bef_iff (p q : Int × Int) : bef p q = true ↔ p.2 < q.2 ∨ (p.2 = q.2 ∧ p.1 < q.1) := by unfold bef; simp
theorem bef_no (p q : Int × Int) : bef p q = false ↔ ¬ (p.2 < q.2 ∨ (p.2 = q.2 ∧ p.1 < q.1)) := by unfold bef; simp
theorem bef_trans {p q r : Int × Int} (h : bef p q = true) (k : bef q r = true) : bef p r = true := by rw [bef_iff] at *; omega
theorem bef_total {p q : Int × Int} (h : p.1 ≠ q.1) : bef p q = true ∨ bef q p = true := by rw [bef_iff, bef_iff]; omega
theorem bef_anti {p q : Int × Int} (h : bef p q = false) (k : bef q p = false) : p = q := by rw [bef_no] at *; exact Prod.ext (by omega) (by omega)

/-- In the order in which they are due, no id twice. -/
structure Ord (l : List (Int × Int)) : Prop where
  sorted : l.Pairwise (fun p q => bef p q = true)
  apart : l.Pairwise (fun p q => p.1 ≠ q.1)

theorem Ord.nil : Ord [] := ⟨List.Pairwise.nil, List.Pairwise.nil⟩
theorem Ord.sub {l l' : List (Int × Int)} (h : Ord l) (k : l'.Sublist l) : Ord l' := ⟨h.sorted.sublist k, h.apart.sublist k⟩
theorem Ord.one {l : List (Int × Int)} (h : Ord l) {p q : Int × Int} (hp : p ∈ l) (hq : q ∈ l) (e : p.1 = q.1) : p = q := by
  induction l with
  | nil => cases hp
  | cons x r ih =>
    have h1 := List.pairwise_cons.1 h.apart
    rcases List.mem_cons.1 hp with rfl | hp' <;> rcases List.mem_cons.1 hq with rfl | hq'
    · rfl
    · exact absurd e (h1.1 _ hq')
    · exact absurd e.symm (h1.1 _ hp')
    · exact ih (h.sub (List.sublist_cons_self x r)) hp' hq'

/-- Without the timer id. -/
def stopL (l : List (Int × Int)) (id : Int) : List (Int × Int) := l.filter fun p => decide (p.1 ≠ id)
theorem mem_stopL {l : List (Int × Int)} {id : Int} {p : Int × Int} : p ∈ stopL l id ↔ p ∈ l ∧ p.1 ≠ id := by simp [stopL]
theorem Ord.stop {l : List (Int × Int)} (h : Ord l) (id : Int) : Ord (stopL l id) := h.sub List.filter_sublist
theorem stopL_none {l : List (Int × Int)} {id : Int} (h : ∀ p ∈ l, p.1 ≠ id) : stopL l id = l := List.filter_eq_self.2 fun p hp => by simpa using h p hp
theorem stopL_len (l : List (Int × Int)) (id : Int) : (stopL l id).length ≤ l.length := List.length_filter_le _ _
theorem stopL_len1 {l : List (Int × Int)} (h : Ord l) {id : Int} {t : Int} (hm : (id, t) ∈ l) : (stopL l id).length + 1 = l.length := by
  induction l with
  | nil => cases hm
  | cons x r ih =>
    have h1 := List.pairwise_cons.1 h.apart
    by_cases hx : x.1 = id
    · have : stopL r id = r := stopL_none fun p hp e => h1.1 p hp (by rw [e, hx])
      unfold stopL at *
      rw [List.filter_cons, if_neg (by simp [hx]), this]
      rfl
    · have hm' : (id, t) ∈ r := by
        rcases List.mem_cons.1 hm with e | e
        · exact absurd (by rw [← e]) hx
        · exact e
      have := ih (h.sub (List.sublist_cons_self x r)) hm'
      unfold stopL at *
      rw [List.filter_cons, if_pos (by simp [hx])]
      simp only [List.length_cons]
      omega

/-- p at its place. -/
def insL (l : List (Int × Int)) (p : Int × Int) : List (Int × Int) := l.takeWhile (fun q => bef q p) ++ p :: l.dropWhile (fun q => bef q p)
theorem mem_insL {l : List (Int × Int)} {p q : Int × Int} : q ∈ insL l p ↔ q = p ∨ q ∈ l := by
  unfold insL
  conv => rhs; rw [← List.takeWhile_append_dropWhile (p := fun q => bef q p) (l := l)]
  simp only [List.mem_append, List.mem_cons]
  constructor <;> rintro (h | h | h) <;> simp [h]
theorem len_insL (l : List (Int × Int)) (p : Int × Int) : (insL l p).length = l.length + 1 := by
  unfold insL
  have := congrArg List.length (List.takeWhile_append_dropWhile (p := fun q => bef q p) (l := l))
  simp only [List.length_append, List.length_cons] at *
  omega
theorem Ord.ins {l : List (Int × Int)} (h : Ord l) {p : Int × Int} (hp : ∀ q ∈ l, q.1 ≠ p.1) : Ord (insL l p) := by
  induction l with
  | nil => exact ⟨List.pairwise_singleton _ _, List.pairwise_singleton _ _⟩
  | cons x r ih =>
    have hs := List.pairwise_cons.1 h.sorted
    have ha := List.pairwise_cons.1 h.apart
    cases hx : bef x p
    · have e : insL (x :: r) p = p :: x :: r := by simp [insL, hx]
      have hpx : bef p x = true := (bef_total (hp x (by simp)).symm).resolve_right (by simp [hx])
      rw [e]
      refine ⟨List.pairwise_cons.2 ⟨fun q hq => ?_, h.sorted⟩, List.pairwise_cons.2 ⟨fun q hq => (hp q hq).symm, h.apart⟩⟩
      rcases List.mem_cons.1 hq with rfl | hq'
      · exact hpx
      · exact bef_trans hpx (hs.1 q hq')
    · have e : insL (x :: r) p = x :: insL r p := by simp [insL, hx]
      have := ih (h.sub (List.sublist_cons_self x r)) fun q hq => hp q (by simp [hq])
      rw [e]
      refine ⟨List.pairwise_cons.2 ⟨fun q hq => ?_, this.sorted⟩, List.pairwise_cons.2 ⟨fun q hq => ?_, this.apart⟩⟩
      · rcases mem_insL.1 hq with rfl | hq'
        · exact hx
        · exact hs.1 q hq'
      · rcases mem_insL.1 hq with rfl | hq'
        · exact hp x (by simp)
        · exact ha.1 q hq'

/-- The timer id started at t. -/
def startL (l : List (Int × Int)) (id t : Int) : List (Int × Int) := insL (stopL l id) (id, t)
theorem mem_startL {l : List (Int × Int)} {id t : Int} {p : Int × Int} : p ∈ startL l id t ↔ p = (id, t) ∨ (p ∈ l ∧ p.1 ≠ id) := by
  unfold startL
  rw [mem_insL, mem_stopL]
theorem Ord.start {l : List (Int × Int)} (h : Ord l) (id t : Int) : Ord (startL l id t) := (h.stop id).ins fun q hq => (mem_stopL.1 hq).2
theorem len_startL (l : List (Int × Int)) (id t : Int) : (startL l id t).length = (stopL l id).length + 1 := len_insL _ _
theorem len_startL_le (l : List (Int × Int)) (id t : Int) : (startL l id t).length ≤ l.length + 1 := by
  have := stopL_len l id
  rw [len_startL]
  omega

/-- What is due at now; the rest. -/
def dueL (l : List (Int × Int)) (now : Int) : List (Int × Int) := l.takeWhile fun p => decide (p.2 ≤ now)
def restL (l : List (Int × Int)) (now : Int) : List (Int × Int) := l.dropWhile fun p => decide (p.2 ≤ now)
theorem due_rest (l : List (Int × Int)) (now : Int) : dueL l now ++ restL l now = l := List.takeWhile_append_dropWhile
theorem Ord.due {l : List (Int × Int)} (h : Ord l) (now : Int) : Ord (dueL l now) := h.sub (List.takeWhile_sublist _)
theorem Ord.rest {l : List (Int × Int)} (h : Ord l) (now : Int) : Ord (restL l now) := h.sub (List.dropWhile_sublist _)
theorem mem_dueL {l : List (Int × Int)} (h : Ord l) {now : Int} {p : Int × Int} : p ∈ dueL l now ↔ p ∈ l ∧ p.2 ≤ now := by
  induction l with
  | nil => simp [dueL]
  | cons x r ih =>
    have hs := List.pairwise_cons.1 h.sorted
    have ih := ih (h.sub (List.sublist_cons_self x r))
    by_cases hx : x.2 ≤ now
    · have e : dueL (x :: r) now = x :: dueL r now := by simp [dueL, hx]
      rw [e, List.mem_cons, List.mem_cons, ih]
      constructor
      · rintro (rfl | ⟨h1, h2⟩)
        · exact ⟨.inl rfl, hx⟩
        · exact ⟨.inr h1, h2⟩
      · rintro ⟨rfl | h1, h2⟩
        · exact .inl rfl
        · exact .inr ⟨h1, h2⟩
    · have e : dueL (x :: r) now = [] := by simp [dueL, hx]
      rw [e]
      constructor
      · intro h; cases h
      · rintro ⟨h1, h2⟩
        rcases List.mem_cons.1 h1 with rfl | h1'
        · exact absurd h2 hx
        · have := (bef_iff _ _).1 (hs.1 p h1')
          omega
theorem mem_restL {l : List (Int × Int)} (h : Ord l) {now : Int} {p : Int × Int} : p ∈ restL l now ↔ p ∈ l ∧ now < p.2 := by
  have hd := mem_dueL h (now := now) (p := p)
  have hm : p ∈ l ↔ p ∈ dueL l now ∨ p ∈ restL l now := by rw [← List.mem_append, due_rest]
  constructor
  · intro hp
    refine ⟨hm.2 (.inr hp), ?_⟩
    by_cases h0 : now < p.2
    · exact h0
    · exfalso
      have h1 : p ∈ dueL l now := hd.2 ⟨hm.2 (.inr hp), by omega⟩
      have h2 := h.apart
      rw [← due_rest l now] at h2
      exact (List.pairwise_append.1 h2).2.2 p h1 p hp rfl
  · rintro ⟨h1, h2⟩
    rcases hm.1 h1 with h3 | h3
    · have := (hd.1 h3).2
      omega
    · exact h3
/-- A list in whatever order, sorted, is what is due. -/
theorem sorted_due {l d d' : List (Int × Int)} {now : Int} (h : Ord l) (hn : d.Pairwise (fun p q => p.1 ≠ q.1)) (hm : ∀ p, p ∈ d ↔ p ∈ l ∧ p.2 ≤ now) (hp : d'.Perm d) (hs : d'.Pairwise (fun p q => bef q p = false)) : d' = dueL l now := by
  have hd := h.due now
  have hnd : d.Nodup := hn.imp fun {a b} hab e => hab (by rw [e])
  have hnd2 : (dueL l now).Nodup := hd.apart.imp fun {a b} hab e => hab (by rw [e])
  have hperm : d'.Perm (dueL l now) := hp.trans ((List.perm_ext_iff_of_nodup hnd hnd2).2 fun p => by rw [hm, mem_dueL h])
  refine hperm.eq_of_pairwise (le := fun p q => bef q p = false) (fun a b _ _ h1 h2 => bef_anti h2 h1) hs ?_
  refine hd.sorted.imp fun {a b} hab => ?_
  cases hb : bef b a
  · rfl
  · have := (bef_iff _ _).1 hab
    have := (bef_iff _ _).1 hb
    omega
theorem due_two {l : List (Int × Int)} (h : Ord l) {a b : Int} (hab : a ≤ b) : dueL l a ++ dueL (restL l a) b = dueL l b ∧ restL (restL l a) b = restL l b := by
  induction l with
  | nil => exact ⟨rfl, rfl⟩
  | cons x r ih =>
    have ih := ih (h.sub (List.sublist_cons_self x r))
    by_cases hx : x.2 ≤ a
    · have hxb : x.2 ≤ b := by omega
      have e1 : dueL (x :: r) a = x :: dueL r a := by simp [dueL, hx]
      have e2 : restL (x :: r) a = restL r a := by simp [restL, hx]
      have e3 : dueL (x :: r) b = x :: dueL r b := by simp [dueL, hxb]
      have e4 : restL (x :: r) b = restL r b := by simp [restL, hxb]
      rw [e1, e2, e3, e4, List.cons_append, ih.1, ih.2]
      exact ⟨rfl, rfl⟩
    · have e1 : dueL (x :: r) a = [] := by simp [dueL, hx]
      have e2 : restL (x :: r) a = x :: r := by simp [restL, hx]
      rw [e1, e2]
      exact ⟨rfl, rfl⟩
/-- The first of l stopped. -/
theorem stop_head {p : Int × Int} {r : List (Int × Int)} (h : Ord (p :: r)) : stopL (p :: r) p.1 = r := by
  have ha := List.pairwise_cons.1 h.apart
  have := stopL_none (l := r) (id := p.1) fun q hq e => ha.1 q hq e.symm
  unfold stopL at *
  rw [List.filter_cons, if_neg (by simp), this]

/-- When id is due; is it there? -/
def atL (l : List (Int × Int)) (id : Int) : Int := match l.find? (fun p => decide (p.1 = id)) with | some p => p.2 | none => 0
def hasL (l : List (Int × Int)) (id : Int) : Bool := l.any fun p => decide (p.1 = id)
theorem hasL_mem {l : List (Int × Int)} {id : Int} : hasL l id = true ↔ ∃ t, (id, t) ∈ l := by
  unfold hasL
  rw [List.any_eq_true]
  constructor
  · rintro ⟨⟨i, t⟩, hp, h⟩
    simp at h
    exact ⟨t, h ▸ hp⟩
  · rintro ⟨t, h⟩
    exact ⟨_, h, by simp⟩
theorem hasL_not {l : List (Int × Int)} {id : Int} : hasL l id = false ↔ ∀ t, (id, t) ∉ l := by
  cases h : hasL l id
  · simp only [true_iff]
    intro t ht
    rw [hasL_mem.2 ⟨t, ht⟩] at h
    cases h
  · simp only [Bool.true_eq_false, false_iff]
    intro h0
    obtain ⟨t, ht⟩ := hasL_mem.1 h
    exact h0 t ht
theorem atL_mem {l : List (Int × Int)} (h : Ord l) {id t : Int} (hm : (id, t) ∈ l) : atL l id = t := by
  unfold atL
  cases hf : l.find? (fun p => decide (p.1 = id)) with
  | none => have := List.find?_eq_none.1 hf _ hm; simp at this
  | some p =>
    have h1 := List.mem_of_find?_eq_some hf
    have h2 := List.find?_some hf
    simp at h2
    have := h.one h1 hm h2
    rw [this]
theorem atL_not {l : List (Int × Int)} {id : Int} (h : hasL l id = false) : atL l id = 0 := by
  unfold atL
  rw [List.find?_eq_none.2 fun p hp => by simpa using (List.any_eq_false.1 h) p hp]
/-- The first one. -/
def hdI : List (Int × Int) → Int | [] => 0 | p :: _ => p.1
def hdA : List (Int × Int) → Int | [] => 0 | p :: _ => p.2
def some' : List (Int × Int) → Bool | [] => false | _ :: _ => true
/-- It is the first one if none is due ahead of it. -/
theorem hd_of {l : List (Int × Int)} (h : Ord l) {p : Int × Int} (hp : p ∈ l) (hl : ∀ q ∈ l, bef q p = false) : ∃ r, l = p :: r := by
  cases l with
  | nil => cases hp
  | cons x r =>
    rcases List.mem_cons.1 hp with rfl | hp'
    · exact ⟨r, rfl⟩
    · have h1 := (List.pairwise_cons.1 h.sorted).1 p hp'
      rw [hl x (by simp)] at h1
      cases h1
end Go.Proofs.Ythnhmgdefmahkaa
