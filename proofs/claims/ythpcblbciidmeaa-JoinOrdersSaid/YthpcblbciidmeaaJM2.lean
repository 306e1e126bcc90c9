/- What a join tells, plainly: in whatever order its chunks come; without order; with one skipped. -/
import Derived.WalkKit
import Derived.Test.YthpcblbciidmeaaJM1
namespace Go.Proofs.Ythpcblbciidmeaa
set_option linter.unusedVariables false

theorem hasS_del {l : List (Int × Msg)} {s k s' k' : Int} : hasS (delS l s k) s' k' = if s' = s ∧ k' = k then none else hasS l s' k' := by
  unfold hasS delS
  rw [List.find?_filter]
  by_cases h : s' = s ∧ k' = k
  · obtain ⟨rfl, rfl⟩ := h
    rw [if_pos ⟨rfl, rfl⟩, List.find?_eq_none.2 fun p hp => by simp]
    rfl
  · rw [if_neg h]
    congr 2
    funext p
    cases h1 : isS s' k' p
    · simp
    · obtain ⟨a1, a2⟩ := isS_iff.1 h1
      have : isS s k p = false := by
        cases h2 : isS s k p
        · rfl
        · obtain ⟨b1, b2⟩ := isS_iff.1 h2
          exact absurd ⟨a2.symm.trans b2, a1.symm.trans b1⟩ h
      simp [this]
theorem hasS_cons {l : List (Int × Msg)} {k : Int} {m : Msg} {s' k' : Int} : hasS ((k, m) :: l) s' k' = if k = k' ∧ m.st = s' then some m else hasS l s' k' := by
  unfold hasS
  by_cases h : k = k' ∧ m.st = s'
  · rw [if_pos h, List.find?_cons_of_pos (isS_iff.2 h)]
    rfl
  · rw [if_neg h, List.find?_cons_of_neg fun hc => h (isS_iff.1 hc)]
theorem setN_twice (f : Int → Int) (s a b : Int) : setN (setN f s a) s b = setN f s b := by
  funext x
  unfold setN
  split <;> rfl
theorem setN_self (f : Int → Int) (s : Int) : setN f s (f s) = f := by
  funext x
  unfold setN
  split
  · rename_i h; rw [h]
  · rfl
theorem setN_at (f : Int → Int) (s k : Int) : setN f s k s = k := by
  unfold setN
  rw [if_pos rfl]
/-- Several that follow one another are told. -/
theorem tell_seq (ms : Nat → Msg) (s : Int) : ∀ (d f : Nat) (j : Jn), Wf j → j.nx s = (f : Int) → (∀ i : Nat, f ≤ i → i < f + d → hasS j.st s (i : Int) = some (ms i)) → hasS j.st s ((f + d : Nat) : Int) = none → f + d < 65536 →
    ∃ st', tell j s = ⟨j.n, setN j.nx s ((f + d : Nat) : Int), j.ch, st', j.rd ++ (List.range' f d).map ms⟩ ∧
      ∀ (s' : Int) (k : Nat), hasS st' s' (k : Int) = if s' = s ∧ f ≤ k ∧ k < f + d then none else hasS j.st s' (k : Int)
  | 0, f, j, hw, hf, _, hn, _ => by
    refine ⟨j.st, ?_, fun s' k => by rw [if_neg (by omega)]⟩
    rw [tell_none (by rw [hf]; exact hn)]
    simp only [List.range'_zero, List.map_nil, List.append_nil, Nat.add_zero]
    rw [← hf, setN_self]
  | d + 1, f, j, hw, hf, hs, hn, hb => by
    have h0 : hasS j.st s (j.nx s) = some (ms f) := by rw [hf]; exact hs f (Nat.le_refl _) (by omega)
    have e : (popJ j s (ms f)).nx s = ((f + 1 : Nat) : Int) := by
      show setN j.nx s (up1 (j.nx s)) s = _
      rw [setN_at, hf]
      unfold up1
      omega
    obtain ⟨st', h1, h2⟩ := tell_seq ms s d (f + 1) (popJ j s (ms f)) (hw.pop s _) e
      (fun i a b => by
        show hasS (delS j.st s (j.nx s)) s i = _
        rw [hasS_del, if_neg (by rw [hf]; omega)]
        exact hs i (by omega) (by omega))
      (by
        show hasS (delS j.st s (j.nx s)) s _ = _
        rw [hasS_del, if_neg (by rw [hf]; omega), show f + 1 + d = f + (d + 1) by omega]
        exact hn)
      (by omega)
    refine ⟨st', ?_, fun s' k => ?_⟩
    · rw [tell_some hw h0, h1]
      show Jn.mk j.n (setN (setN j.nx s (up1 (j.nx s))) s _) j.ch st' (j.rd ++ [ms f] ++ _) = _
      rw [setN_twice, List.range'_succ, List.map_cons, List.append_assoc, show f + 1 + d = f + (d + 1) by omega]
      rfl
    · rw [h2 s' k]
      show (if _ then none else hasS (delS j.st s (j.nx s)) s' k) = _
      by_cases hc : s' = s ∧ f ≤ k ∧ k < f + (d + 1)
      · rw [if_pos hc]
        by_cases hk : k = f
        · rw [if_neg (by omega), hasS_del, if_pos ⟨hc.1, by rw [hf, hk]⟩]
        · rw [if_pos ⟨hc.1, by omega, by omega⟩]
      · rw [if_neg hc, if_neg (fun h => hc ⟨h.1, by omega, by omega⟩), hasS_del, if_neg (by rw [hf]; intro h; exact hc ⟨h.1, by omega, by omega⟩)]
theorem without_not {r l : List Ch} (h : ∀ x ∈ l, ∀ y ∈ r, y.a ≠ x.a) : without r l = l := by
  unfold without
  rw [List.filter_eq_self]
  intro x hx
  have : (r.any fun y => decide (y.a = x.a)) = false := by
    rw [List.any_eq_false]
    intro y hy hc
    exact h x hx y hy (of_decide_eq_true hc)
  rw [this]
  rfl
/-- A message of one piece. -/
theorem came_single {j j' : Jn} (h : Wf j) {c : Ch} (hc : FitsC c) (he : addE j c = 0) (hb : c.fl / 2 % 2 = 1) (hd : c.fl % 2 = 1) (hj : Came j c j') : j' = comes j (msgOf [c]) c.si := by
  have hp := put_wf h hc he
  have hr : Run (c :: j.ch) [c] := Run.single List.mem_cons_self (addE_ok he).1 hb hd
  cases hj with
  | part hn => exact absurd List.mem_cons_self (hn _ hr)
  | all r hr' hm =>
    have e := hr'.one hr hp.kc hp.nc hm List.mem_cons_self
    subst e
    have e2 : without [c] (c :: j.ch) = j.ch := by
      unfold without
      rw [List.filter_cons_of_neg (by simp)]
      exact without_not fun x hx y hy => by
        rw [List.mem_singleton.1 hy]
        exact fun e => (addE_ok he).2.2.2.1 x hx e.symm
    rw [e2]
    rfl

/-! ### Messages and their pieces -/
structure Plan where
  M : Nat
  k : Nat
  ms : Nat → Msg
  ts : Nat → Int
  sn : Nat → Int
namespace Plan
def N (p : Plan) (i : Nat) : Nat := cnt p.k (p.ms i).da.length
def c (p : Plan) (i q : Nat) : Ch := chAt (p.ms i) (p.ts i) (p.sn i) p.k q
def run (p : Plan) (i : Nat) : List Ch := splitL (p.ms i) (p.ts i) (p.sn i) p.k
structure Ok (p : Plan) : Prop where
  k0 : 0 < p.k
  pos : ∀ i, i < p.M → 0 < (p.ms i).da.length
  pp : ∀ i j, i < p.M → j < p.M → (p.ms i).pp = (p.ms j).pp → i = j
  inj : ∀ i q j r, i < p.M → q < p.N i → j < p.M → r < p.N j → (p.c i q).a = (p.c j r).a → i = j ∧ q = r
  sn : ∀ i, i < p.M → 0 ≤ p.sn i ∧ p.sn i < 65536
variable {p : Plan}
theorem Ok.N0 (h : p.Ok) {i : Nat} (hi : i < p.M) : 0 < p.N i := cnt_pos h.k0 (h.pos i hi)
theorem Ok.fits (h : p.Ok) {i q : Nat} (hi : i < p.M) : FitsC (p.c i q) := by
  refine ⟨?_, ?_, ?_, ?_⟩
  · show 0 ≤ (p.ts i + q) % 4294967296; omega
  · show (p.ts i + q) % 4294967296 < 4294967296; omega
  · show 0 ≤ ssnOf (p.ms i) (p.sn i)
    unfold ssnOf
    have := h.sn i hi
    split <;> omega
  · show ssnOf (p.ms i) (p.sn i) < 65536
    unfold ssnOf
    have := h.sn i hi
    split <;> omega
theorem Ok.da (h : p.Ok) {i q : Nat} (hq : q < p.N i) : (p.c i q).da ≠ [] := by
  have := (cnt_le h.k0).1 hq
  show piece p.k (p.ms i).da q ≠ []
  unfold piece
  intro hc
  have hl := congrArg List.length hc
  rw [List.length_take, List.length_drop] at hl
  have := h.k0
  simp only [List.length_nil] at hl
  omega
theorem da_le (i q : Nat) : (p.c i q).da.length ≤ (p.ms i).da.length := by
  show (piece p.k (p.ms i).da q).length ≤ _
  unfold piece
  rw [List.length_take, List.length_drop]
  omega
/-- All that is held are pieces. -/
def In (p : Plan) (l : List Ch) : Prop := ∀ x ∈ l, ∃ i q, i < p.M ∧ q < p.N i ∧ x = p.c i q
theorem run_eq (h : p.Ok) {l r : List Ch} (hl : p.In l) (hr : Run l r) {i q : Nat} (hi : i < p.M) (hm : p.c i q ∈ r) : r = p.run i := by
  obtain ⟨x, hx, hb, _⟩ := whole_first hr.wh
  have hlen : 0 < r.length := (List.getElem?_eq_some_iff.1 hx).1
  obtain ⟨i0, q0, hi0, hq0, rfl⟩ := hl x (hr.mem x (List.mem_of_getElem? hx))
  have e0 : q0 = 0 := by
    have : flg (p.ms i0).un (p.N i0) q0 / 2 % 2 = 1 := hb
    rw [flg_begin] at this
    by_cases hc : q0 = 0
    · exact hc
    · rw [if_neg hc] at this; cases this
  subst e0
  have key : ∀ t, t < r.length → r[t]? = some (p.c i0 t) ∧ t < p.N i0 := by
    intro t
    induction t with
    | zero => exact fun _ => ⟨hx, hq0⟩
    | succ t ih =>
      intro ht
      obtain ⟨h1, h2⟩ := ih (by omega)
      have hy := List.getElem?_eq_getElem ht
      obtain ⟨i1, q1, hi1, hq1, e⟩ := hl _ (hr.mem _ (List.getElem_mem ht))
      have hf := hr.fol h1 hy
      rw [e] at hf
      have e1 : i0 = i1 := h.pp i0 i1 hi0 hi1 hf.pp
      subst e1
      have hen : flg (p.ms i0).un (p.N i0) t % 2 = 0 := hf.en
      rw [flg_end] at hen
      have ht1 : t + 1 < p.N i0 := by
        by_cases hc : t + 1 = p.N i0
        · rw [if_pos hc] at hen; cases hen
        · omega
      have ha : (p.ts i0 + (q1 : Int)) % 4294967296 = ((p.ts i0 + (t : Int)) % 4294967296 + 1) % 4294967296 := hf.a
      have e2 := (h.inj i0 q1 i0 (t + 1) hi0 hq1 hi0 ht1 (by
        show (p.ts i0 + (q1 : Int)) % 4294967296 = (p.ts i0 + ((t + 1 : Nat) : Int)) % 4294967296
        omega)).2
      rw [hy, e, e2]
      exact ⟨rfl, ht1⟩
  have hlast : r.length = p.N i0 := by
    obtain ⟨z, hz, he⟩ := whole_last hr.wh
    obtain ⟨h1, h2⟩ := key (r.length - 1) (by omega)
    rw [List.getLast?_eq_getElem?, h1] at hz
    injection hz with hz
    rw [← hz] at he
    have he : flg (p.ms i0).un (p.N i0) (r.length - 1) % 2 = 1 := he
    rw [flg_end] at he
    by_cases hc : r.length - 1 + 1 = p.N i0
    · omega
    · rw [if_neg hc] at he; cases he
  have ei : i0 = i := by
    obtain ⟨t, ht⟩ := List.mem_iff_getElem?.1 hm
    have := (key t (List.getElem?_eq_some_iff.1 ht).1).1
    rw [ht] at this
    injection this with this
    exact h.pp i0 i hi0 hi (by have := congrArg Ch.pp this; exact this.symm)
  subst ei
  refine List.ext_getElem? fun t => ?_
  rcases Nat.lt_or_ge t r.length with ht | ht
  · rw [(key t ht).1]
    exact (splitL_get (by rw [hlast] at ht; exact ht)).symm
  · rw [List.getElem?_eq_none ht, List.getElem?_eq_none (by show (splitL _ _ _ _).length ≤ t; rw [splitL_len]; rw [hlast] at ht; exact ht)]
theorem mem_run {i : Nat} {x : Ch} : x ∈ p.run i ↔ ∃ q, q < p.N i ∧ x = p.c i q := by
  show x ∈ (List.range (p.N i)).map (p.c i) ↔ _
  rw [List.mem_map]
  constructor
  · rintro ⟨q, hq, rfl⟩
    exact ⟨q, List.mem_range.1 hq, rfl⟩
  · rintro ⟨q, hq, rfl⟩
    exact ⟨q, List.mem_range.2 hq, rfl⟩
theorem run_msg (h : p.Ok) {i : Nat} (hi : i < p.M) : whole (p.run i) = true ∧ msgOf (p.run i) = p.ms i ∧ siOf (p.run i) = ssnOf (p.ms i) (p.sn i) := by
  obtain ⟨a, b⟩ := whole_split (m := p.ms i) (tsn := p.ts i) (ssn := p.sn i) h.k0 (h.pos i hi)
  refine ⟨a, b, ?_⟩
  obtain ⟨r, hr⟩ := splitL_cons (m := p.ms i) (tsn := p.ts i) (ssn := p.sn i) h.k0 (h.pos i hi)
  show siOf (splitL _ _ _ _) = _
  rw [hr]
  rfl
/-- What a piece does. -/
theorem came (h : p.Ok) {j j' : Jn} {i q : Nat} (hi : i < p.M) (hq : q < p.N i) (hl : p.In j.ch) (hj : Came j (p.c i q) j') :
    ((∃ t, t < p.N i ∧ p.c i t ∉ p.c i q :: j.ch) ∧ j' = { j with ch := p.c i q :: j.ch }) ∨
    ((∀ t, t < p.N i → p.c i t ∈ p.c i q :: j.ch) ∧ j' = comes { j with ch := without (p.run i) (p.c i q :: j.ch) } (p.ms i) (ssnOf (p.ms i) (p.sn i))) := by
  have hl' : p.In (p.c i q :: j.ch) := fun x hx => by
    rcases List.mem_cons.1 hx with rfl | hx
    · exact ⟨i, q, hi, hq, rfl⟩
    · exact hl x hx
  obtain ⟨w, m1, m2⟩ := run_msg h hi
  cases hj with
  | part hn =>
    refine .inl ⟨Classical.byContradiction fun hc => ?_, rfl⟩
    refine hn (p.run i) ⟨w, fun x hx => ?_⟩ (mem_run.2 ⟨q, hq, rfl⟩)
    obtain ⟨t, ht, rfl⟩ := mem_run.1 hx
    exact Classical.byContradiction fun hx => hc ⟨t, ht, hx⟩
  | all r hr hm =>
    have e := run_eq h hl' hr hi hm
    subst e
    rw [m1, m2]
    exact .inr ⟨fun t ht => hr.mem _ (mem_run.2 ⟨t, ht, rfl⟩), rfl⟩
end Plan
/-! ### In whatever order -/
namespace Plan
variable {p : Plan}
def Full (p : Plan) (A : Nat → Nat → Prop) (i : Nat) : Prop := ∀ q, q < p.N i → A i q
def Add1 (A : Nat → Nat → Prop) (i q : Nat) : Nat → Nat → Prop := fun i' q' => A i' q' ∨ (i' = i ∧ q' = q)
/-- The messages of one stream, by their numbers. -/
structure Row (p : Plan) : Prop extends p.Ok where
  few : p.M ≤ 1000
  sn_ : ∀ i, i < p.M → p.sn i = i
  st : ∀ i, i < p.M → (p.ms i).st = 1
  un : ∀ i, i < p.M → (p.ms i).un = false
structure Inv (p : Plan) (j : Jn) (A : Nat → Nat → Prop) (f : Nat) : Prop where
  wf : Wf j
  n : j.n = 2
  cs : ∀ x ∈ j.ch, ∃ i q, i < p.M ∧ q < p.N i ∧ A i q ∧ x = p.c i q
  hd : ∀ i, i < p.M → ¬ p.Full A i → ∀ q, q < p.N i → A i q → p.c i q ∈ j.ch
  f0 : f ≤ p.M
  f1 : j.nx 1 = (f : Int)
  f2 : ∀ i, i < f → p.Full A i
  f3 : f < p.M → ¬ p.Full A f
  s1 : ∀ i : Nat, f < i → i < p.M → p.Full A i → hasS j.st 1 (i : Int) = some (p.ms i)
  s0 : ∀ i : Nat, (i ≤ f ∨ p.M ≤ i ∨ ¬ p.Full A i) → hasS j.st 1 (i : Int) = none
  rd : j.rd = (List.range f).map p.ms
theorem Inv.new (h : p.Row) : p.Inv (newJ 2) (fun _ _ => False) 0 :=
  ⟨Wf.new 2, rfl, fun _ hx => (by cases hx), fun _ _ _ _ _ hA => hA.elim, Nat.zero_le _, rfl, fun _ hi => absurd hi (Nat.not_lt_zero _),
    fun h0 hF => hF 0 (h.N0 h0), fun i _ hi hF => (hF 0 (h.N0 hi)).elim, fun _ _ => rfl, rfl⟩
/-- Only what is held is another. -/
theorem Inv.chs {j : Jn} {A : Nat → Nat → Prop} {f : Nat} (h : p.Inv j A f) {l : List Ch} (hw : Wf { j with ch := l })
    (cs : ∀ x ∈ l, ∃ i q, i < p.M ∧ q < p.N i ∧ A i q ∧ x = p.c i q) (hd : ∀ i, i < p.M → ¬ p.Full A i → ∀ q, q < p.N i → A i q → p.c i q ∈ l) : p.Inv { j with ch := l } A f :=
  { h with wf := hw, cs := cs, hd := hd }
theorem full_add {A : Nat → Nat → Prop} {i q i' : Nat} (hne : i' ≠ i) : p.Full (Add1 A i q) i' ↔ p.Full A i' := by
  unfold Full Add1
  constructor
  · intro h t ht
    rcases h t ht with h1 | h1
    · exact h1
    · exact absurd h1.1 hne
  · exact fun h t ht => .inl (h t ht)
theorem least (F : Nat → Prop) (M : Nat) : ∀ d f, f + d = M → ∃ g, f ≤ g ∧ g ≤ M ∧ (∀ i, f ≤ i → i < g → F i) ∧ (g < M → ¬ F g)
  | 0, f, h => ⟨f, Nat.le_refl _, by omega, fun i a b => by omega, fun hc => by omega⟩
  | d + 1, f, h => by
    by_cases hF : F f
    · obtain ⟨g, a, b, c, e⟩ := least F M d (f + 1) (by omega)
      refine ⟨g, by omega, b, fun i h1 h2 => ?_, e⟩
      by_cases hi : i = f
      · rw [hi]; exact hF
      · exact c i (by omega) h2
    · exact ⟨f, Nat.le_refl _, by omega, fun i a b => by omega, fun _ => hF⟩
/-- The first time it comes. -/
theorem Inv.first {j j' : Jn} {A : Nat → Nat → Prop} {f i q : Nat} (h : p.Inv j A f) (hp : p.Row) (hi : i < p.M) (hq : q < p.N i) (hA : ¬ A i q) (ho : j.oct + (p.ms i).da.length ≤ 65536) :
    addE j (p.c i q) = 0 ∧ (Came j (p.c i q) j' → ∃ f', p.Inv j' (Add1 A i q) f') := by
  have hno : ∀ x ∈ j.ch, x.a ≠ (p.c i q).a := fun x hx e => by
    obtain ⟨i', q', a, b, hA', rfl⟩ := h.cs x hx
    obtain ⟨rfl, rfl⟩ := hp.inj _ _ _ _ a b hi hq e
    exact hA hA'
  have he : addE j (p.c i q) = 0 := addE_of rfl (hp.toOk.da hq)
    (by show 0 ≤ (p.ms i).st ∧ (p.ms i).st < j.n; rw [hp.st i hi, h.n]; decide) hno (by have := da_le (p := p) i q; omega)
  refine ⟨he, fun hj => ?_⟩
  have hw := (came_wf h.wf (hp.toOk.fits hi) he hj).1
  have hin : p.In j.ch := fun x hx => by
    obtain ⟨i', q', a, b, _, e⟩ := h.cs x hx
    exact ⟨i', q', a, b, e⟩
  have hnf : ¬ p.Full A i := fun hF => hA (hF q hq)
  have hcs : ∀ x ∈ p.c i q :: j.ch, ∃ i' q', i' < p.M ∧ q' < p.N i' ∧ Add1 A i q i' q' ∧ x = p.c i' q' := fun x hx => by
    rcases List.mem_cons.1 hx with rfl | hx
    · exact ⟨i, q, hi, hq, .inr ⟨rfl, rfl⟩, rfl⟩
    · obtain ⟨i', q', a, b, c, e⟩ := h.cs x hx
      exact ⟨i', q', a, b, .inl c, e⟩
  have hfi : f ≤ i := by
    rcases Nat.lt_or_ge i f with h1 | h1
    · exact absurd (h.f2 i h1) hnf
    · exact h1
  rcases Plan.came hp.toOk hi hq hin hj with ⟨⟨t, ht, hnt⟩, rfl⟩ | ⟨hall, hj'⟩
  · have hnf' : ¬ p.Full (Add1 A i q) i := fun hF => by
      rcases hF t ht with h1 | h1
      · exact hnt (List.mem_cons_of_mem _ (h.hd i hi hnf t ht h1))
      · rw [h1.2] at hnt
        exact hnt List.mem_cons_self
    have hff : ∀ i', p.Full (Add1 A i q) i' ↔ p.Full A i' := fun i' => by
      by_cases hne : i' = i
      · rw [hne]
        exact ⟨fun x => absurd x hnf', fun x => absurd x hnf⟩
      · exact full_add hne
    refine ⟨f, hw, h.n, hcs, fun i' a hn q' b hA' => ?_, h.f0, h.f1, fun i' a => (hff i').2 (h.f2 i' a), fun a hF => h.f3 a ((hff f).1 hF), fun i' a b hF => h.s1 i' a b ((hff i').1 hF), fun i' a => h.s0 i' (by rwa [hff i'] at a), h.rd⟩
    rcases hA' with h1 | h1
    · exact List.mem_cons_of_mem _ (h.hd i' a (fun hF => hn ((hff i').2 hF)) q' b h1)
    · rw [h1.1, h1.2]
      exact List.mem_cons_self
  · have hF : p.Full (Add1 A i q) i := fun t ht => by
      rcases List.mem_cons.1 (hall t ht) with h1 | h1
      · exact .inr ⟨rfl, (hp.inj i t i q hi ht hi hq (by rw [h1])).2⟩
      · obtain ⟨i', q', a, b, c, e⟩ := h.cs _ h1
        obtain ⟨rfl, rfl⟩ := hp.inj _ _ _ _ hi ht a b (congrArg Ch.a e)
        exact .inl c
    obtain ⟨g, g0, g1, g2, g3⟩ := least (p.Full (Add1 A i q)) p.M (p.M - f) f (by have := h.f0; omega)
    have hsn : ssnOf (p.ms i) (p.sn i) = (i : Int) := by
      unfold ssnOf
      rw [hp.un i hi, if_neg (by decide), hp.sn_ i hi]
    have hni : hasS j.st 1 (i : Int) = none := h.s0 i (.inr (.inr hnf))
    have hM := hp.few
    have hpw := put_wf h.wf (hp.toOk.fits (q := q) hi) he
    have hlt : lt16 (i : Int) (f : Int) = false := by
      unfold lt16
      exact decide_eq_false fun hc => by omega
    have hj2 : j' = tell { j with ch := without (p.run i) (p.c i q :: j.ch), st := ((i : Int), p.ms i) :: j.st } 1 := by
      rw [hj']
      unfold comes
      rw [hp.un i hi, if_neg (by decide), hp.st i hi, hsn, if_neg ?_]
      rintro (h1 | h1)
      · rw [show ({ j with ch := without (p.run i) (p.c i q :: j.ch) } : Jn).nx 1 = (f : Int) from h.f1, hlt] at h1
        cases h1
      · rw [show hasS ({ j with ch := without (p.run i) (p.c i q :: j.ch) } : Jn).st 1 (i : Int) = none from hni] at h1
        cases h1
    have hw1 : Wf { j with ch := without (p.run i) (p.c i q :: j.ch), st := ((i : Int), p.ms i) :: j.st } :=
      Wf.push (j := { j with ch := without (p.run i) (p.c i q :: j.ch) }) (hpw.less _) (by rw [hp.st i hi]; show (0 : Int) ≤ 1 ∧ (1 : Int) < j.n; rw [h.n]; decide) (by omega) (hp.un i hi) (by rw [hp.st i hi]; exact hni)
    have hfF : ∀ x, x < p.M → x ≠ i → p.Full (Add1 A i q) x → p.Full A x := fun x _ hne hx => (full_add hne).1 hx
    have hst : ∀ x : Nat, hasS (((i : Int), p.ms i) :: j.st) 1 (x : Int) = if x = i then some (p.ms i) else hasS j.st 1 (x : Int) := fun x => by
      rw [hasS_cons]
      by_cases hx : x = i
      · rw [if_pos hx, if_pos ⟨by rw [hx], hp.st i hi⟩]
      · rw [if_neg hx, if_neg (by omega)]
    obtain ⟨st', e1, e2⟩ := tell_seq p.ms 1 (g - f) f _ hw1 h.f1
      (fun x a b => by
        show hasS (((i : Int), p.ms i) :: j.st) 1 (x : Int) = _
        rw [hst]
        by_cases hx : x = i
        · rw [if_pos hx, hx]
        · rw [if_neg hx]
          have hxF := hfF x (by omega) hx (g2 x a (by omega))
          have hxf : x ≠ f := fun e => h.f3 (by omega) (by rw [← e]; exact hxF)
          exact h.s1 x (by omega) (by omega) hxF)
      (by
        show hasS (((i : Int), p.ms i) :: j.st) 1 _ = none
        rw [show f + (g - f) = g by omega, hst]
        have hgi : g ≠ i := fun e => g3 (by omega) (by rw [e]; exact hF)
        rw [if_neg hgi]
        refine h.s0 g ?_
        rcases Nat.lt_or_ge g p.M with h1 | h1
        · exact .inr (.inr fun hc => g3 h1 ((full_add hgi).2 hc))
        · exact .inr (.inl h1))
      (by omega)
    rw [show f + (g - f) = g by omega] at e1 e2
    rw [← hj2] at e1
    subst e1
    refine ⟨g, hw, h.n, fun x hx => hcs x (mem_without.1 hx).1, fun i' a hn q' b hA' => ?_, g1, (by show setN j.nx 1 (g : Int) 1 = _; exact setN_at _ _ _), fun x hx => ?_, g3, fun x a b hx => ?_, fun x hx => ?_, ?_⟩
    · have hne : i' ≠ i := fun e => hn (by rw [e]; exact hF)
      refine mem_without.2 ⟨List.mem_cons_of_mem _ (h.hd i' a (fun hc => hn ((full_add hne).2 hc)) q' b ?_), fun y hy e => ?_⟩
      · rcases hA' with h1 | h1
        · exact h1
        · exact absurd h1.1 hne
      · obtain ⟨t, ht, rfl⟩ := mem_run.1 hy
        exact hne (hp.inj _ _ _ _ hi ht a b e).1.symm
    · rcases Nat.lt_or_ge x f with h1 | h1
      · intro t ht
        exact .inl (h.f2 x h1 t ht)
      · exact g2 x h1 hx
    · show hasS st' 1 (x : Int) = _
      rw [e2, if_neg (by omega)]
      show hasS (((i : Int), p.ms i) :: j.st) 1 (x : Int) = _
      rw [hst]
      by_cases hxi : x = i
      · rw [if_pos hxi, hxi]
      · rw [if_neg hxi]
        exact h.s1 x (by omega) b (hfF x b hxi hx)
    · show hasS st' 1 (x : Int) = none
      rw [e2]
      by_cases hc : f ≤ x ∧ x < g
      · rw [if_pos ⟨rfl, hc.1, hc.2⟩]
      · rw [if_neg fun hx => hc hx.2]
        show hasS (((i : Int), p.ms i) :: j.st) 1 (x : Int) = none
        have hxi : x ≠ i := by
          intro e
          rcases hx with h1 | h1 | h1
          · have hgi : g ≠ i := fun e => g3 (by omega) (by rw [e]; exact hF)
            omega
          · omega
          · exact h1 (by rw [e]; exact hF)
        rw [hst, if_neg hxi]
        refine h.s0 x ?_
        rcases hx with h1 | h1 | h1
        · rcases Nat.lt_or_ge x g with h2 | h2
          · exact .inl (by omega)
          · have e : x = g := by omega
            rcases Nat.lt_or_ge g p.M with h3 | h3
            · exact .inr (.inr fun hc => g3 h3 (by rw [← e]; exact (full_add hxi).2 hc))
            · exact .inr (.inl (by omega))
        · exact .inr (.inl h1)
        · exact .inr (.inr fun hc => h1 ((full_add hxi).2 hc))
    · show j.rd ++ (List.range' f (g - f)).map p.ms = _
      have hr : List.range' 0 f ++ List.range' (0 + f) (g - f) = List.range' 0 (f + (g - f)) := List.range'_append_1
      rw [Nat.zero_add, show f + (g - f) = g by omega] at hr
      rw [h.rd, ← List.map_append, List.range_eq_range', List.range_eq_range', hr]
/-- The second time: nothing of it is ever told. -/
theorem Inv.second {j j' : Jn} {A : Nat → Nat → Prop} {f i q : Nat} {e : Int} (h : p.Inv j A f) (hp : p.Row) (hi : i < p.M) (hq : q < p.N i) (hA : A i q) (hj : AddR j (p.c i q) e j') : p.Inv j' A f := by
  obtain ⟨rfl, h1, h2⟩ := hj
  by_cases he : addE j (p.c i q) = 0
  · have hj := h2 he
    have hw := (came_wf h.wf (hp.toOk.fits hi) he hj).1
    have hno := (addE_ok he).2.2.2.1
    have hF : p.Full A i := Classical.byContradiction fun hn => hno _ (h.hd i hi hn q hq hA) rfl
    have hin : p.In j.ch := fun x hx => by
      obtain ⟨i', q', a, b, _, e⟩ := h.cs x hx
      exact ⟨i', q', a, b, e⟩
    have hcs : ∀ x ∈ p.c i q :: j.ch, ∃ i' q', i' < p.M ∧ q' < p.N i' ∧ A i' q' ∧ x = p.c i' q' := fun x hx => by
      rcases List.mem_cons.1 hx with rfl | hx
      · exact ⟨i, q, hi, hq, hA, rfl⟩
      · exact h.cs x hx
    rcases Plan.came hp.toOk hi hq hin hj with ⟨_, rfl⟩ | ⟨_, hj'⟩
    · exact h.chs hw hcs fun i' a hn q' b hA' => List.mem_cons_of_mem _ (h.hd i' a hn q' b hA')
    · have hsn : ssnOf (p.ms i) (p.sn i) = (i : Int) := by
        unfold ssnOf
        rw [hp.un i hi, if_neg (by decide), hp.sn_ i hi]
      have hM := hp.few
      have hdrop : j' = { j with ch := without (p.run i) (p.c i q :: j.ch) } := by
        rw [hj']
        unfold comes
        rw [hp.un i hi, if_neg (by decide), hp.st i hi, hsn, if_pos ?_]
        have hfM := h.f0
        rcases Nat.lt_or_ge i f with hc | hc
        · refine .inl ?_
          rw [show ({ j with ch := without (p.run i) (p.c i q :: j.ch) } : Jn).nx 1 = (f : Int) from h.f1]
          unfold lt16
          exact decide_eq_true (by omega)
        · refine .inr ?_
          have hne : f ≠ i := fun e => h.f3 (by omega) (by rw [e]; exact hF)
          rw [show hasS ({ j with ch := without (p.run i) (p.c i q :: j.ch) } : Jn).st 1 (i : Int) = _ from h.s1 i (by omega) hi hF]
          rfl
      subst hdrop
      refine h.chs hw (fun x hx => hcs x (mem_without.1 hx).1) fun i' a hn q' b hA' => ?_
      have hne : i' ≠ i := fun e => hn (by rw [e]; exact hF)
      refine mem_without.2 ⟨List.mem_cons_of_mem _ (h.hd i' a hn q' b hA'), fun y hy e => ?_⟩
      obtain ⟨t, ht, rfl⟩ := mem_run.1 hy
      exact hne (hp.inj _ _ _ _ hi ht a b e).1.symm
  · rw [h1 he]
    exact h
/-- All have come: all is told. -/
theorem Inv.done {j : Jn} {A : Nat → Nat → Prop} {f : Nat} (h : p.Inv j A f) (hA : ∀ i q, i < p.M → q < p.N i → A i q) : j.rd = (List.range p.M).map p.ms := by
  have e : f = p.M := by
    rcases Nat.lt_or_ge f p.M with h1 | h1
    · exact absurd (fun q hq => hA f q h1 hq) (h.f3 h1)
    · have := h.f0; omega
  rw [h.rd, e]
end Plan
/-! ### Messages without order -/
namespace Plan
variable {p : Plan}
/-- Of one message without order the pieces from t on are held, and nothing is ready. -/
structure Tail (p : Plan) (j : Jn) (t : Nat) : Prop where
  wf : Wf j
  n : j.n = 2
  ch : ∀ x, x ∈ j.ch ↔ ∃ q, t ≤ q ∧ q < p.N 0 ∧ x = p.c 0 q
  rd : j.rd = []
theorem Tail.step {j j' : Jn} {t : Nat} (h : p.Tail j (t + 1)) (hp : p.Ok) (hM : p.M = 1) (hu : (p.ms 0).un = true) (hs : (p.ms 0).st = 1) (ht : t < p.N 0) (ho : j.oct + (p.ms 0).da.length ≤ 65536) :
    addE j (p.c 0 t) = 0 ∧ (Came j (p.c 0 t) j' → (0 < t → p.Tail j' t) ∧ (t = 0 → Wf j' ∧ j'.rd = [p.ms 0])) := by
  have h0 : 0 < p.M := by omega
  have hno : ∀ x ∈ j.ch, x.a ≠ (p.c 0 t).a := fun x hx e => by
    obtain ⟨q, a, b, rfl⟩ := (h.ch x).1 hx
    have := (hp.inj _ _ _ _ h0 b h0 ht e).2
    omega
  have he : addE j (p.c 0 t) = 0 := addE_of rfl (hp.da ht)
    (by show 0 ≤ (p.ms 0).st ∧ (p.ms 0).st < j.n; rw [hs, h.n]; decide) hno (by have := da_le (p := p) 0 t; omega)
  refine ⟨he, fun hj => ?_⟩
  have hw := (came_wf h.wf (hp.fits h0) he hj).1
  have hin : p.In j.ch := fun x hx => by
    obtain ⟨q, _, b, e⟩ := (h.ch x).1 hx
    exact ⟨0, q, h0, b, e⟩
  have hmem : ∀ x, x ∈ p.c 0 t :: j.ch ↔ ∃ q, t ≤ q ∧ q < p.N 0 ∧ x = p.c 0 q := fun x => by
    rw [List.mem_cons, h.ch]
    constructor
    · rintro (rfl | ⟨q, a, b, e⟩)
      · exact ⟨t, Nat.le_refl _, ht, rfl⟩
      · exact ⟨q, by omega, b, e⟩
    · rintro ⟨q, a, b, e⟩
      by_cases hq : q = t
      · exact .inl (by rw [e, hq])
      · exact .inr ⟨q, by omega, b, e⟩
  rcases Plan.came hp h0 ht hin hj with ⟨⟨s, hs1, hs2⟩, rfl⟩ | ⟨hall, hj'⟩
  · refine ⟨fun _ => ⟨hw, h.n, hmem, h.rd⟩, fun e => ?_⟩
    exact absurd ((hmem _).2 ⟨s, by omega, hs1, rfl⟩) hs2
  · have : t = 0 := by
      obtain ⟨q, a, b, e⟩ := (hmem _).1 (hall 0 (hp.N0 h0))
      have := (hp.inj _ _ _ _ h0 (hp.N0 h0) h0 b (congrArg Ch.a e)).2
      omega
    refine ⟨fun hc => by omega, fun _ => ⟨hw, ?_⟩⟩
    rw [hj']
    unfold comes
    rw [if_pos hu]
    show j.rd ++ [p.ms 0] = _
    rw [h.rd]
    rfl
end Plan

/-! ### One piece each -/
/-- A message of one piece, as the laws make it. -/
def pc (a s k : Int) (d : List UInt8) : Ch := ⟨0, 3, a, 0, s, k, 0, d⟩
def pm (s : Int) (d : List UInt8) : Msg := ⟨s, false, 0, d⟩
theorem pc_msg (a s k : Int) (d : List UInt8) : msgOf [pc a s k d] = pm s d := by
  unfold msgOf pc pm
  simp
theorem came_pc {j j' : Jn} (h : Wf j) {a s k : Int} {d : List UInt8} (ha : 0 ≤ a ∧ a < 4294967296) (hk : 0 ≤ k ∧ k < 65536) (he : addE j (pc a s k d) = 0) (hj : Came j (pc a s k d) j') : j' = comes j (pm s d) k := by
  rw [came_single h ⟨ha.1, ha.2, hk.1, hk.2⟩ he rfl rfl hj, pc_msg]
  rfl
/-- Nothing in parts, and little: it comes. -/
theorem addE_pc {j : Jn} {a s k : Int} {d : List UInt8} (hd : d ≠ []) (hs : 0 ≤ s ∧ s < j.n) (hc : j.ch = []) (ho : j.oct + d.length ≤ 65536) : addE j (pc a s k d) = 0 :=
  addE_of rfl hd hs (fun x hx => by rw [hc] at hx; cases hx) ho
/-- It is next: it is ready, where nothing waits. -/
theorem comes_next {j : Jn} (h : Wf j) {s k : Int} {d : List UInt8} (hs : 0 ≤ s ∧ s < j.n) (hk : j.nx s = k) (hst : j.st = []) : comes j (pm s d) k = { j with nx := setN j.nx s (up1 k), rd := j.rd ++ [pm s d] } := by
  obtain ⟨n, nx, ch, st, rd⟩ := j
  have hst : st = [] := hst
  subst hst
  have hk : nx s = k := hk
  unfold comes
  rw [if_neg (show ¬ (pm s d).un = true from Bool.false_ne_true), if_neg ?_]
  · show tell ⟨n, nx, ch, [(k, pm s d)], rd⟩ s = _
    unfold tell tellN
    have h1 : hasS [(k, pm s d)] s (nx s) = some (pm s d) := by
      rw [hasS_cons, if_pos ⟨hk.symm, rfl⟩]
    show (match hasS [(k, pm s d)] s (nx s) with | none => _ | some m => tellN 0 (popJ _ s m) s) = _
    rw [h1]
    have h2 : delS [(k, pm s d)] s (nx s) = [] := by
      unfold delS
      rw [List.filter_cons_of_neg (by rw [show isS s (nx s) (k, pm s d) = true from isS_iff.2 ⟨hk.symm, rfl⟩]; decide)]
      rfl
    show Jn.mk n (setN nx s (up1 (nx s))) ch (delS [(k, pm s d)] s (nx s)) (rd ++ [pm s d]) = Jn.mk n (setN nx s (up1 k)) ch [] (rd ++ [pm s d])
    rw [h2, hk]
  · show ¬ (lt16 k (nx s) = true ∨ (hasS [] s k).isSome = true)
    rintro (h1 | h1)
    · rw [hk] at h1
      unfold lt16 at h1
      have := of_decide_eq_true h1
      omega
    · cases h1
/-- It is behind the next one: it waits. -/
theorem comes_wait {j : Jn} (h : Wf j) {s k : Int} {d : List UInt8} (hl : lt16 k (j.nx s) = false) (hn : hasS j.st s k = none) (hne : k ≠ j.nx s) (hno : hasS j.st s (j.nx s) = none) : comes j (pm s d) k = { j with st := (k, pm s d) :: j.st } := by
  unfold comes
  rw [if_neg (show ¬ (pm s d).un = true from Bool.false_ne_true), if_neg ?_]
  · refine tell_none ?_
    show hasS ((k, pm s d) :: j.st) s (j.nx s) = none
    rw [hasS_cons, if_neg fun hc => hne hc.1]
    exact hno
  · show ¬ (lt16 k (j.nx s) = true ∨ (hasS j.st s k).isSome = true)
    rw [hl, hn]
    rintro (h1 | h1) <;> cases h1

/-! ### One is skipped -/
/-- The first i of messages of one octet have come, but for number g. -/
structure Gap (d : Nat → List UInt8) (g i : Nat) (j : Jn) : Prop where
  wf : Wf j
  n : j.n = 1
  ch : j.ch = []
  nx : j.nx 0 = (min i g : Nat)
  st : ∀ k : Nat, hasS j.st 0 (k : Int) = if g < k ∧ k < i then some (pm 0 (d k)) else none
  s0 : i ≤ g → j.st = []
  rd : j.rd = (List.range (min i g)).map fun k => pm 0 (d k)
theorem Gap.new (d : Nat → List UInt8) (g : Nat) : Gap d g 0 (newJ 1) := by
  refine ⟨Wf.new 1, rfl, rfl, ?_, fun k => ?_, fun _ => rfl, ?_⟩
  · rw [Nat.zero_min]; rfl
  · rw [if_neg (by omega)]; rfl
  · rw [Nat.zero_min]; rfl
theorem Gap.skip {d : Nat → List UInt8} {g : Nat} {j : Jn} (h : Gap d g g j) : Gap d g (g + 1) j := by
  refine ⟨h.wf, h.n, h.ch, ?_, fun k => ?_, fun hc => by omega, ?_⟩
  · rw [h.nx, Nat.min_self, Nat.min_eq_right (by omega)]
  · rw [h.st, if_neg (by omega), if_neg (by omega)]
  · rw [h.rd, Nat.min_self, Nat.min_eq_right (by omega)]
theorem Gap.add {d : Nat → List UInt8} {g i : Nat} {j j' : Jn} {a : Int} (h : Gap d g i j) (hi : i ≠ g) (hg : g < 1000) (hb : i < 1000) (ha : 0 ≤ a ∧ a < 4294967296) (hd : (d i).length = 1) (ho : j.oct + 1 ≤ 65536) :
    addE j (pc a 0 (i : Int) (d i)) = 0 ∧ (Came j (pc a 0 (i : Int) (d i)) j' → Gap d g (i + 1) j') := by
  have hs : (0 : Int) ≤ 0 ∧ (0 : Int) < j.n := by rw [h.n]; decide
  have hne : d i ≠ [] := fun hc => by rw [hc] at hd; cases hd
  have he : addE j (pc a 0 (i : Int) (d i)) = 0 := addE_pc hne hs h.ch (by rw [hd]; exact ho)
  refine ⟨he, fun hj => ?_⟩
  have hf : FitsC (pc a 0 (i : Int) (d i)) := ⟨ha.1, ha.2, by show (0 : Int) ≤ i; omega, by show (i : Int) < 65536; omega⟩
  have hw := (came_wf h.wf hf he hj).1
  have e := came_pc h.wf ha ⟨by omega, by omega⟩ he hj
  have hx := h.nx
  rcases Nat.lt_or_ge i g with hc | hc
  · rw [Nat.min_eq_left (by omega)] at hx
    rw [comes_next h.wf hs hx (h.s0 (by omega))] at e
    subst e
    refine ⟨hw, h.n, h.ch, ?_, fun k => ?_, fun _ => h.s0 (by omega), ?_⟩
    · show setN j.nx 0 (up1 i) 0 = _
      rw [setN_at, Nat.min_eq_left (by omega)]
      unfold up1
      omega
    · show hasS j.st 0 (k : Int) = _
      rw [h.st, if_neg (by omega), if_neg (by omega)]
    · show j.rd ++ _ = _
      rw [h.rd, Nat.min_eq_left (by omega), Nat.min_eq_left (by omega), List.range_succ, List.map_append]
      rfl
  · rw [Nat.min_eq_right hc] at hx
    have hl : lt16 (i : Int) (j.nx 0) = false := by
      rw [hx]
      unfold lt16
      exact decide_eq_false (by omega)
    rw [comes_wait h.wf hl (by rw [h.st, if_neg (by omega)]) (by rw [hx]; omega) (by rw [hx, h.st, if_neg (by omega)])] at e
    subst e
    refine ⟨hw, h.n, h.ch, ?_, fun k => ?_, fun hc => by omega, ?_⟩
    · show j.nx 0 = _
      rw [hx, Nat.min_eq_right (by omega)]
    · show hasS (((i : Int), pm 0 (d i)) :: j.st) 0 (k : Int) = _
      rw [hasS_cons, h.st]
      by_cases hk : k = i
      · subst hk
        rw [if_pos ⟨rfl, rfl⟩, if_pos (by omega)]
      · rw [if_neg (by omega)]
        by_cases hq : g < k ∧ k < i
        · rw [if_pos hq, if_pos (by omega)]
        · rw [if_neg hq, if_neg (by omega)]
    · show j.rd = _
      rw [h.rd, Nat.min_eq_right hc, Nat.min_eq_right (by omega)]
/-- Taken. -/
theorem Gap.take {d : Nat → List UInt8} {g i : Nat} {j : Jn} (h : Gap d g i j) (hi : g < i) (hb : i < 1000) (n : Int) :
    j.rd = (List.range g).map (fun k => pm 0 (d k)) ∧ (fwdJ (takeJ j) n [(0, (g : Int))]).rd = (List.range' (g + 1) (i - (g + 1))).map (fun k => pm 0 (d k)) ∧
      octC (fwdJ (takeJ j) n [(0, (g : Int))]).ch = 0 ∧ Wf (fwdJ (takeJ j) n [(0, (g : Int))]) := by
  have hx := h.nx
  have hr := h.rd
  rw [Nat.min_eq_right (by omega)] at hx hr
  have hw := (fwd_wf (take_wf h.wf).1 n [(0, (g : Int))]).1
  have hj0 : (takeJ j).ch.filter (fun x => !le32 x.a n) = [] := by
    show j.ch.filter _ = []
    rw [h.ch]
    rfl
  have hgo : goJ (takeJ j) 0 = { takeJ j with nx := setN j.nx 0 (up1 g) } := by
    unfold goJ
    rw [show hasS (takeJ j).st 0 ((takeJ j).nx 0) = none by show hasS j.st 0 (j.nx 0) = none; rw [hx, h.st, if_neg (by omega)]]
    show ({ takeJ j with nx := setN j.nx 0 (up1 (j.nx 0)) } : Jn) = _
    rw [hx]
  have e : fwdJ (takeJ j) n [(0, (g : Int))] = tell { takeJ j with nx := setN j.nx 0 (up1 g) } 0 := by
    unfold fwdJ
    rw [hj0, List.foldl_cons, List.foldl_nil]
    have : ({ takeJ j with ch := [] } : Jn) = takeJ j := by
      unfold takeJ
      rw [← h.ch]
    rw [this]
    unfold skipJ
    rw [if_neg ?_]
    · show tell (goN ((((g : Int) - j.nx 0) % 65536).toNat + 1) (takeJ j) 0) 0 = _
      rw [hx, Int.sub_self]
      show tell (goJ (takeJ j) 0) 0 = _
      rw [hgo]
    · show ¬ (¬ ((0 : Int) ≤ 0 ∧ (0 : Int) < j.n) ∨ lt16 (g : Int) (j.nx 0) = true)
      rw [h.n, hx]
      rintro (h1 | h1)
      · exact h1 (by decide)
      · unfold lt16 at h1
        have := of_decide_eq_true h1
        omega
  have hw1 : Wf { takeJ j with nx := setN j.nx 0 (up1 g) } := { (take_wf h.wf).1 with nx := setN_in h.wf.nx (up1_in _) }
  obtain ⟨st', e1, e2⟩ := tell_seq (fun k => pm 0 (d k)) 0 (i - (g + 1)) (g + 1) { takeJ j with nx := setN j.nx 0 (up1 g) } hw1
    (by show setN j.nx 0 (up1 g) 0 = _; rw [setN_at]; unfold up1; omega)
    (fun k a b => by show hasS j.st 0 (k : Int) = _; rw [h.st, if_pos (by omega)])
    (by show hasS j.st 0 _ = _; rw [h.st, if_neg (by omega)]) (by omega)
  refine ⟨hr, ?_, ?_, hw⟩
  · rw [e, e1]
    show [] ++ _ = _
    rw [List.nil_append]
  · rw [e, e1]
    show octC j.ch = 0
    rw [h.ch]
    rfl

/-! ### The document's example -/
theorem ex_one : comes (newJ 2) (pm 0 [9]) 1 = ⟨2, fun _ => 0, [], [(1, pm 0 [9])], []⟩ := rfl
theorem ex_two : ∃ f, comes ⟨2, fun _ => 0, [], [(1, pm 0 [9])], []⟩ (pm 0 [8]) 0 = ⟨2, f, [], [], [pm 0 [8], pm 0 [9]]⟩ := ⟨_, rfl⟩
end Go.Proofs.Ythpcblbciidmeaa
