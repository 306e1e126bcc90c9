/- SendqGives, in plain mathematics. -/
import Derived.Test.YtbkepkiaabeliaaQ45
import Derived.Test.YtbkepkiaabeliaaQ33
namespace Go.Proofs.Ytbkepkiaabeliaa
open Go.RowKit Go.Maps
set_option linter.unusedVariables false

theorem takeGo_skip {now : Int} {n : Nat} : ∀ (j i m : Nat) (es : List En) (r : Int) (t : List CZ), (∀ d, d < j → ∃ e, es[ixD n (i + d)]? = some e ∧ e.st ≠ phD n (i + d)) → takeGo now n (j + m) i es r t = takeGo now n m (i + j) es r t
  | 0, i, m, es, r, t, _ => by rw [Nat.zero_add, Nat.add_zero]
  | j + 1, i, m, es, r, t, h => by
    obtain ⟨e, h1, h2⟩ := h 0 (Nat.succ_pos j)
    rw [Nat.add_zero] at h1 h2
    rw [show j + 1 + m = (j + m) + 1 by omega, takeGo_no h1 h2, takeGo_skip j (i + 1) m es r t (fun d hd => by
      have := h (d + 1) (by omega)
      rwa [show i + (d + 1) = i + 1 + d by omega] at this), show i + 1 + j = i + (j + 1) by omega]
/-- A queue with a message's entries ahead of one more of another message. -/
structure GvQ (K : Nat) (u fl st ss : Int) (m1 m2 : Nat) (s : Int) (q : Qm) (l : List En) (x : En) : Prop where
  es : q.es = l ++ [x]
  ln : l.length = K
  ne : m1 ≠ m2
  xm : x.m = m2
  xs : x.st = 0
  xl : lenE x = 5
  all : ∀ e ∈ l, e.m = m1 ∧ e.st = s ∧ e.c.fl = fl ∧ e.c.ou = st ∧ e.c.si = ss
theorem exC_closed {now : Int} {mg : Nat → Mg} {e : En} (h1 : (mg e.m).un < 0 ∨ now ≤ (mg e.m).un) (h2 : (mg e.m).tr < 0) : exC now mg e = false := by
  unfold exC expB
  have a1 : (decide (0 ≤ (mg e.m).un) && decide ((mg e.m).un < now)) = false := by
    rw [Bool.and_eq_false_iff, decide_eq_false_iff_not, decide_eq_false_iff_not]
    omega
  have a2 : decide (0 ≤ (mg e.m).tr) = false := by rw [decide_eq_false_iff_not]; omega
  rw [a1, a2]
  simp
theorem ex_none {now : Int} {es : List En} {mg : Nat → Mg} (h : ∀ e ∈ es, exC now mg e = false) : ∀ i, exM now es mg i = mg ∧ exN now es mg i = 0
  | 0 => ⟨rfl, rfl⟩
  | i + 1 => by
    obtain ⟨h1, h2⟩ := ex_none h i
    cases he : es[i]? with
    | none =>
      constructor
      · rw [exM, he]; exact h1
      · rw [exN, he]; exact h2
    | some e =>
      obtain ⟨e1, e2⟩ := exM_no he (by rw [h1, h e (List.mem_of_getElem? he)]; decide)
      exact ⟨e1.trans h1, e2.trans h2⟩
theorem gvE_same {mg : Nat → Mg} {e : En} (h : (mg e.m).gv = false) : gvE mg e = e := by
  unfold gvE
  rw [if_neg (fun hc => by rw [h] at hc; exact absurd hc.2 (by decide))]
section
variable {K : Nat} {u fl st ss : Int} {m1 m2 : Nat} {q : Qm} {l : List En} {x : En}
theorem gv_early (h : GvQ K u fl st ss m1 m2 0 q l x) (h1 : q.mg m1 = ⟨u, -1, false⟩) (h2 : q.mg m2 = ⟨-1, -1, false⟩) : exN u q.es q.mg q.es.length = 0 ∧ (⟨q.es.map (gvE (exM u q.es q.mg q.es.length)), q.nx, exM u q.es q.mg q.es.length⟩ : Qm) = q := by
  have hm : ∀ e ∈ q.es, e.m = m1 ∨ e.m = m2 := fun e he => by
    rw [h.es] at he
    rcases List.mem_append.1 he with he | he
    · exact .inl (h.all e he).1
    · exact .inr (by rw [List.mem_singleton.1 he]; exact h.xm)
  obtain ⟨a1, a2⟩ := ex_none (now := u) (es := q.es) (mg := q.mg) (fun e he => by
    rcases hm e he with h3 | h3
    · exact exC_closed (by rw [h3, h1]; exact .inr (Int.le_refl _)) (by rw [h3, h1]; show (-1 : Int) < 0; decide)
    · exact exC_closed (by rw [h3, h2]; exact .inl (by decide)) (by rw [h3, h2]; decide)) q.es.length
  refine ⟨a2, ?_⟩
  rw [a1]
  have : q.es.map (gvE q.mg) = q.es := by
    conv => rhs; rw [← List.map_id q.es]
    refine List.map_congr_left fun e he => ?_
    refine gvE_same ?_
    rcases hm e he with h3 | h3 <;> rw [h3]
    · rw [h1]
    · rw [h2]
  rw [this]
theorem gv_given (h : GvQ K u fl st ss m1 m2 0 q l x) (h1 : q.mg m1 = ⟨u, -1, false⟩) (h2 : q.mg m2 = ⟨-1, -1, false⟩) (hu : 0 ≤ u) (hK : 0 < K) :
    exN (u + 1) q.es q.mg q.es.length = 1 ∧ GvQ K u fl st ss m1 m2 4 ⟨q.es.map (gvE (exM (u + 1) q.es q.mg q.es.length)), q.nx, exM (u + 1) q.es q.mg q.es.length⟩ (l.map fun e => { e with st := 4 }) x := by
  have hel : q.es.length = K + 1 := by rw [h.es, List.length_append, h.ln]; rfl
  have key : ∀ i, i ≤ K → exM (u + 1) q.es q.mg (i + 1) = setGv q.mg m1 ∧ exN (u + 1) q.es q.mg (i + 1) = 1 := by
    intro i
    induction i with
    | zero =>
      intro _
      have h0 : 0 < l.length := by rw [h.ln]; exact hK
      have he : q.es[0]? = some l[0] := by rw [h.es, List.getElem?_append_left h0, List.getElem?_eq_getElem h0]
      obtain ⟨b1, b2, _⟩ := h.all l[0] (List.getElem_mem _)
      obtain ⟨e1, e2⟩ := exM_yes (now := u + 1) (mg := q.mg) he (by
        show exC (u + 1) q.mg l[0] = true
        unfold exC expB
        rw [b1, b2, h1]
        have a1 : decide (0 ≤ u) = true := decide_eq_true hu
        have a2 : decide (u < u + 1) = true := decide_eq_true (by omega)
        simp only [a1, a2]
        rfl)
      rw [e1, e2, b1]
      exact ⟨rfl, rfl⟩
    | succ i ih =>
      intro hi
      obtain ⟨i1, i2⟩ := ih (by omega)
      have hl : i + 1 < q.es.length := by omega
      have he : q.es[i + 1]? = some q.es[i + 1] := List.getElem?_eq_getElem hl
      have hno : exC (u + 1) (setGv q.mg m1) q.es[i + 1] = false := by
        have hm := List.getElem_mem hl
        generalize q.es[i + 1] = e at hm
        rw [h.es] at hm
        rcases List.mem_append.1 hm with hm | hm
        · unfold exC
          have : (setGv q.mg m1 e.m).gv = true := by rw [(h.all e hm).1]; unfold setGv; rw [if_pos rfl]
          rw [this]
          simp
        · rw [List.mem_singleton.1 hm]
          have hx : setGv q.mg m1 x.m = ⟨-1, -1, false⟩ := by rw [h.xm]; unfold setGv; rw [if_neg (fun e => h.ne e.symm), h2]
          exact exC_closed (by rw [hx]; exact .inl (by decide)) (by rw [hx]; decide)
      obtain ⟨e1, e2⟩ := exM_no he (by rw [i1, hno]; decide)
      exact ⟨e1.trans i1, e2.trans i2⟩
  obtain ⟨k1, k2⟩ := key K (Nat.le_refl _)
  rw [hel, k1, k2]
  refine ⟨rfl, ?_, by rw [List.length_map]; exact h.ln, h.ne, h.xm, h.xs, h.xl, fun e he => ?_⟩
  · show q.es.map (gvE (setGv q.mg m1)) = _
    rw [h.es, List.map_append, List.map_cons, List.map_nil]
    have hx : gvE (setGv q.mg m1) x = x := gvE_same (by rw [h.xm]; unfold setGv; rw [if_neg (fun e => h.ne e.symm), h2])
    rw [hx]
    congr 1
    refine List.map_congr_left fun e he => ?_
    obtain ⟨b1, b2, _⟩ := h.all e he
    unfold gvE
    rw [if_pos ⟨.inl b2, by rw [b1]; unfold setGv; rw [if_pos rfl]⟩]
  · obtain ⟨y, hy, rfl⟩ := List.mem_map.1 he
    obtain ⟨b1, b2, b3⟩ := h.all y hy
    exact ⟨b1, rfl, b3⟩
/-- What is told to be skipped. -/
theorem gv_forward (h : GvQ K u fl st ss m1 m2 4 q l x) (hK : 0 < K) (hn : Nums q) : dnN q.es = K ∧ fwE (flr q) (q.es.take K) K = ((flr q + (K : Int)) % 4294967296, true, if (bits .and .u8 fl 4 == 0) = true then [(st, ss)] else []) := by
  have hd : dnN q.es = K := by
    unfold dnN
    rw [h.es, List.takeWhile_append_of_pos (fun e he => by unfold openB; rw [(h.all e he).2.1]; rfl), List.takeWhile_cons_of_neg (by unfold openB; rw [h.xs]; decide), List.append_nil, h.ln]
  refine ⟨hd, ?_⟩
  have ht : q.es.take K = l := by rw [h.es, ← h.ln, List.take_left]
  rw [ht]
  have key : ∀ i, i < K → fwE (flr q) l (i + 1) = ((flr q + ((i + 1 : Nat) : Int)) % 4294967296, true, if (bits .and .u8 fl 4 == 0) = true then [(st, ss)] else []) := by
    intro i
    induction i with
    | zero =>
      intro hi
      have hl : 0 < l.length := by rw [h.ln]; exact hi
      have he : l[0]? = some l[0] := List.getElem?_eq_getElem hl
      obtain ⟨b1, b2, b3, b4, b5⟩ := h.all l[0] (List.getElem_mem _)
      rw [fwE_yes he b2]
      have ha := hn 0 l[0] (by rw [h.es, List.getElem?_append_left hl]; exact he)
      rw [ha]
      unfold ordB
      rw [b3, b4, b5]
      exact Prod.ext_iff.2 ⟨by dsimp only; congr 1; omega, rfl⟩
    | succ i ih =>
      intro hi
      have hl : i + 1 < l.length := by rw [h.ln]; exact hi
      have he : l[i + 1]? = some l[i + 1] := List.getElem?_eq_getElem hl
      obtain ⟨b1, b2, b3, b4, b5⟩ := h.all l[i + 1] (List.getElem_mem _)
      rw [fwE_yes he b2, ih (by omega)]
      have ha := hn (i + 1) l[i + 1] (by rw [h.es, List.getElem?_append_left hl]; exact he)
      rw [ha]
      unfold ordB
      rw [b3, b4, b5]
      refine Prod.ext_iff.2 ⟨by dsimp only; congr 1; omega, Prod.ext_iff.2 ⟨rfl, ?_⟩⟩
      dsimp only
      split
      · rw [skL, if_pos rfl]
      · rfl
  obtain ⟨j, rfl⟩ : ∃ j, K = j + 1 := ⟨K - 1, by omega⟩
  exact key j (Nat.lt_succ_self j)
theorem gv_take (h : GvQ K u fl st ss m1 m2 4 q l x) (now : Int) : (takeQ q now 1000).2 = [x.c] ∧ x ∈ q.es ∧ q.es[K]? = some x := by
  have hel : q.es.length = K + 1 := by rw [h.es, List.length_append, h.ln]; rfl
  have hx : q.es[K]? = some x := by rw [h.es, List.getElem?_append_right (by rw [h.ln]; exact Nat.le_refl _), h.ln, Nat.sub_self]; rfl
  refine ⟨?_, List.mem_of_getElem? hx, hx⟩
  unfold takeQ
  have hs := takeGo_skip (now := now) (n := q.es.length) (q.es.length + K) 0 1 q.es 1000 [] (fun d hd => by
    rw [Nat.zero_add]
    have hix : ixD q.es.length d < q.es.length := by unfold ixD; split <;> omega
    refine ⟨q.es[ixD q.es.length d], List.getElem?_eq_getElem hix, ?_⟩
    by_cases hd1 : d < q.es.length
    · have : phD q.es.length d = 2 := by unfold phD; rw [if_pos hd1]
      rw [this]
      have hm := List.getElem_mem hix
      generalize q.es[ixD q.es.length d] = e at hm
      rw [h.es] at hm
      rcases List.mem_append.1 hm with hm | hm
      · rw [(h.all e hm).2.1]; decide
      · rw [List.mem_singleton.1 hm, h.xs]; decide
    · have h3 : phD q.es.length d = 0 := by unfold phD; rw [if_neg hd1]
      have h4 : ixD q.es.length d = d - q.es.length := by unfold ixD; rw [if_neg hd1]
      rw [h3]
      have h5 : d - q.es.length < l.length := by rw [h.ln]; omega
      have h7 : ∀ p, p < l.length → q.es[p]? = l[p]? := fun p hp => by rw [h.es, List.getElem?_append_left hp]
      have h6 := h7 _ h5
      rw [← h4, List.getElem?_eq_getElem hix] at h6
      rw [(h.all _ (List.mem_of_getElem? h6.symm)).2.1]
      decide)
  rw [show q.es.length + q.es.length = q.es.length + K + 1 by omega, hs, Nat.zero_add]
  have hix : ixD q.es.length (q.es.length + K) = K := by unfold ixD; rw [if_neg (by omega)]; omega
  have hxl := h.xl
  unfold lenE at hxl
  rw [takeGo_yes (e := x) (by rw [hix]; exact hx) (by unfold phD; rw [if_neg (by omega)]; exact h.xs) (by rw [hxl]; decide)]
  rfl
end
end Go.Proofs.Ytbkepkiaabeliaa
