/- SendqAll, in plain mathematics. -/
import Derived.Test.YtbkepkiaabeliaaQ36
namespace Go.Proofs.Ytbkepkiaabeliaa
open Go.RowKit Go.Maps
set_option linter.unusedVariables false

/-- In the first turn all that is lost is sent. -/
theorem take_lost {now : Int} {n : Nat} : ∀ (k i : Nat) (es : List En) (r : Int) (t : List CZ) (m : Nat), es.length = n → i + k = n → (∀ j e, i ≤ j → es[j]? = some e → e.st = 2) → (((es.drop i).map lenE).sum : Int) ≤ r → ∃ r', takeGo now n (k + m) i es r t = takeGo now n m n (es.take i ++ (es.drop i).map (sendE now)) r' (t ++ (es.drop i).map En.c)
  | 0, i, es, r, t, m, hl, hk, hz, hs => ⟨r, by
      obtain rfl : i = n := by omega
      rw [Nat.zero_add, List.take_of_length_le (by omega), List.drop_eq_nil_of_le (by omega)]
      simp⟩
  | k + 1, i, es, r, t, m, hl, hk, hz, hs => by
    have hi : i < es.length := by omega
    have hix : ixD n i = i := by unfold ixD; rw [if_pos (by omega)]
    have he : es[ixD n i]? = some es[i] := by rw [hix]; exact List.getElem?_eq_getElem hi
    have hst : (es[i]).st = phD n i := by
      unfold phD
      rw [if_pos (by omega)]
      exact hz i _ (Nat.le_refl _) (List.getElem?_eq_getElem hi)
    have hcons : es.drop i = es[i] :: es.drop (i + 1) := List.drop_eq_getElem_cons hi
    rw [hcons, List.map_cons, List.sum_cons] at hs
    have hr : ¬ r < ((es[i]).c.da.2.1 : Int) := by unfold lenE at hs; omega
    rw [show k + 1 + m = (k + m) + 1 by omega, takeGo_yes he hst hr, hix]
    have hset : ∀ (j : Nat), (es.set i (sendE now es[i]))[j]? = if j = i then some (sendE now es[i]) else es[j]? := fun j => by
      rw [List.getElem?_set]
      by_cases h : i = j
      · subst h
        rw [if_pos rfl, if_pos hi, if_pos rfl]
      · rw [if_neg h, if_neg (fun x => h x.symm)]
    have hdrop : (es.set i (sendE now es[i])).drop (i + 1) = es.drop (i + 1) := List.drop_set_of_lt (by omega)
    have htake : (es.set i (sendE now es[i])).take (i + 1) = es.take i ++ [sendE now es[i]] := by
      rw [List.take_add_one, List.take_set_of_le (Nat.le_refl _), hset, if_pos rfl]
      rfl
    obtain ⟨r', h⟩ := take_lost (now := now) (n := n) k (i + 1) (es.set i (sendE now es[i])) (r - ((es[i]).c.da.2.1 : Int)) (t ++ [(es[i]).c]) m (by rw [List.length_set]; exact hl) (by omega) (fun j e hj he' => by
      rw [hset, if_neg (by omega)] at he'
      exact hz j e (by omega) he') (by rw [hdrop]; unfold lenE at hs ⊢; omega)
    refine ⟨r', ?_⟩
    rw [h, hdrop, htake, hcons, List.map_cons, List.map_cons]
    simp only [List.append_assoc, List.cons_append, List.nil_append]
theorem take_past {now : Int} {n : Nat} : ∀ (m i : Nat) (es : List En) (r : Int) (t : List CZ), n ≤ i → (∀ e ∈ es, e.st ≠ 0) → takeGo now n m i es r t = (es, t)
  | 0, _, _, _, _, _, _ => rfl
  | m + 1, i, es, r, t, hi, hz => by
    cases he : es[ixD n i]? with
    | none => rw [takeGo, he]
    | some e =>
      rw [takeGo_no he (by unfold phD; rw [if_neg (by omega)]; exact hz e (List.mem_of_getElem? he))]
      exact take_past m (i + 1) es r t (by omega) hz
/-- A queue of which all waits, or all is lost, and for all of which there is room. -/
theorem take_all {q : Qm} {now room : Int} (hst : (∀ e ∈ q.es, e.st = 0) ∨ (∀ e ∈ q.es, e.st = 2)) (hs : ((q.es.map lenE).sum : Int) ≤ room) : takeQ q now room = (q.es.map (sendE now), q.es.map En.c) := by
  rcases hst with hz | hz
  · obtain ⟨d, hT⟩ := take_new hz now room
    have hd := hT.hd
    rw [Nat.zero_add] at hd
    have hd2 : d = q.es.length := by
      by_cases h : d = q.es.length
      · exact h
      · have hlt : d < q.es.length := by omega
        have h1 := hT.full q.es[d] (by rw [Nat.zero_add]; exact List.getElem?_eq_getElem hlt)
        rw [List.drop_zero] at h1
        have h2 : (q.es.map lenE).sum = ((q.es.take d).map lenE).sum + lenE q.es[d] + ((q.es.drop (d + 1)).map lenE).sum := by
          have h3 : q.es = q.es.take d ++ (q.es[d] :: q.es.drop (d + 1)) := by rw [← List.drop_eq_getElem_cons hlt, List.take_append_drop]
          have h4 : (q.es.map lenE).sum = ((q.es.take d ++ (q.es[d] :: q.es.drop (d + 1))).map lenE).sum := congrArg (fun l => (l.map lenE).sum) h3
          rw [List.map_append, List.sum_append, List.map_cons, List.sum_cons] at h4
          omega
        omega
    have ho := hT.o
    have hc := hT.c
    rw [List.take_zero, List.nil_append, List.drop_zero, Nat.zero_add, hd2, List.take_length, List.drop_length, List.append_nil] at ho
    rw [List.nil_append, List.drop_zero, hd2, List.take_length] at hc
    rw [← ho, ← hc]
  · unfold takeQ
    obtain ⟨r', h⟩ := take_lost (now := now) (n := q.es.length) q.es.length 0 q.es room [] q.es.length rfl (by omega) (fun j e _ he => hz e (List.mem_of_getElem? he)) (by rw [List.drop_zero]; exact hs)
    rw [h, List.take_zero, List.nil_append, List.drop_zero, List.nil_append]
    exact take_past _ _ _ _ _ (Nat.le_refl _) fun e he => by
      obtain ⟨x, _, rfl⟩ := List.mem_map.1 he
      show (1 : Int) ≠ 0
      decide
/-! ### Which came -/
/-- How many of the first ones came. -/
def lead : List Bool → Nat
  | [] => 0
  | b :: r => if b = true then lead r + 1 else 0
theorem lead_le : ∀ g : List Bool, lead g ≤ g.length
  | [] => Nat.le_refl _
  | b :: r => by
    have := lead_le r
    rw [lead, List.length_cons]
    split <;> omega
theorem lead_get : ∀ {g : List Bool} {j : Nat}, j < lead g → g[j]? = some true
  | [], j, h => by rw [lead] at h; omega
  | b :: r, j, h => by
    rw [lead] at h
    split at h
    · rename_i hb
      subst hb
      cases j with
      | zero => rfl
      | succ j => exact lead_get (g := r) (by omega)
    · omega
theorem lead_at : ∀ {g : List Bool}, lead g < g.length → g[lead g]? = some false
  | [], h => by rw [lead] at h; exact absurd h (Nat.lt_irrefl _)
  | b :: r, h => by
    rw [lead, List.length_cons] at h
    rw [lead]
    cases b with
    | true =>
      rw [if_pos rfl] at h ⊢
      exact lead_at (g := r) (by omega)
    | false => rfl
theorem lead_ge : ∀ {c : Nat} {g : List Bool}, (∀ j : Nat, j < c → g[j]? = some true) → c ≤ lead g
  | 0, _, _ => Nat.zero_le _
  | c + 1, [], h => by have := h 0 (by omega); cases this
  | c + 1, b :: r, h => by
    have h0 := h 0 (by omega)
    injection h0 with h0
    subst h0
    rw [lead, if_pos rfl]
    have := lead_ge (c := c) (g := r) fun j hj => h (j + 1) (by omega)
    omega
theorem lead_mono {g g' : List Bool} (h : ∀ j : Nat, g[j]? = some true → g'[j]? = some true) : lead g ≤ lead g' := lead_ge fun j hj => h j (lead_get hj)
def mk1 (lost : List Bool) (a d : Nat) (g : List Bool) : List Bool := if lost.getD a false = true then g else g.set d true
/-- What came of the i that were told, the first of them the c-th, by the losses from the a-th on. -/
def mks (lost : List Bool) (a c : Nat) (g : List Bool) : Nat → List Bool
  | 0 => g
  | i + 1 => mk1 lost (a + i) (c + i) (mks lost a c g i)
theorem mk1_len (lost : List Bool) (a d : Nat) (g : List Bool) : (mk1 lost a d g).length = g.length := by unfold mk1; split <;> simp
theorem mks_len (lost : List Bool) (a c : Nat) (g : List Bool) : ∀ i, (mks lost a c g i).length = g.length
  | 0 => rfl
  | i + 1 => by rw [mks, mk1_len, mks_len lost a c g i]
theorem mk1_keep {lost : List Bool} {a d j : Nat} {g : List Bool} (h : g[j]? = some true) : (mk1 lost a d g)[j]? = some true := by
  unfold mk1
  split
  · exact h
  · rw [List.getElem?_set]
    split
    · rename_i hd
      subst hd
      rw [if_pos (List.getElem?_eq_some_iff.1 h).1]
    · exact h
theorem mks_keep {lost : List Bool} {a c j : Nat} {g : List Bool} (h : g[j]? = some true) : ∀ i, (mks lost a c g i)[j]? = some true
  | 0 => h
  | i + 1 => mk1_keep (mks_keep h i)
theorem mks_first {lost : List Bool} {a c : Nat} {g : List Bool} (hc : c < g.length) (hl : lost.getD a false = false) : ∀ i, 0 < i → (mks lost a c g i)[c]? = some true
  | 0, h => absurd h (Nat.lt_irrefl _)
  | 1, _ => by
    show (mk1 lost (a + 0) (c + 0) g)[c]? = some true
    unfold mk1
    rw [Nat.add_zero, Nat.add_zero, if_neg (by rw [hl]; decide), List.getElem?_set, if_pos rfl, if_pos hc]
  | i + 2, _ => mk1_keep (mks_first hc hl (i + 1) (Nat.succ_pos _))
/-- Each turn one more came, or one more loss is over. -/
theorem turn_more {lost : List Bool} {a c i : Nat} {g : List Bool} (hc : c = lead g) (hlt : c < g.length) (hi : 0 < i) : lead g ≤ lead (mks lost a c g i) ∧ lead g + min a lost.length + 1 ≤ lead (mks lost a c g i) + min (a + i) lost.length := by
  have h1 : lead g ≤ lead (mks lost a c g i) := lead_mono fun j hj => mks_keep hj i
  refine ⟨h1, ?_⟩
  cases hl : lost.getD a false with
  | true =>
    have ha : a < lost.length := by
      rcases Nat.lt_or_ge a lost.length with h | h
      · exact h
      · rw [List.getD_eq_getElem?_getD, List.getElem?_eq_none h] at hl
        cases hl
    omega
  | false =>
    have h2 : lead g + 1 ≤ lead (mks lost a c g i) := lead_ge fun j hj => by
      by_cases h : j < lead g
      · exact mks_keep (lead_get h) i
      · obtain rfl : j = c := by omega
        exact mks_first hlt hl i hi
    omega
/-- An answer without blocks, of entries that all fly. -/
theorem all_ack {q : Qm} {c0 : Int} (hst : ∀ e ∈ q.es, e.st = 1) (d : Nat) (hd : d ≤ q.es.length) (hl : q.es.length ≤ 1024) (hc : c0 = (flr q + (d : Int)) % 4294967296) : reachedB q c0 = true ∧ ackE q c0 [] = q.es.drop d ∧ flr (ackQ q c0 []) = c0 := by
  have hfl := flr_in q
  have hdi : dist32 (flr q) c0 = (d : Int) := dist_of _ _ d (by omega) hc
  have hs : stp q c0 = d := by
    unfold stp
    rw [hdi, if_pos (by omega)]
    omega
  have hre : reachedB q c0 = true := by
    unfold reachedB
    rw [hs]
    have h1 : (q.es.take d).any waitsB = false := by
      rw [List.any_eq_false]
      intro e he
      unfold waitsB
      rw [hst e (List.mem_of_mem_take he)]
      decide
    rw [h1, Bool.not_false, Bool.and_true, Bool.or_eq_true, decide_eq_true_eq, beq_iff_eq]
    by_cases h0 : 0 < d
    · exact .inl h0
    · right
      obtain rfl : d = 0 := by omega
      rw [hc]
      omega
  have ht : ∀ i, toldB [] i = false := fun i => by
    unfold toldB
    rw [decide_eq_false_iff_not]
    show ¬ ((i + 1 : Nat) : Int) ≤ rch [] (i + 1)
    have : rch [] (i + 1) = 0 := rfl
    omega
  have hcam : ∀ (es : List En) (i : Nat), camG [] es i = [] := fun es i => by
    induction i with
    | zero => rfl
    | succ i ih =>
      rw [camG, ih]
      cases es[i]? with
      | none => rfl
      | some e =>
        dsimp only
        rw [if_neg (by rw [ht]; exact fun hc => absurd hc.1 (by decide))]
        rfl
  have hE : ackE q c0 [] = q.es.drop d := by
    unfold ackE midL camL
    rw [if_pos (hcam _ _)]
    unfold leftL
    rw [hs]
    apply List.ext_getElem?
    intro i
    rw [List.getElem?_mapIdx]
    cases he : (q.es.drop d)[i]? with
    | none => rfl
    | some e =>
      have h1 := hst e (List.mem_of_mem_drop (List.mem_of_getElem? he))
      show some (comeE [] i e) = some e
      unfold comeE
      rw [ht, if_neg (by decide), if_neg (by rw [h1]; decide)]
  refine ⟨hre, hE, ?_⟩
  have h1 := reached_flr (q := q) (cum := c0) (by omega) hre
  have h3 : flr (ackQ q c0 []) = flr (cutQ q (stp q c0)) := by
    unfold flr
    show (q.nx - ((ackE q c0 []).length : Int) - 1) % 4294967296 = (q.nx - ((q.es.drop (stp q c0)).length : Int) - 1) % 4294967296
    rw [hE, hs]
  exact h3.trans h1
end Go.Proofs.Ytbkepkiaabeliaa
