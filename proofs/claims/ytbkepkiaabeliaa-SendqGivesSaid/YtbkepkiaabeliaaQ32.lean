/- SendqRoom, in plain mathematics. -/
import Derived.Test.YtbkepkiaabeliaaQ31
import Derived.Test.YtbkepkiaabeliaaBits
import Derived.Test.YtbkepkiaabeliaaNums
namespace Go.Proofs.Ytbkepkiaabeliaa
open Go.RowKit Go.Maps
set_option linter.unusedVariables false

def lenE (e : En) : Nat := e.c.da.2.1
def octsL (es : List En) (sts : List Int) : Nat := ((es.filter fun e => decide (e.st ∈ sts)).map lenE).sum
theorem octs_take (es : List En) (sts : List Int) : ∀ k, sumF (octF es sts) k = octsL (es.take k) sts
  | 0 => by simp [sumF, octsL]
  | k + 1 => by
    rw [sumF, octs_take es sts k, List.take_add_one]
    unfold octF octsL
    cases he : es[k]? with
    | none => simp
    | some e =>
      dsimp only
      rw [Option.toList_some, List.filter_append, List.map_append, List.sum_append]
      by_cases hs : e.st ∈ sts
      · rw [if_pos hs, List.filter_cons_of_pos (by simpa using hs)]
        simp [lenE]
      · rw [if_neg hs, List.filter_cons_of_neg (by simpa using hs)]
        simp
theorem octs_eq (es : List En) (sts : List Int) : octs es sts = octsL es sts := by
  unfold octs
  rw [octs_take, List.take_length]
theorem octsL_app (a b : List En) (sts : List Int) : octsL (a ++ b) sts = octsL a sts + octsL b sts := by simp [octsL]
theorem octsL_all {es : List En} {sts : List Int} (h : ∀ e ∈ es, e.st ∈ sts) : octsL es sts = (es.map lenE).sum := by
  unfold octsL
  rw [List.filter_eq_self.2 fun e he => decide_eq_true (h e he)]
theorem octsL_none {es : List En} {sts : List Int} (h : ∀ e ∈ es, ¬ e.st ∈ sts) : octsL es sts = 0 := by
  unfold octsL
  rw [List.filter_eq_nil_iff.2 fun e he => by simpa using h e he]
  rfl
/-- In the first turn nothing is lost. -/
theorem take_skip {now : Int} {n : Nat} : ∀ (i k : Nat) (es : List En) (r : Int) (t : List CZ), es.length = n → i + k ≤ n → (∀ e ∈ es, e.st = 0) → ∀ m, takeGo now n (k + m) i es r t = takeGo now n m (i + k) es r t
  | i, 0, es, r, t, _, _, _, m => by rw [Nat.zero_add, Nat.add_zero]
  | i, k + 1, es, r, t, hl, hk, hz, m => by
    have he : es[ixD n i]? = some es[i] := by
      rw [show ixD n i = i by unfold ixD; rw [if_pos (by omega)]]
      exact List.getElem?_eq_getElem (by omega)
    rw [show k + 1 + m = (k + m) + 1 by omega, takeGo_no he (by
      rw [hz _ (List.getElem_mem _)]
      unfold phD
      rw [if_pos (by omega)]
      decide), take_skip (i + 1) k es r t hl (by omega) hz m, show i + 1 + k = i + (k + 1) by omega]
structure Tk (now : Int) (es : List En) (j : Nat) (r : Int) (t : List CZ) (R : List En × List CZ) (d : Nat) : Prop where
  hd : j + d ≤ es.length
  o : R.1 = es.take j ++ ((es.drop j).take d).map (sendE now) ++ es.drop (j + d)
  c : R.2 = t ++ ((es.drop j).take d).map En.c
  fit : d = 0 ∨ ((((es.drop j).take d).map lenE).sum : Int) ≤ r
  full : ∀ e, es[j + d]? = some e → r < ((((es.drop j).take d).map lenE).sum : Int) + (lenE e : Int)
theorem take_tk {now : Int} {n : Nat} : ∀ (k j : Nat) (es : List En) (r : Int) (t : List CZ), es.length = n → j + k = n → (∀ i e, j ≤ i → es[i]? = some e → e.st = 0) → ∃ d, Tk now es j r t (takeGo now n k (n + j) es r t) d
  | 0, j, es, r, t, hl, hk, hz => ⟨0, by omega, by simp [takeGo], by simp [takeGo], .inl rfl, fun e he => by
      have := (List.getElem?_eq_some_iff.1 he).1
      omega⟩
  | k + 1, j, es, r, t, hl, hk, hz => by
    have hj : j < es.length := by omega
    have hix : ixD n (n + j) = j := by unfold ixD; rw [if_neg (by omega)]; omega
    have he : es[ixD n (n + j)]? = some es[j] := by rw [hix]; exact List.getElem?_eq_getElem hj
    have hst : (es[j]).st = phD n (n + j) := by
      unfold phD
      rw [if_neg (by omega)]
      exact hz j _ (Nat.le_refl _) (List.getElem?_eq_getElem hj)
    by_cases hr : r < ((es[j]).c.da.2.1 : Int)
    · rw [takeGo_full he hst hr]
      refine ⟨0, by omega, by simp, by simp, .inl rfl, fun e he' => ?_⟩
      rw [Nat.add_zero, List.getElem?_eq_getElem hj] at he'
      injection he' with he'
      subst he'
      simpa [lenE] using hr
    · rw [takeGo_yes he hst hr, hix, show n + j + 1 = n + (j + 1) by omega]
      have hset : ∀ (i : Nat), (es.set j (sendE now es[j]))[i]? = if i = j then some (sendE now es[j]) else es[i]? := fun i => by
        rw [List.getElem?_set]
        by_cases h : j = i
        · subst h
          rw [if_pos rfl, if_pos hj, if_pos rfl]
        · rw [if_neg h, if_neg (fun x => h x.symm)]
      obtain ⟨d, h1, h2, h3, h4, h5⟩ := take_tk (now := now) (n := n) k (j + 1) (es.set j (sendE now es[j])) (r - ((es[j]).c.da.2.1 : Int)) (t ++ [(es[j]).c]) (by rw [List.length_set]; exact hl) (by omega) (fun i e hi he' => by
        rw [hset, if_neg (by omega)] at he'
        exact hz i e (by omega) he')
      have hdrop : ∀ m, j < m → (es.set j (sendE now es[j])).drop m = es.drop m := fun m hm => List.drop_set_of_lt hm
      have htake : (es.set j (sendE now es[j])).take (j + 1) = es.take j ++ [sendE now es[j]] := by
        rw [List.take_add_one, List.take_set_of_le (Nat.le_refl _), hset, if_pos rfl]
        rfl
      rw [hdrop _ (by omega)] at h2 h3 h4 h5
      rw [hdrop _ (by omega), htake] at h2
      have hcons : es.drop j = es[j] :: es.drop (j + 1) := List.drop_eq_getElem_cons hj
      rw [Nat.add_right_comm j 1 d] at h1 h2
      rw [List.length_set] at h1
      refine ⟨d + 1, by omega, ?_, ?_, .inr ?_, fun e he' => ?_⟩
      · rw [h2, hcons, List.take_succ_cons, List.map_cons, show j + (d + 1) = j + d + 1 by omega]
        simp
      · rw [h3, hcons, List.take_succ_cons, List.map_cons]
        simp
      · rw [hcons, List.take_succ_cons, List.map_cons, List.sum_cons]
        rcases h4 with h4 | h4
        · subst h4
          simp [lenE]
          omega
        · unfold lenE at h4 ⊢
          omega
      · have h6 := h5 e (by
          rw [hset, if_neg (by omega), show j + 1 + d = j + (d + 1) by omega]
          exact he')
        rw [hcons, List.take_succ_cons, List.map_cons, List.sum_cons]
        unfold lenE at h6 ⊢
        omega
/-- A queue of which nothing was sent. -/
theorem take_new {q : Qm} (hz : ∀ e ∈ q.es, e.st = 0) (now room : Int) : ∃ d, Tk now q.es 0 room [] (takeQ q now room) d := by
  unfold takeQ
  have h1 := take_skip (now := now) (n := q.es.length) 0 q.es.length q.es room [] rfl (by omega) hz q.es.length
  rw [Nat.zero_add] at h1
  rw [h1]
  have h2 := take_tk (now := now) (n := q.es.length) q.es.length 0 q.es room [] rfl (by omega) (fun i e _ he => hz e (List.mem_of_getElem? he))
  rwa [Nat.add_zero] at h2
theorem room_octs {q : Qm} (hz : ∀ e ∈ q.es, e.st = 0) {now room : Int} {d : Nat} (h : Tk now q.es 0 room [] (takeQ q now room) d) : octs (takeQ q now room).1 [1] = ((q.es.take d).map lenE).sum ∧ octs (takeQ q now room).1 [2, 0] = ((q.es.drop d).map lenE).sum := by
  have ho := h.o
  rw [List.take_zero, List.nil_append, List.drop_zero, Nat.zero_add] at ho
  have hs : ∀ e ∈ (q.es.take d).map (sendE now), e.st = 1 := fun e he => by
    obtain ⟨x, _, rfl⟩ := List.mem_map.1 he
    rfl
  have hl : ∀ l : List En, (l.map (sendE now)).map lenE = l.map lenE := fun l => by
    rw [List.map_map]
    rfl
  have hd : ∀ e ∈ q.es.drop d, e.st = 0 := fun e he => hz e (List.mem_of_mem_drop he)
  rw [ho, octs_eq, octs_eq, octsL_app, octsL_app]
  constructor
  · rw [octsL_all (fun e he => by rw [hs e he]; decide), octsL_none (es := q.es.drop d) (fun e he => by rw [hd e he]; decide), hl]
    rfl
  · rw [octsL_none (fun e he => by rw [hs e he]; decide), octsL_all (es := q.es.drop d) (fun e he => by rw [hd e he]; decide), Nat.zero_add]
theorem and1023 (i : Int) : ∃ k : Nat, bits .and .i64 i 1023 = (k : Int) ∧ k < 1024 := by
  have h := and_i64 i 10 (by decide)
  refine ⟨(i % 1024).toNat, ?_, by omega⟩
  rw [show ((2 ^ 10 - 1 : Nat) : Int) = 1023 by decide] at h
  rw [h]
  omega
end Go.Proofs.Ytbkepkiaabeliaa
