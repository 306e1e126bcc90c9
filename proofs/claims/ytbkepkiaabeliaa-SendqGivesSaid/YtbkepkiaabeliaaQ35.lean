/- SendqTwice, in plain mathematics. -/
import Derived.Test.YtbkepkiaabeliaaQ33
namespace Go.Proofs.Ytbkepkiaabeliaa
open Go.RowKit Go.Maps
set_option linter.unusedVariables false

def P0 (es : List En) : Prop := ∀ e ∈ es, lenE e = 3 ∧ e.st = 0 ∧ e.ms = 0
def P1 (es : List En) : Prop := ∀ e ∈ es, lenE e = 3 ∧ e.st = 1 ∧ e.ms = 0
def P2 (bl : List (Int × Int)) (es : List En) : Prop := ∀ (i : Nat) (e : En), es[i]? = some e → lenE e = 3 ∧ e.st = if toldB bl i = true then 3 else 1
theorem sum3 : ∀ {l : List En}, (∀ e ∈ l, lenE e = 3) → (l.map lenE).sum = 3 * l.length
  | [], _ => rfl
  | e :: r, h => by
    rw [List.map_cons, List.sum_cons, h e (List.mem_cons_self ..), sum3 fun x hx => h x (List.mem_cons_of_mem _ hx), List.length_cons]
    omega
theorem tw_take {q : Qm} (hz : P0 q.es) (hl : q.es.length ≤ 31) : P1 (takeQ q 0 1048576).1 ∧ (takeQ q 0 1048576).1.length = q.es.length := by
  obtain ⟨d, hT⟩ := take_new (fun e he => (hz e he).2.1) 0 1048576
  have hd := hT.hd
  rw [Nat.zero_add] at hd
  have hd2 : d = q.es.length := by
    by_cases h : d = q.es.length
    · exact h
    · have hlt : d < q.es.length := by omega
      have h1 := hT.full q.es[d] (by rw [Nat.zero_add]; exact List.getElem?_eq_getElem hlt)
      rw [List.drop_zero, sum3 (fun e he => (hz e (List.mem_of_mem_take he)).1), (hz _ (List.getElem_mem hlt)).1, List.length_take] at h1
      omega
  have ho := hT.o
  rw [List.take_zero, List.nil_append, List.drop_zero, Nat.zero_add, hd2, List.take_length, List.drop_length, List.append_nil] at ho
  rw [ho]
  refine ⟨fun e he => ?_, List.length_map _⟩
  obtain ⟨x, hx, rfl⟩ := List.mem_map.1 he
  exact ⟨(hz x hx).1, rfl, rfl⟩
theorem wrap_one : wrap64 (0 + 1) ≠ 3 := by unfold wrap64; omega
theorem come_p2 {bl : List (Int × Int)} {es : List En} (h : P1 es) : P2 bl (es.mapIdx (comeE bl)) ∧ ∀ (i : Nat) (e : En), (es.mapIdx (comeE bl))[i]? = some e → e.ms = 0 := by
  have key : ∀ (i : Nat) (e : En), (es.mapIdx (comeE bl))[i]? = some e → (lenE e = 3 ∧ e.st = if toldB bl i = true then 3 else 1) ∧ e.ms = 0 := fun i e he => by
    rw [List.getElem?_mapIdx] at he
    cases hx : es[i]? with
    | none => rw [hx] at he; cases he
    | some x =>
      rw [hx] at he
      injection he with he
      obtain ⟨a1, a2, a3⟩ := h x (List.mem_of_getElem? hx)
      subst he
      unfold comeE
      by_cases ht : toldB bl i = true
      · rw [if_pos ht, if_pos (.inl a2), if_pos ht]
        exact ⟨⟨a1, rfl⟩, a3⟩
      · rw [if_neg ht, if_neg (by rw [a2]; decide), if_neg ht]
        exact ⟨⟨a1, a2⟩, a3⟩
  exact ⟨fun i e he => (key i e he).1, fun i e he => (key i e he).2⟩
theorem miss_p2 {bl : List (Int × Int)} {es : List En} {idx : Nat} (h : P2 bl es) (hm : ∀ (i : Nat) (e : En), es[i]? = some e → e.ms = 0) : P2 bl (es.mapIdx (missE idx)) := fun i e he => by
  rw [List.getElem?_mapIdx] at he
  cases hx : es[i]? with
  | none => rw [hx] at he; cases he
  | some x =>
    rw [hx] at he
    injection he with he
    obtain ⟨a1, a2⟩ := h i x hx
    have a3 := hm i x hx
    subst he
    unfold missE
    split
    · rw [a3, if_neg wrap_one]
      exact ⟨a1, a2⟩
    · exact ⟨a1, a2⟩
theorem left_p1 {q : Qm} (h : P1 q.es) (c : Int) : P1 (leftL q c) := fun e he => h e (List.mem_of_mem_drop he)
theorem ack_p2 {q : Qm} (h : P1 q.es) (c : Int) (bl : List (Int × Int)) : P2 bl (ackE q c bl) ∧ (ackE q c bl).length = q.es.length - stp q c := by
  have h1 := come_p2 (bl := bl) (left_p1 h c)
  unfold ackE midL
  split
  · exact ⟨h1.1, by rw [List.length_mapIdx]; unfold leftL; rw [List.length_drop]⟩
  · exact ⟨miss_p2 h1.1 h1.2, by rw [List.length_mapIdx, List.length_mapIdx]; unfold leftL; rw [List.length_drop]⟩
theorem cam_count {bl : List (Int × Int)} {es E : List En} (h : P1 es) (hE : P2 bl E) (hl : E.length = es.length) : ∀ i, i ≤ es.length → octsL (E.take i) [1] + 3 * (camG bl es i).length = 3 * i ∧ ∀ e ∈ camG bl es i, lenE e = 3
  | 0, _ => ⟨rfl, fun e he => by cases he⟩
  | i + 1, hi => by
    obtain ⟨h1, h2⟩ := cam_count h hE hl i (by omega)
    have he : es[i]? = some es[i] := List.getElem?_eq_getElem (by omega)
    have hE' : E[i]? = some E[i] := List.getElem?_eq_getElem (by omega)
    obtain ⟨a1, a2, a3⟩ := h es[i] (List.getElem_mem _)
    obtain ⟨b1, b2⟩ := hE i E[i] hE'
    rw [List.take_add_one, hE', octsL_app, camG, he]
    dsimp only
    by_cases ht : toldB bl i = true
    · rw [if_pos ht] at b2
      rw [if_pos ⟨ht, .inl a2⟩, List.length_append]
      refine ⟨?_, fun e hm => ?_⟩
      · rw [Option.toList_some, octsL_none (es := [E[i]]) (fun e hm => by rw [List.mem_singleton.1 hm, b2]; decide)]
        simp only [List.length_cons, List.length_nil]
        omega
      · rcases List.mem_append.1 hm with hm | hm
        · exact h2 e hm
        · rw [List.mem_singleton.1 hm]
          exact a1
    · rw [if_neg ht] at b2
      rw [if_neg (fun hc => ht hc.1), List.append_nil]
      refine ⟨?_, h2⟩
      rw [Option.toList_some, octsL_all (es := [E[i]]) (fun e hm => by rw [List.mem_singleton.1 hm, b2]; decide)]
      simp only [List.map_cons, List.map_nil, List.sum_cons, List.sum_nil, b1]
      omega
theorem octA_three {l : List En} (h : ∀ e ∈ l, lenE e = 3) : ∀ k, k ≤ l.length → sumF (octA l) k = 3 * k
  | 0, _ => rfl
  | k + 1, hk => by
    rw [sumF, octA_three h k (by omega)]
    unfold octA
    rw [List.getElem?_eq_getElem (show k < l.length by omega)]
    have := h l[k] (List.getElem_mem _)
    unfold lenE at this
    simp only [Option.map_some, Option.getD_some, this]
    omega
/-- What is answered, and what flies on: all. -/
theorem tw_bytes {q : Qm} (h : P1 q.es) (c : Int) (bl : List (Int × Int)) (now : Int) : (ackR q c bl now).by_ + octs (ackE q c bl) [1] = 3 * q.es.length := by
  obtain ⟨h1, h2⟩ := ack_p2 h c bl
  have hsl := stp_le q c
  have hll : (leftL q c).length = q.es.length - stp q c := by unfold leftL; rw [List.length_drop]
  obtain ⟨h3, h4⟩ := cam_count (left_p1 h c) h1 (by rw [h2, hll]) (leftL q c).length (Nat.le_refl _)
  rw [List.take_of_length_le (by rw [h2, hll]; exact Nat.le_refl _)] at h3
  have h5 : octsA (camL q c bl) = 3 * (camL q c bl).length := octA_three (l := camL q c bl) h4 _ (Nat.le_refl _)
  have h6 : octs (goneL q c) [1, 2] = 3 * stp q c := by
    show octs (q.es.take (stp q c)) [1, 2] = _
    rw [octs_eq, octsL_all (fun e he => by rw [(h e (List.mem_of_mem_take he)).2.1]; decide), sum3 (fun e he => (h e (List.mem_of_mem_take he)).1)]
    rw [List.length_take]
    omega
  show octs (goneL q c) [1, 2] + octsA (camL q c bl) + octs (ackE q c bl) [1] = _
  rw [h5, h6, octs_eq]
  have h7 : (camL q c bl).length = (camG bl (leftL q c) (leftL q c).length).length := rfl
  omega
theorem stp_zero {q : Qm} {c : Int} (hf : flr q = c) : stp q c = 0 := by
  have hd : dist32 (flr q) c = 0 := by
    unfold dist32 dist
    rw [hf]
    omega
  unfold stp
  rw [hd]
  split <;> rfl
theorem cam_nil {bl : List (Int × Int)} {es : List En} (h : P2 bl es) : ∀ i, camG bl es i = []
  | 0 => rfl
  | i + 1 => by
    rw [camG, cam_nil h i]
    cases he : es[i]? with
    | none => rfl
    | some e =>
      have h1 := (h i e he).2
      dsimp only
      rw [if_neg]
      · rfl
      · rintro ⟨ht, h2⟩
        rw [if_pos ht] at h1
        rw [h1] at h2
        rcases h2 with h2 | h2 <;> exact absurd h2 (by decide)
theorem come_same {bl : List (Int × Int)} {es : List En} (h : P2 bl es) : es.mapIdx (comeE bl) = es := by
  apply List.ext_getElem?
  intro i
  rw [List.getElem?_mapIdx]
  cases he : es[i]? with
  | none => rfl
  | some e =>
    have h1 := (h i e he).2
    show some (comeE bl i e) = some e
    unfold comeE
    by_cases ht : toldB bl i = true
    · rw [if_pos ht] at h1
      rw [if_pos ht, if_neg (by rw [h1]; decide)]
    · rw [if_neg ht] at h1
      rw [if_neg ht, if_neg (by rw [h1]; decide)]
/-- An answer that is told twice. -/
theorem tw_again {q : Qm} {bl : List (Int × Int)} (h : P2 bl q.es) {c : Int} (hf : flr q = c) (now : Int) : reachedB q c = true ∧ ackR q c bl now = ⟨0, -1, false, false⟩ ∧ ackE q c bl = q.es := by
  have hs := stp_zero hf
  have hl : leftL q c = q.es := by unfold leftL; rw [hs, List.drop_zero]
  have hc : camL q c bl = [] := by unfold camL; rw [hl]; exact cam_nil h _
  refine ⟨?_, ?_, ?_⟩
  · unfold reachedB
    rw [hs, hf]
    simp
  · unfold ackR
    rw [hc, hs]
    have hg : goneL q c = [] := by unfold goneL; rw [hs, List.take_zero]
    rw [hg]
    rfl
  · unfold ackE midL
    rw [if_pos hc, hl]
    exact come_same h
end Go.Proofs.Ytbkepkiaabeliaa
