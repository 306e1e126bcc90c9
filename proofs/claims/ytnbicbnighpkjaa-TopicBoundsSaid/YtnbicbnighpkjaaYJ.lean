/- Package topic: what a relay's contents are behind calls that succeed. -/
import Derived.Test.YtnbicbnighpkjaaYI
namespace Go.Proofs.Ytnbicbnighpkjaa
open Go.RowKit Go.Maps
set_option linter.unusedVariables false
set_option linter.unusedSimpArgs false

section
variable {M : Mo}
theorem at_nat (M : Mo) (n : Nat) : M.at (n : Int) = M.P n := by
  unfold Mo.at
  rw [if_pos (by omega)]
  rfl
theorem has_nat {n : Nat} (h : n < M.np) : hasB M (n : Int) = true := hasB_iff.2 ⟨by omega, by omega⟩
theorem join_ok {n : Nat} (h : n < M.np) (hP : M.P n = none) : joinE M (n : Int) = 0 ∧ joinM M (n : Int) = { M with P := putN M.P n (some ptZ), u := M.u + 1 } := by
  have e : joinE M (n : Int) = 0 := by unfold joinE; rw [if_neg (by rw [has_nat h]; decide), at_nat, hP]; rfl
  refine ⟨e, ?_⟩
  unfold joinM
  rw [if_pos e]
  rfl
theorem sub_new {n : Nat} (h : n < M.np) {x : Pt} (hP : M.P n = some x) {s : ByteArray} (hs : 0 < s.size ∧ s.size ≤ 256) {md : Int} (hm : 0 ≤ md ∧ md ≤ 2) (hx : x.sub s = none) (hc : x.c < 64) :
    subscribeE M (n : Int) s md = 0 ∧ subscribeM M (n : Int) s md = { M with P := putN M.P n (some { x with sub := putF x.sub s (some (md, false)), c := x.c + 1 }) } := by
  have e : chkS M (n : Int) s md = 0 := by
    unfold chkS
    rw [if_neg (fun q => by rcases q with q | q | q | q; (rw [has_nat h] at q; cases q); omega; omega; omega), if_neg (by omega), at_nat, hP]
    rfl
  have e1 : subE x s = 0 := by unfold subE; rw [hx]; dsimp only; rw [if_neg (by omega)]
  have e2 : subP x s md = { x with sub := putF x.sub s (some (md, false)), c := x.c + 1 } := by
    unfold subP
    rw [if_pos e1, hx]
    rfl
  refine ⟨?_, ?_⟩
  · unfold subscribeE
    rw [if_pos e, at_nat, hP]
    exact e1
  · unfold subscribeM
    rw [if_pos e, at_nat, hP]
    dsimp only
    rw [e2]
    rfl
theorem pub_ok {n : Nat} (h : n < M.np) {x : Pt} (hP : M.P n = some x) {s : ByteArray} (hs : 0 < s.size ∧ s.size ≤ 256) (tx : Bool) {bs : List UInt8} (hb : bs.length ≤ 16384) :
    pubE M (n : Int) s bs.length = 0 ∧ pubM M (n : Int) s tx bs = handTo (pubN M s) (pubI M (n : Int) s tx bs) M.np ∧ pubC M (n : Int) s tx bs = handN (pubN M s) (pubI M (n : Int) s tx bs) M.np := by
  have e : pubE M (n : Int) s bs.length = 0 := by
    unfold pubE
    rw [if_neg (fun q => by rcases q with q | q; (rw [has_nat h] at q; cases q); omega), if_neg (by omega), at_nat, hP]
    rfl
  refine ⟨e, ?_, ?_⟩
  · unfold pubM
    rw [if_pos e]
  · unfold pubC
    rw [if_pos e]
theorem pull_cons {n : Nat} {x : Pt} (hP : M.P n = some x) {y : It} {r : List It} (hw : x.ws = y :: r) : pullI M (n : Int) = y ∧ pullB M (n : Int) = true ∧ pullM M (n : Int) = { M with P := putN M.P n (some { x with ws := r }) } := by
  unfold pullI pullB pullM
  rw [at_nat, hP]
  dsimp only
  rw [hw]
  exact ⟨rfl, rfl, rfl⟩
theorem pull_nil {n : Nat} {x : Pt} (hP : M.P n = some x) (hw : x.ws = []) : pullI M (n : Int) = itZ ∧ pullB M (n : Int) = false ∧ pullM M (n : Int) = M := by
  unfold pullI pullB pullM
  rw [at_nat, hP]
  dsimp only
  rw [hw]
  refine ⟨rfl, rfl, ?_⟩
  have : putN M.P ((n : Int).toNat) (some { x with ws := List.drop 1 [] }) = M.P := putN_self (by
    rw [show ((n : Int).toNat) = n from rfl, hP]
    cases x
    dsimp only at hw
    rw [hw]
    rfl)
  rw [this]
/-- Taken where there is room. -/
theorem take_room {x : Pt} {room : Nat} {y : It} {m : Int} (hs : x.sub y.tp = some (m, false)) (hl : x.ws.length < room) : takeP x room y = { x with ws := x.ws ++ [y] } ∧ takeB x room y = true := by
  unfold takeP takeB
  rw [hs]
  dsimp only
  refine ⟨?_, ?_⟩ <;> simp [hl]
theorem take_not {x : Pt} {room : Nat} {y : It} (hs : x.sub y.tp = none) : takeP x room y = x ∧ takeB x room y = false := by
  unfold takeP takeB
  rw [hs]
  exact ⟨rfl, rfl⟩
theorem take_failed {x : Pt} {room : Nat} {y : It} {m : Int} (hs : x.sub y.tp = some (m, true)) : takeP x room y = x ∧ takeB x room y = false := by
  unfold takeP takeB
  rw [hs]
  exact ⟨rfl, rfl⟩
theorem wf_nat {n : Nat} (h : n ≤ 1000000) : (Lit.int .i64 (n : Int)).wf = true := by simp [Lit.wf, IntKind.min, IntKind.max, IntKind.signed, IntKind.bits]; omega
end
def tS : ByteArray := ⟨#[116]⟩
def cntF (f : Nat → Bool) (k : Nat) : Nat := ((List.range k).filter f).length
theorem cntF_succ (f : Nat → Bool) (k : Nat) : cntF f (k + 1) = cntF f k + if f k = true then 1 else 0 := by
  unfold cntF
  rw [List.range_succ, List.filter_append, List.length_append]
  cases h : f k <;> simp [h]
theorem cntF_le (f : Nat → Bool) (k : Nat) : cntF f k ≤ k := by
  unfold cntF
  have := List.length_filter_le f (List.range k)
  rwa [List.length_range] at this
theorem handN_cnt {M : Mo} {y : It} {f : Nat → Bool} : ∀ k, (∀ n, n < k → handB M y n = f n) → handN M y k = cntF f k
  | 0, _ => rfl
  | k + 1, h => by rw [handN_succ, cntF_succ, handN_cnt k fun n hn => h n (by omega), h k (by omega)]
/-! ### TopicMany: the first j parties have joined, those of f hear it; i items were published. -/
structure MM (f : Nat → Bool) (j i : Nat) (M : Mo) : Prop where
  np : M.np = 16
  room : M.room = 64
  u : M.u ≤ j + i
  at_ : ∀ n, n < j → ∃ x, M.P n = some x ∧ x.c ≤ 1 ∧ x.sub tS = (if f n = true then some (0, false) else none) ∧ x.ws.length = if f n = true then i else 0
  no : ∀ n, j ≤ n → M.P n = none
  cnt : M.N tS = i
theorem MM.start (f : Nat → Bool) : MM f 0 0 (newM 16 64) := ⟨rfl, rfl, Nat.le_refl _, fun n hn => absurd hn (Nat.not_lt_zero _), fun _ _ => rfl, rfl⟩
theorem MM.join {f : Nat → Bool} {j : Nat} {M : Mo} (h : MM f j 0 M) (hj : j < 16) : joinE M (j : Int) = 0 ∧ (f j = false → MM f (j + 1) 0 (joinM M (j : Int))) ∧ (f j = true → subscribeE (joinM M (j : Int)) (j : Int) tS 0 = 0 ∧ MM f (j + 1) 0 (subscribeM (joinM M (j : Int)) (j : Int) tS 0)) := by
  obtain ⟨e1, e2⟩ := join_ok (M := M) (n := j) (by rw [h.np]; exact hj) (h.no j (Nat.le_refl _))
  refine ⟨e1, fun hf => ?_, fun hf => ?_⟩
  · rw [e2]
    refine ⟨h.np, h.room, by show M.u + 1 ≤ _; have := h.u; omega, fun n hn => ?_, fun n hn => ?_, h.cnt⟩
    · by_cases e : n = j
      · subst e
        exact ⟨ptZ, putN_same _ _ _, by decide, by rw [hf]; rfl, by rw [hf]; rfl⟩
      · dsimp only
        rw [putN_ne _ _ e]
        exact h.at_ n (by omega)
    · dsimp only
      rw [putN_ne _ _ (by omega)]
      exact h.no n (by omega)
  · obtain ⟨e3, e4⟩ := sub_new (M := joinM M (j : Int)) (n := j) (by rw [e2]; show j < M.np; rw [h.np]; exact hj) (x := ptZ) (by rw [e2]; exact putN_same _ _ _) (s := tS) ⟨by decide, by decide⟩ (md := 0) ⟨by decide, by decide⟩ rfl (by decide)
    refine ⟨e3, ?_⟩
    rw [e4, e2]
    refine ⟨h.np, h.room, by show M.u + 1 ≤ _; have := h.u; omega, fun n hn => ?_, fun n hn => ?_, h.cnt⟩
    · by_cases e : n = j
      · subst e
        exact ⟨_, putN_same _ _ _, by decide, by rw [hf]; exact (show putF ptZ.sub tS (some ((0 : Int), false)) tS = some (0, false) from putF_same _ _ _), by rw [hf]; rfl⟩
      · dsimp only
        rw [putN_ne _ _ e, putN_ne _ _ e]
        exact h.at_ n (by omega)
    · dsimp only
      rw [putN_ne _ _ (by omega), putN_ne _ _ (by omega)]
      exact h.no n (by omega)
theorem MM.pub {f : Nat → Bool} {i : Nat} {M : Mo} (h : MM f 16 i M) (hi : i < 64) (hf : f 15 = false) (tx : Bool) {bs : List UInt8} (hb : bs.length ≤ 16384) :
    pubE M 15 tS bs.length = 0 ∧ pubC M 15 tS tx bs = cntF f 16 ∧ MM f 16 (i + 1) (pubM M 15 tS tx bs) := by
  obtain ⟨x15, h15, _⟩ := h.at_ 15 (by decide)
  obtain ⟨e1, e2, e3⟩ := pub_ok (M := M) (n := 15) (by rw [h.np]; decide) h15 (s := tS) ⟨by decide, by decide⟩ tx hb
  have hh : ∀ n, n < 16 → handB (pubN M tS) (pubI M 15 tS tx bs) n = f n := fun n hn => by
    obtain ⟨x, hx, hc, hs, hl⟩ := h.at_ n hn
    unfold handB
    rw [show (pubN M tS).P n = M.P n from rfl, hx]
    dsimp only
    rw [show (pubN M tS).room = 64 from h.room, show (pubI M 15 tS tx bs).fr = 15 from rfl]
    cases hfn : f n with
    | false =>
      rw [hfn] at hs
      rw [(take_not (y := pubI M 15 tS tx bs) (room := 64) hs).2, Bool.and_false]
    | true =>
      rw [hfn] at hs hl
      rw [(take_room (y := pubI M 15 tS tx bs) (room := 64) hs (by rw [hl]; exact hi)).2]
      have : n ≠ 15 := fun e => by rw [e, hf] at hfn; cases hfn
      simp
      omega
  refine ⟨e1, ?_, ?_⟩
  · have e3' : pubC M 15 tS tx bs = handN (pubN M tS) (pubI M 15 tS tx bs) M.np := e3
    rw [e3', h.np]
    exact handN_cnt 16 hh
  · have e2' : pubM M 15 tS tx bs = handTo (pubN M tS) (pubI M 15 tS tx bs) M.np := e2
    rw [e2', h.np]
    refine ⟨h.np, h.room, by show M.u + 1 ≤ _; have := h.u; omega, fun n hn => ?_, fun n hn => ?_, ?_⟩
    · obtain ⟨x, hx, hc, hs, hl⟩ := h.at_ n hn
      unfold handTo
      dsimp only
      rw [show (pubN M tS).P n = M.P n from rfl, hx, show (pubN M tS).room = 64 from h.room, show (pubI M 15 tS tx bs).fr = 15 from rfl]
      cases hfn : f n with
      | false =>
        rw [hfn] at hs hl
        refine ⟨x, ?_, hc, hs, hl⟩
        split
        · rw [Option.map_some, (take_not (y := pubI M 15 tS tx bs) (room := 64) hs).1]
        · rfl
      | true =>
        rw [hfn] at hs hl
        have : n ≠ 15 := fun e => by rw [e, hf] at hfn; cases hfn
        refine ⟨{ x with ws := x.ws ++ [pubI M 15 tS tx bs] }, ?_, hc, hs, ?_⟩
        · rw [if_pos ⟨hn, by omega⟩, Option.map_some, (take_room (y := pubI M 15 tS tx bs) (room := 64) hs (by rw [hl]; exact hi)).1]
        · dsimp only
          rw [List.length_append, hl]
          rfl
    · unfold handTo
      dsimp only
      rw [show (pubN M tS).P n = M.P n from rfl, h.no n hn]
      split <;> rfl
    · unfold handTo pubN
      dsimp only
      rw [if_pos rfl, h.cnt]
theorem MM.wait {f : Nat → Bool} {i : Nat} {M : Mo} (h : MM f 16 i M) {n : Nat} (hn : n < 16) : waitN M (n : Int) = if f n = true then i else 0 := by
  obtain ⟨x, hx, hc, hs, hl⟩ := h.at_ n hn
  unfold waitN
  rw [at_nat, hx]
  exact hl
end Go.Proofs.Ytnbicbnighpkjaa
