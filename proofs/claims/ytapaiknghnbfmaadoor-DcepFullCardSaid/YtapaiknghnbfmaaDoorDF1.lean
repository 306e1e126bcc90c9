/- DcepFull: the mathematics of a table whose streams are all asked for. -/
import Derived.Test.YtapaiknghnbfmaaDoorDW2
namespace Go.Proofs.YtapaiknghnbfmaaDoor
open Go.RowKit
set_option linter.unusedVariables false

def cX : Ch := ⟨1, oX, false, false⟩
/-- A table of k streams of whose own those below i are asked for. -/
def fl (ev : Bool) (k i : Nat) : List Ch := (List.range k).map fun j => if (ownB ev j && decide (j < i)) = true then cX else chZ
theorem fl_len (ev : Bool) (k i : Nat) : (fl ev k i).length = k := by simp [fl]
theorem fl_at {ev : Bool} {k i j : Nat} (h : j < k) : chAt (fl ev k i) j = if (ownB ev j && decide (j < i)) = true then cX else chZ := by
  unfold chAt fl
  rw [List.getElem?_map, List.getElem?_range h]
  rfl
theorem fl_zero (ev : Bool) (k : Nat) : List.replicate k chZ = fl ev k 0 := by
  apply List.ext_getElem?
  intro j
  unfold fl
  rw [List.getElem?_map, List.getElem?_replicate]
  by_cases h : j < k
  · rw [if_pos h, List.getElem?_range h]
    simp
  · rw [if_neg h, List.getElem?_eq_none (by simpa using h)]
    rfl
theorem fl_get {ev : Bool} {k i j : Nat} : (fl ev k i)[j]? = if j < k then some (if (ownB ev j && decide (j < i)) = true then cX else chZ) else none := by
  unfold fl
  rw [List.getElem?_map]
  by_cases h : j < k
  · rw [if_pos h, List.getElem?_range h]; rfl
  · rw [if_neg h, List.getElem?_eq_none (by simpa using h)]; rfl
theorem fl_skip {ev : Bool} {k i : Nat} (h : ownB ev i = false) : fl ev k (i + 1) = fl ev k i := by
  apply List.ext_getElem?
  intro j
  rw [fl_get, fl_get]
  by_cases hj : j < k
  · rw [if_pos hj, if_pos hj]
    by_cases hi : j = i
    · subst hi; rw [h]; simp
    · have : decide (j < i + 1) = decide (j < i) := by simp; omega
      rw [this]
  · rw [if_neg hj, if_neg hj]
theorem fl_set {ev : Bool} {k i : Nat} (hi : i < k) (h : ownB ev i = true) : (fl ev k i).set i cX = fl ev k (i + 1) := by
  apply List.ext_getElem?
  intro j
  rw [List.getElem?_set, fl_len, fl_get, fl_get]
  by_cases hj : i = j
  · subst hj
    rw [if_pos rfl, if_pos hi, if_pos hi, h]
    simp
  · rw [if_neg hj]
    by_cases hk : j < k
    · rw [if_pos hk, if_pos hk]
      have : decide (j < i + 1) = decide (j < i) := by simp; omega
      rw [this]
    · rw [if_neg hk, if_neg hk]
theorem chAt_st {ev : Bool} {k i j : Nat} (hj : j < k) : ((chAt (fl ev k i) j).st == 0) = !(ownB ev j && decide (j < i)) := by
  rw [fl_at hj]
  by_cases h : (ownB ev j && decide (j < i)) = true
  · rw [if_pos h, h]; rfl
  · rw [if_neg h]
    cases hb : (ownB ev j && decide (j < i)) with
    | true => exact absurd hb h
    | false => rfl
theorem ask_next {ev : Bool} {k i : Nat} (hi : i < k) (h : ownB ev i = true) : askI ev (fl ev k i) = some i :=
  askI_some (by rw [fl_len]; exact hi) (fun j hj => by
    rw [chAt_st (by omega)]
    cases hb : ownB ev j with
    | false => rfl
    | true => simp [hj]) (by rw [chAt_st hi, h]; simp)
theorem encE_oZ : encE oZ = 0 := by kernel_rfl
theorem ask_full {ev : Bool} {k : Nat} : askI ev (fl ev k k) = none := askI_none fun j hj => by
  rw [fl_len] at hj
  rw [chAt_st hj]
  cases hb : ownB ev j with
  | false => rfl
  | true => simp [hj]
/-- A full table but for one of its own streams. -/
theorem ask_one {ev : Bool} {k s : Nat} {c : Ch} (hs : s < k) (ho : ownB ev s = true) : askI ev ((fl ev k k).set s c) = if c.st = 0 then some s else none := by
  have hlen : ((fl ev k k).set s c).length = k := by rw [List.length_set, fl_len]
  by_cases hc : c.st = 0
  · rw [if_pos hc]
    refine askI_some (by rw [hlen]; exact hs) (fun j hj => ?_) ?_
    · rw [chAt_else (by omega), chAt_st (by omega)]
      cases hb : ownB ev j with
      | false => rfl
      | true => simp; omega
    · rw [chAt_set (by rw [fl_len]; exact hs), ho, hc]; rfl
  · rw [if_neg hc]
    refine askI_none fun j hj => ?_
    rw [hlen] at hj
    by_cases hjs : s = j
    · subst hjs
      rw [chAt_set (by rw [fl_len]; exact hs), ho]
      simpa using hc
    · rw [chAt_else hjs, chAt_st hj]
      cases hb : ownB ev j with
      | false => rfl
      | true => simp [hj]
/-- The streams of its own. -/
def owns (ev : Bool) (i : Nat) : List Nat := (List.range i).filter (ownB ev)
theorem owns_skip {ev : Bool} {i : Nat} (h : ownB ev i = false) : owns ev (i + 1) = owns ev i := by unfold owns; rw [List.range_succ, List.filter_append]; simp [h]
theorem owns_next {ev : Bool} {i : Nat} (h : ownB ev i = true) : owns ev (i + 1) = owns ev i ++ [i] := by unfold owns; rw [List.range_succ, List.filter_append]; simp [h]
theorem owns_in {ev : Bool} {k j : Nat} (h : j < (owns ev k).length) : ∃ s, (owns ev k)[j]? = some s ∧ s < k ∧ ownB ev s = true := by
  refine ⟨(owns ev k)[j], List.getElem?_eq_getElem h, ?_⟩
  have := List.getElem_mem h
  unfold owns at this
  rw [List.mem_filter, List.mem_range] at this
  exact this
theorem owns_len (ev : Bool) (i : Nat) : (owns ev i).length ≤ i := by unfold owns; exact Nat.le_trans (List.length_filter_le _ _) (by simp)
theorem owns_pos {ev : Bool} {k : Nat} (hk : 2 ≤ k) : 0 < (owns ev k).length := by
  have h : ∃ s, s < k ∧ ownB ev s = true := by
    cases ev
    · exact ⟨1, by omega, rfl⟩
    · exact ⟨0, by omega, rfl⟩
  obtain ⟨s, h1, h2⟩ := h
  exact List.length_pos_of_mem (List.mem_filter.2 ⟨List.mem_range.2 h1, h2⟩)
def oY : OV := ⟨0, 0, 0, ⟨#[121]⟩, ⟨#[]⟩⟩
theorem oY_ok : oY.Ok := ⟨by decide, by decide, by decide, by decide, by decide⟩
theorem encE_oY : encE oY = 0 := by kernel_rfl
def c3a : Ch := ⟨3, oX, false, false⟩
def c3b : Ch := ⟨3, oX, false, true⟩
def cY : Ch := ⟨1, oY, false, false⟩
theorem ask_no {ev : Bool} {l : List Ch} (h : askI ev l = none) : askE ev l oZ = 9 ∧ askS ev l oZ = 0 ∧ askL ev l oZ = l := by
  refine ⟨?_, ?_, ?_⟩
  · unfold askE; rw [if_pos encE_oZ, h]
  · unfold askS; rw [if_pos encE_oZ, h]; rfl
  · unfold askL; rw [if_pos encE_oZ, h]
structure Full (ev : Bool) (k s : Nat) : Prop where
  cE : closeE (fl ev k k) s = 0
  cL : closeL (fl ev k k) s = (fl ev k k).set s c3a
  a1 : askI ev ((fl ev k k).set s c3a) = none
  fL : freedL ((fl ev k k).set s c3a) s = (fl ev k k).set s c3b
  gB : goneB ((fl ev k k).set s c3b) s = false
  gL : goneL ((fl ev k k).set s c3b) s = (fl ev k k).set s chZ
  a2 : askI ev ((fl ev k k).set s chZ) = some s
  a3 : ((fl ev k k).set s chZ).set s cY = (fl ev k k).set s cY
  at_ : chAt ((fl ev k k).set s cY) s = cY
theorem full_of {ev : Bool} {k s : Nat} (hs : s < k) (ho : ownB ev s = true) : Full ev k s := by
  have hl : s < (fl ev k k).length := by rw [fl_len]; exact hs
  have h0 : chAt (fl ev k k) s = cX := by rw [fl_at hs, ho]; simp [hs]
  have h1 : ∀ c, chAt ((fl ev k k).set s c) s = c := fun c => chAt_set hl c
  refine ⟨?_, ?_, ?_, ?_, ?_, ?_, ?_, ?_, ?_⟩
  · unfold closeE; rw [h0]; rfl
  · unfold closeL; rw [h0]; rfl
  · rw [ask_one hs ho, if_neg (by decide)]
  · unfold freedL; rw [h1, if_pos (show c3a.st = 3 from rfl), List.set_set]; rfl
  · unfold goneB; rw [h1]; rfl
  · unfold goneL; rw [h1, if_neg (by decide), List.set_set]; rfl
  · rw [ask_one hs ho, if_pos (show chZ.st = 0 from rfl)]
  · rw [List.set_set]
  · exact h1 _
theorem ask_yes {ev : Bool} {l : List Ch} {s : Nat} (h : askI ev l = some s) : askE ev l oY = 0 ∧ askS ev l oY = s ∧ askL ev l oY = l.set s cY := by
  refine ⟨?_, ?_, ?_⟩
  · unfold askE; rw [if_pos encE_oY, h]
  · unfold askS; rw [if_pos encE_oY, h]; rfl
  · unfold askL; rw [if_pos encE_oY, h]; rfl
end Go.Proofs.YtapaiknghnbfmaaDoor
