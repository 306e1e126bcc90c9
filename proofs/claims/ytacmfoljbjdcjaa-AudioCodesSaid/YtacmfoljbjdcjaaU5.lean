/- Package audio: what a forwarder is asked: has, listener, Lost, Waiting; New, Listen, Quiet. -/
import Derived.Test.YtacmfoljbjdcjaaU4
namespace Go.Proofs.Ytacmfoljbjdcjaa
open Go.RowKit Go.Maps
set_option linter.unusedVariables false
set_option linter.unusedSimpArgs false

def Fm.at (M : Fm) (p : Int) : Option Lm := if 0 ≤ p then M.P p.toNat else none
def Gf.at (R : Gf) (p : Int) : Option Gl := if 0 ≤ p then R.P p.toNat else none
theorem Gf.at_fm (R : Gf) (p : Int) : R.fm.at p = (R.at p).map Gl.lm := by
  unfold Fm.at Gf.at Gf.fm
  by_cases h : 0 ≤ p
  · rw [if_pos h, if_pos h]
  · rw [if_neg h, if_neg h]
    rfl
def Gf.pa (R : Gf) (p : Int) : Value := match R.at p with
  | some m => ptr m.b
  | none => .pointer none
def hasB (M : Fm) (p : Int) : Bool := decide (0 ≤ p) && decide (p < (M.np : Int))
theorem hasB_iff {M : Fm} {p : Int} : hasB M p = true ↔ 0 ≤ p ∧ p < (M.np : Int) := by unfold hasB; simp
def lostN (M : Fm) (p : Int) : Nat := match M.at p with
  | some x => x.lost
  | none => 0
def waitN (M : Fm) (p : Int) : Nat := match M.at p with
  | some x => x.ws.length
  | none => 0
section
variable {lo : Nat} {ow : Ow} {R : Gf} {W : World}
theorem FA.at_ms (h : FA lo ow R W) {p : Int} {m : Gl} (hp : R.at p = some m) : 0 ≤ p ∧ R.P p.toNat = some m ∧ LA lo ow p.toNat m W ∧ p < (R.np : Int) ∧ m.ws.length ≤ R.room ∧ m.lost ≤ R.u := by
  unfold Gf.at at hp
  by_cases h0 : 0 ≤ p
  · rw [if_pos h0] at hp
    obtain ⟨h1, h2, h3⟩ := h.ms _ m hp
    exact ⟨h0, hp, h1, by omega, h3⟩
  · rw [if_neg h0] at hp
    cases hp
theorem FA.pa_has (h : FA lo ow R W) {p : Int} (hb : hasB R.fm p = true) : ∃ n : Nat, p = (n : Int) ∧ n < R.np ∧ R.at p = R.P n ∧ W.cell? ⟨R.r, n, none⟩ = some (R.pa p) ∧ W.frozen? ⟨R.r, n, none⟩ = false := by
  obtain ⟨h0, h1⟩ := hasB_iff.1 hb
  have h1' : p < (R.np : Int) := h1
  refine ⟨p.toNat, by omega, by omega, ?_, ?_⟩
  · unfold Gf.at; rw [if_pos h0]
  · have := h.cr (i := p.toNat) (by omega)
    have e : R.pa p = R.pv p.toNat := by
      unfold Gf.pa Gf.pv Gf.at
      rw [if_pos h0]
      cases R.P p.toNat <;> rfl
    rw [e]
    exact this
theorem FA.pa_not (h : FA lo ow R W) {p : Int} (hb : hasB R.fm p = false) : R.at p = none := by
  cases hm : R.at p with
  | none => rfl
  | some m =>
    obtain ⟨a1, a2, a3, a4, _⟩ := h.at_ms hm
    have : hasB R.fm p = true := hasB_iff.2 ⟨a1, a4⟩
    rw [this] at hb
    cases hb
theorem has_nil (p : Int) (W : World) : Calls Try.prog 36 #[.pointer none, .int .i64 p] W fun e w' => e = .returned (.bool false) ∧ W = w' := by
  go_enter Try.func36, Try.ntmps36
  go_wp2
  go_ret
  exact ⟨rfl, rfl⟩
theorem has_any (h : FA lo ow R W) (p : Int) : Calls Try.prog 36 #[ptr R.b, .int .i64 p] W fun e w' => e = .returned (.bool (hasB R.fm p)) ∧ W = w' := by
  obtain ⟨d0, d1⟩ := h.c0
  unfold hasB Gf.fm ptr
  dsimp only
  clear h
  by_cases h0 : 0 ≤ p
  · by_cases h1 : p < (R.np : Int)
    · rw [decide_eq_true h0, decide_eq_true h1]
      go_enter Try.func36, Try.ntmps36
      go_wp2
      go_ret
      exact ⟨rfl, rfl⟩
    · rw [decide_eq_true h0, decide_eq_false h1]
      go_enter Try.func36, Try.ntmps36
      go_wp2
      go_ret
      exact ⟨rfl, rfl⟩
  · rw [decide_eq_false h0]
    go_enter Try.func36, Try.ntmps36
    go_wp2
    go_ret
    exact ⟨by simp, rfl⟩
theorem listener_nil (p : Int) (W : World) : Calls Try.prog 39 #[.pointer none, .int .i64 p] W fun e w' => e = .returned (.pointer none) ∧ W = w' := by
  go_enter Try.func39, Try.ntmps39
  go_wp2_with (go_at_call 36; refine (has_nil p _).mono ?_; rintro e w2 ⟨rfl, rfl⟩)
  go_ret
  exact ⟨rfl, rfl⟩
theorem listener_any (h : FA lo ow R W) (p : Int) : Calls Try.prog 39 #[ptr R.b, .int .i64 p] W fun e w' => e = .returned (R.pa p) ∧ W = w' := by
  obtain ⟨d0, d1⟩ := h.c0
  have K := keep (has_any h p)
  cases hb : hasB R.fm p with
  | false =>
    have hp : R.pa p = .pointer none := by unfold Gf.pa; rw [h.pa_not hb]
    rw [hb] at K
    rw [hp]
    unfold ptr at K ⊢
    clear h hb hp
    go_enter Try.func39, Try.ntmps39
    go_wp2_with (go_at_call 36; refine K.out.mono ?_; rintro e w2 ⟨rfl, rfl⟩)
    go_ret
    exact ⟨rfl, rfl⟩
  | true =>
    obtain ⟨n, rfl, hn, _, hc, _⟩ := h.pa_has hb
    obtain ⟨v, hv⟩ : ∃ v, R.pa (n : Int) = v := ⟨_, rfl⟩
    rw [hv] at hc
    rw [hv]
    rw [hb] at K
    have hnI : (n : Int) < (R.np : Int) := by omega
    unfold ptr at K ⊢
    clear h hb hv
    go_enter Try.func39, Try.ntmps39
    go_wp2_with (go_at_call 36; refine K.out.mono ?_; rintro e w2 ⟨rfl, rfl⟩)
    go_ret
    exact ⟨rfl, rfl⟩
theorem Lost_any (h : FA lo ow R W) (p : Int) : Calls Try.prog 22 #[ptr R.b, .int .i64 p] W fun e w' => e = .returned (.int .i64 (lostN R.fm p : Nat)) ∧ W = w' := by
  have K := keep (listener_any h p)
  unfold lostN
  rw [Gf.at_fm]
  unfold Gf.pa at K
  cases hm : R.at p with
  | none =>
    rw [hm] at K
    dsimp only [Option.map] at K ⊢
    clear h hm
    unfold ptr at K ⊢
    go_enter Try.func22, Try.ntmps22
    go_wp2_with (go_at_call 39; refine K.out.mono ?_; rintro e w2 ⟨rfl, rfl⟩)
    go_ret
    exact ⟨rfl, rfl⟩
  | some m =>
    obtain ⟨_, _, hM, _⟩ := h.at_ms hm
    rw [hm] at K
    dsimp only [Option.map] at K ⊢
    obtain ⟨d0, d1⟩ := hM.c64
    show Calls _ _ _ _ fun e w' => e = .returned (.int .i64 (m.lost : Nat)) ∧ W = w'
    clear h hm hM d0
    unfold ptr at K ⊢
    go_enter Try.func22, Try.ntmps22
    go_wp2_with (go_at_call 39; refine K.out.mono ?_; rintro e w2 ⟨rfl, rfl⟩)
    go_ret
    exact ⟨rfl, rfl⟩
theorem Waiting_any (h : FA lo ow R W) (p : Int) : Calls Try.prog 21 #[ptr R.b, .int .i64 p] W fun e w' => e = .returned (.int .i64 (waitN R.fm p : Nat)) ∧ W = w' := by
  have K := keep (listener_any h p)
  unfold waitN
  rw [Gf.at_fm]
  unfold Gf.pa at K
  cases hm : R.at p with
  | none =>
    rw [hm] at K
    dsimp only [Option.map] at K ⊢
    clear h hm
    unfold ptr at K ⊢
    go_enter Try.func21, Try.ntmps21
    go_wp2_with (go_at_call 39; refine K.out.mono ?_; rintro e w2 ⟨rfl, rfl⟩)
    go_ret
    exact ⟨rfl, rfl⟩
  | some m =>
    obtain ⟨_, _, hM, _⟩ := h.at_ms hm
    rw [hm] at K
    dsimp only [Option.map] at K ⊢
    obtain ⟨d0, d1⟩ := hM.c64
    have hl : m.lm.ws.length = m.v.2.1 := by rw [hM.vlen]; unfold Gl.lm; dsimp only; rw [List.length_map]
    rw [hl]
    unfold Gl.sl at d0
    clear h hm hM d1 hl
    unfold ptr at K ⊢
    go_enter Try.func21, Try.ntmps21
    go_wp2_with (go_at_call 39; refine K.out.mono ?_; rintro e w2 ⟨rfl, rfl⟩)
    go_ret
    exact ⟨rfl, rfl⟩
end
theorem Lost_nil (p : Int) (W : World) : Calls Try.prog 22 #[.pointer none, .int .i64 p] W fun e w' => e = .returned (.int .i64 0) ∧ W = w' := by
  go_enter Try.func22, Try.ntmps22
  go_wp2_with (go_at_call 39; refine (listener_nil p _).mono ?_; rintro e w2 ⟨rfl, rfl⟩)
  go_ret
  exact ⟨rfl, rfl⟩
theorem Waiting_nil (p : Int) (W : World) : Calls Try.prog 21 #[.pointer none, .int .i64 p] W fun e w' => e = .returned (.int .i64 0) ∧ W = w' := by
  go_enter Try.func21, Try.ntmps21
  go_wp2_with (go_at_call 39; refine (listener_nil p _).mono ?_; rintro e w2 ⟨rfl, rfl⟩)
  go_ret
  exact ⟨rfl, rfl⟩
theorem Listen_nil (p : Int) (W : World) : Calls Try.prog 18 #[.pointer none, .int .i64 p] W fun e w' => e = .returned (.int .i64 1) ∧ W = w' := by
  go_enter Try.func18, Try.ntmps18
  go_wp2_with (go_at_call 36; refine (has_nil p _).mono ?_; rintro e w2 ⟨rfl, rfl⟩)
  go_ret
  exact ⟨rfl, rfl⟩
theorem Quiet_nil (p : Int) (W : World) : Calls Try.prog 23 #[.pointer none, .int .i64 p] W fun e w' => e = .returned (.int .i64 1) ∧ W = w' := by
  go_enter Try.func23, Try.ntmps23
  go_wp2_with (go_at_call 36; refine (has_nil p _).mono ?_; rintro e w2 ⟨rfl, rfl⟩)
  go_ret
  exact ⟨rfl, rfl⟩
end Go.Proofs.Ytacmfoljbjdcjaa
