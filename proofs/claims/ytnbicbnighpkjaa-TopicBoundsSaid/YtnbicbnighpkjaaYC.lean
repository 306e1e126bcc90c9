/- Package topic: what a relay is asked: has, member, Failed, Lost, Waiting, Count. -/
import Derived.Test.YtnbicbnighpkjaaYB
namespace Go.Proofs.Ytnbicbnighpkjaa
open Go.RowKit Go.Maps
set_option linter.unusedVariables false
set_option linter.unusedSimpArgs false

def Mo.at (M : Mo) (p : Int) : Option Pt := if 0 ≤ p then M.P p.toNat else none
def Gr.at (R : Gr) (p : Int) : Option Gm := if 0 ≤ p then R.P p.toNat else none
theorem Gr.at_mo (R : Gr) (p : Int) : R.mo.at p = (R.at p).map Gm.pt := by
  unfold Mo.at Gr.at Gr.mo
  by_cases h : 0 ≤ p
  · rw [if_pos h, if_pos h]
  · rw [if_neg h, if_neg h]
    rfl
theorem Gr.js_at (R : Gr) (p : Int) : R.js p = (R.at p).map fun m => ptr m.b := by
  unfold Gr.js Gr.at
  by_cases h : 0 ≤ p
  · rw [if_pos h, if_pos h]
  · rw [if_neg h, if_neg h]
    rfl
def hasB (M : Mo) (p : Int) : Bool := decide (0 ≤ p) && decide (p < (M.np : Int))
def failedB (M : Mo) (p : Int) (s : ByteArray) : Bool := match M.at p with
  | some x => match x.sub s with
    | some (_, fl) => fl
    | none => false
  | none => false
def lostN (M : Mo) (p : Int) : Nat := match M.at p with
  | some x => x.lost
  | none => 0
def waitN (M : Mo) (p : Int) : Nat := match M.at p with
  | some x => x.ws.length
  | none => 0
section
variable {lo : Nat} {ow : Ow} {R : Gr} {W : World}
theorem RA.at_ms (h : RA lo ow R W) {p : Int} {m : Gm} (hp : R.at p = some m) : 0 ≤ p ∧ R.P p.toNat = some m ∧ MA lo ow p.toNat m W ∧ p < (R.np : Int) ∧ m.ws.length ≤ R.room ∧ m.lost ≤ R.u := by
  unfold Gr.at at hp
  by_cases h0 : 0 ≤ p
  · rw [if_pos h0] at hp
    obtain ⟨h1, h2, h3⟩ := h.ms _ m hp
    exact ⟨h0, hp, h1, by omega, h3⟩
  · rw [if_neg h0] at hp
    cases hp
theorem has_nil (p : Int) (W : World) : Calls Try.prog 38 #[.pointer none, .int .i64 p] W fun e w' => e = .returned (.bool false) ∧ W = w' := by
  go_enter Try.func38, Try.ntmps38
  go_wp2
  go_ret
  exact ⟨rfl, rfl⟩
theorem has_any (h : RA lo ow R W) (p : Int) : Calls Try.prog 38 #[ptr R.b, .int .i64 p] W fun e w' => e = .returned (.bool (hasB R.mo p)) ∧ W = w' := by
  obtain ⟨d0, d1, d2, d3⟩ := h.c0
  unfold hasB Gr.mo ptr
  dsimp only
  clear h
  by_cases h0 : 0 ≤ p
  · by_cases h1 : p < (R.np : Int)
    · rw [decide_eq_true h0, decide_eq_true h1]
      go_enter Try.func38, Try.ntmps38
      go_wp2
      go_ret
      exact ⟨rfl, rfl⟩
    · rw [decide_eq_true h0, decide_eq_false h1]
      go_enter Try.func38, Try.ntmps38
      go_wp2
      go_ret
      exact ⟨rfl, rfl⟩
  · rw [decide_eq_false h0]
    go_enter Try.func38, Try.ntmps38
    go_wp2
    go_ret
    exact ⟨by simp, rfl⟩
theorem RA.look (h : RA lo ow R W) {p : Int} (hp : (Lit.int .i64 p).wf = true) : ∀ W', W'.heap = W.heap → (Instr.lookup 60 (.map (some R.j)) (.int .i64 p) false).run Try.prog W' = .ok ((R.js p).getD (.pointer none)) W' := fun W' hW =>
  (h.jn.same (w' := W') (by rw [hW])).look (e := 73) Try.underlying3 Try.underlying60 (by first | kernel_rfl | rfl) hp
theorem RA.lookN (h : RA lo ow R W) {s : ByteArray} (hs : s.size ≤ 281474976710656) : ∀ W', W'.heap = W.heap → (Instr.lookup 61 (.map (some R.q)) (.string s) false).run Try.prog W' = .ok (.int .i64 (R.mo.N s : Nat)) W' := fun W' hW => by
  have := (h.pb.same (w' := W') (by rw [hW])).look (e := 3) Try.underlying9 Try.underlying61 (z := .int .i64 0) (by first | kernel_rfl | rfl) (n := s) (by unfold maxLen; omega)
  rw [this]
  unfold Gr.ns Gr.mo
  dsimp only
  cases R.N s <;> rfl
theorem member_nil (p : Int) (W : World) : Calls Try.prog 36 #[.pointer none, .int .i64 p] W fun e w' => e = .returned (.pointer none) ∧ W = w' := by
  go_enter Try.func36, Try.ntmps36
  go_wp2
  go_ret
  exact ⟨rfl, rfl⟩
theorem member_any (h : RA lo ow R W) {p : Int} (hp : (Lit.int .i64 p).wf = true) : Calls Try.prog 36 #[ptr R.b, .int .i64 p] W fun e w' => e = .returned ((R.js p).getD (.pointer none)) ∧ W = w' := by
  obtain ⟨d0, d1, d2, d3⟩ := h.c0
  have L := h.look hp W rfl
  obtain ⟨v, hv⟩ : ∃ v, (R.js p).getD (.pointer none) = v := ⟨_, rfl⟩
  rw [hv] at L ⊢
  unfold ptr
  clear h hv hp
  go_enter Try.func36, Try.ntmps36
  go_wp2
  go_ret
  exact ⟨rfl, rfl⟩
set_option maxHeartbeats 2000000 in
theorem Failed_any (h : RA lo ow R W) {p : Int} (hp : (Lit.int .i64 p).wf = true) {s : ByteArray} (hs : s.size ≤ 300) : Calls Try.prog 16 #[ptr R.b, .int .i64 p, .string s] W fun e w' => e = .returned (.bool (failedB R.mo p s)) ∧ W = w' := by
  have K := keep (member_any h hp)
  unfold failedB
  rw [Gr.at_mo]
  have hj := R.js_at p
  cases hm : R.at p with
  | none =>
    rw [hm] at hj
    rw [hj] at K
    dsimp only [Option.map, Option.getD] at K ⊢
    clear h hp hs hj hm
    unfold ptr at K ⊢
    go_enter Try.func16, Try.ntmps16
    go_wp2_with (go_at_call 36; refine K.out.mono ?_; rintro e w2 ⟨rfl, rfl⟩)
    go_ret
    exact ⟨rfl, rfl⟩
  | some m =>
    obtain ⟨_, _, hM, _⟩ := h.at_ms hm
    rw [hm] at hj
    rw [hj] at K
    dsimp only [Option.map, Option.getD] at K ⊢
    have L := hM.look s hs W rfl
    obtain ⟨d0, d1, d2⟩ := hM.c0
    cases hf : m.f s with
    | none =>
      rw [vs_none hf] at L
      have e4 : m.pt.sub s = none := by unfold Gm.pt; dsimp only; rw [hf]; rfl
      rw [e4]
      dsimp only [Option.getD] at L ⊢
      clear h hp hs hj hm hM hf e4 d1 d2
      unfold ptr at K ⊢
      go_enter Try.func16, Try.ntmps16
      go_wp2_with (go_at_call 36; refine K.out.mono ?_; rintro e w2 ⟨rfl, rfl⟩)
      go_ret
      exact ⟨rfl, rfl⟩
    | some x =>
      obtain ⟨hxb, _⟩ := hM.sb s x hf
      have x1 := upd_cell hxb 1 _ rfl
      rw [vs_some hf] at L
      have e4 : m.pt.sub s = some (x.m, x.fl) := by unfold Gm.pt; dsimp only; rw [hf]; rfl
      rw [e4]
      dsimp only [Option.getD] at L ⊢
      clear h hp hs hj hm hM hf e4 d1 d2 hxb
      obtain ⟨xb, xm, xf⟩ := x
      dsimp only at x1 L ⊢
      unfold ptr at K L ⊢
      go_enter Try.func16, Try.ntmps16
      go_wp2_with (go_at_call 36; refine K.out.mono ?_; rintro e w2 ⟨rfl, rfl⟩)
      go_ret
      exact ⟨rfl, rfl⟩
theorem Lost_any (h : RA lo ow R W) {p : Int} (hp : (Lit.int .i64 p).wf = true) : Calls Try.prog 18 #[ptr R.b, .int .i64 p] W fun e w' => e = .returned (.int .i64 (lostN R.mo p : Nat)) ∧ W = w' := by
  have K := keep (member_any h hp)
  unfold lostN
  rw [Gr.at_mo]
  have hj := R.js_at p
  cases hm : R.at p with
  | none =>
    rw [hm] at hj
    rw [hj] at K
    dsimp only [Option.map, Option.getD] at K ⊢
    clear h hp hj hm
    unfold ptr at K ⊢
    go_enter Try.func18, Try.ntmps18
    go_wp2_with (go_at_call 36; refine K.out.mono ?_; rintro e w2 ⟨rfl, rfl⟩)
    go_ret
    exact ⟨rfl, rfl⟩
  | some m =>
    obtain ⟨_, _, hM, _⟩ := h.at_ms hm
    rw [hm] at hj
    rw [hj] at K
    dsimp only [Option.map, Option.getD] at K ⊢
    obtain ⟨d0, d1, d2⟩ := hM.c0
    show Calls _ _ _ _ fun e w' => e = .returned (.int .i64 (m.lost : Nat)) ∧ W = w'
    clear h hp hj hm hM d0 d1
    unfold ptr at K ⊢
    go_enter Try.func18, Try.ntmps18
    go_wp2_with (go_at_call 36; refine K.out.mono ?_; rintro e w2 ⟨rfl, rfl⟩)
    go_ret
    exact ⟨rfl, rfl⟩
theorem Waiting_any (h : RA lo ow R W) {p : Int} (hp : (Lit.int .i64 p).wf = true) : Calls Try.prog 19 #[ptr R.b, .int .i64 p] W fun e w' => e = .returned (.int .i64 (waitN R.mo p : Nat)) ∧ W = w' := by
  have K := keep (member_any h hp)
  unfold waitN
  rw [Gr.at_mo]
  have hj := R.js_at p
  cases hm : R.at p with
  | none =>
    rw [hm] at hj
    rw [hj] at K
    dsimp only [Option.map, Option.getD] at K ⊢
    clear h hp hj hm
    unfold ptr at K ⊢
    go_enter Try.func19, Try.ntmps19
    go_wp2_with (go_at_call 36; refine K.out.mono ?_; rintro e w2 ⟨rfl, rfl⟩)
    go_ret
    exact ⟨rfl, rfl⟩
  | some m =>
    obtain ⟨_, _, hM, _⟩ := h.at_ms hm
    rw [hm] at hj
    rw [hj] at K
    dsimp only [Option.map, Option.getD] at K ⊢
    obtain ⟨d0, d1, d2⟩ := hM.c0
    have hl : m.pt.ws.length = m.v.2.1 := by rw [hM.vlen]; unfold Gm.pt; dsimp only; rw [List.length_map]
    rw [hl]
    unfold Gm.sl at d1
    clear h hp hj hm hM d0 d2 hl
    unfold ptr at K ⊢
    go_enter Try.func19, Try.ntmps19
    go_wp2_with (go_at_call 36; refine K.out.mono ?_; rintro e w2 ⟨rfl, rfl⟩)
    go_ret
    exact ⟨rfl, rfl⟩
theorem Count_any (h : RA lo ow R W) {s : ByteArray} (hs : s.size ≤ 281474976710656) : Calls Try.prog 20 #[ptr R.b, .string s] W fun e w' => e = .returned (.int .i64 (R.mo.N s : Nat)) ∧ W = w' := by
  obtain ⟨d0, d1, d2, d3⟩ := h.c0
  have L := h.lookN hs W rfl
  obtain ⟨v, hv⟩ : ∃ v, R.mo.N s = v := ⟨_, rfl⟩
  rw [hv] at L ⊢
  clear h hs hv d0 d1 d2
  unfold ptr
  go_enter Try.func20, Try.ntmps20
  go_wp2
  go_ret
  exact ⟨rfl, rfl⟩
end
end Go.Proofs.Ytnbicbnighpkjaa
