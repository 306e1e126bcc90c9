/- Package topic: a relay that a law has made: its calls, by its contents alone; of a nil relay; the laws' awake. -/
import Derived.Test.YtnbicbnighpkjaaYH
namespace Go.Proofs.Ytnbicbnighpkjaa
open Go.RowKit Go.Maps
set_option linter.unusedVariables false
set_option linter.unusedSimpArgs false

/-- In this call's memory, at b, a relay with the contents M. -/
def RQ (w : World) (b : Nat) (M : Mo) (W : World) : Prop := ∃ ow, RL w.heap.size ow b M W ∧ Below w.heap.size w W
section
variable {w W W' : World} {b : Nat} {M : Mo}
theorem RQ.step (h : RQ w b M W) (hb : Below W.heap.size W W') : RQ w b M W' := by
  obtain ⟨ow, h1, h2⟩ := h
  exact ⟨ow, h1.step hb, h2.trans (hb.mono h2.size)⟩
theorem RQ.bl (h : RQ w b M W) : Below w.heap.size w W := by
  obtain ⟨ow, _, h2⟩ := h
  exact h2
theorem RL.below {lo : Nat} {ow : Ow} (h : RL lo ow b M W) (hp : Part (All ow) W W') (hlo : lo ≤ W.heap.size) : Below lo W W' := by
  obtain ⟨R, h1, _⟩ := h
  exact hp.below hlo fun k ⟨t, ht, _⟩ => h1.ok.lo k t ht
theorem RP.rq {ow : Ow} (h : RL w.heap.size ow b M W) (hb : Below w.heap.size w W) {M' : Mo} (hp : RP w.heap.size ow W b M' W') : RQ w b M' W' := by
  obtain ⟨ow', h1, h2, h3⟩ := hp
  exact ⟨ow', h1, hb.trans (h.below h3 hb.size)⟩
theorem RQ.np (h : RQ w b M W) : 1 ≤ M.np ∧ M.np ≤ 16 ∧ 1 ≤ M.room ∧ M.room ≤ 64 := by
  obtain ⟨ow, ⟨R, h1, _, rfl⟩, _⟩ := h
  exact ⟨h1.np.1, h1.np.2, h1.rm.1, h1.rm.2⟩
theorem RQ.pt (h : RQ w b M W) {n : Nat} {x : Pt} (hx : M.P n = some x) : x.ws.length ≤ M.room ∧ n < M.np ∧ x.c ≤ 64 := by
  obtain ⟨ow, ⟨R, h1, _, rfl⟩, _⟩ := h
  unfold Gr.mo at hx ⊢
  dsimp only at hx ⊢
  cases hm : R.P n with
  | none => rw [hm] at hx; cases hx
  | some m =>
    rw [hm] at hx
    injection hx with hx
    subst hx
    obtain ⟨a1, a2, a3, a4⟩ := h1.ms n m hm
    unfold Gm.pt
    dsimp only
    rw [List.length_map]
    exact ⟨a3, a2, a1.cl⟩
theorem New_q (a r : Int) (hb : Below w.heap.size w W) : Calls Try.prog 12 #[.int .i64 a, .int .i64 r] W fun e w' => ∃ b, e = .returned (ptr b) ∧ Hid (RQ w b (newM (clampT a 16) (clampT r 64)) w') :=
  (New_any a r W (lo := w.heap.size) hb.size).mono fun e w' ⟨h1, h2, h3⟩ => ⟨_, h1, keep ⟨_, h2, hb.trans (h3.mono hb.size)⟩⟩
theorem Join_q (h : RQ w b M W) {p : Int} (hp : (Lit.int .i64 p).wf = true) (hu : M.u ≤ 100000) : Calls Try.prog 22 #[ptr b, .int .i64 p] W fun e w' => e = .returned (.int .i64 (joinE M p)) ∧ Hid (RQ w b (joinM M p) w') := by
  obtain ⟨ow, h1, h2⟩ := h
  obtain ⟨R, h3, rfl, rfl⟩ := h1
  exact (Join_any h3 hp hu).mono fun e w' ⟨g1, g2⟩ => ⟨g1, keep (g2.rq h3.rl h2)⟩
theorem Leave_q (h : RQ w b M W) {p : Int} (hp : (Lit.int .i64 p).wf = true) : Calls Try.prog 23 #[ptr b, .int .i64 p] W fun e w' => e = .returned (.int .i64 (leaveE M p)) ∧ Hid (RQ w b (leaveM M p) w') := by
  obtain ⟨ow, h1, h2⟩ := h
  obtain ⟨R, h3, rfl, rfl⟩ := h1
  exact (Leave_any h3 hp).mono fun e w' ⟨g1, g2⟩ => ⟨g1, keep (g2.rq h3.rl h2)⟩
theorem Subscribe_q (h : RQ w b M W) {p : Int} (hp : (Lit.int .i64 p).wf = true) {s : ByteArray} (hs : s.size ≤ 300) (md : Int) : Calls Try.prog 24 #[ptr b, .int .i64 p, .string s, .int .i64 md] W fun e w' => e = .returned (.int .i64 (subscribeE M p s md)) ∧ Hid (RQ w b (subscribeM M p s md) w') := by
  obtain ⟨ow, h1, h2⟩ := h
  obtain ⟨R, h3, rfl, rfl⟩ := h1
  exact (Subscribe_any h3 hp hs md).mono fun e w' ⟨g1, g2⟩ => ⟨g1, keep (g2.rq h3.rl h2)⟩
theorem Drop_q (h : RQ w b M W) {p : Int} (hp : (Lit.int .i64 p).wf = true) {s : ByteArray} (hs : s.size ≤ 300) : Calls Try.prog 25 #[ptr b, .int .i64 p, .string s] W fun e w' => e = .returned (.int .i64 (dropEM M p s)) ∧ Hid (RQ w b (dropM M p s) w') := by
  obtain ⟨ow, h1, h2⟩ := h
  obtain ⟨R, h3, rfl, rfl⟩ := h1
  exact (Drop_any h3 hp hs).mono fun e w' ⟨g1, g2⟩ => ⟨g1, keep (g2.rq h3.rl h2)⟩
theorem Publish_q (h : RQ w b M W) {p : Int} (hp : (Lit.int .i64 p).wf = true) {s : ByteArray} (hs : s.size ≤ 300) (tx : Bool) {A : Option Addr} {n c : Nat} {bs : List UInt8} (hd : BS W A n c bs) (hu : M.u ≤ 100000) :
    Calls Try.prog 26 #[ptr b, .int .i64 p, .string s, .bool tx, .slice A n c] W fun e w' => e = .returned (.tuple #[.int .i64 (pubC M p s tx bs : Nat), .int .i64 (pubE M p s bs.length)]) ∧ Hid (RQ w b (pubM M p s tx bs) w') := by
  obtain ⟨ow, h1, h2⟩ := h
  obtain ⟨R, h3, rfl, rfl⟩ := h1
  exact (Publish_any h3 hp hs tx hd hu).mono fun e w' ⟨g1, g2⟩ => ⟨g1, keep (g2.rq h3.rl h2)⟩
theorem Pull_q (h : RQ w b M W) {p : Int} (hp : (Lit.int .i64 p).wf = true) : Calls Try.prog 27 #[ptr b, .int .i64 p] W fun e w' => ∃ A n c, e = .returned (.tuple #[.agg #[.string (pullI M p).tp, .int .i64 (pullI M p).fr, .int .i64 (pullI M p).nu, .bool (pullI M p).tx, .slice A n c], .bool (pullB M p)]) ∧ Hid (BS w' A n c (pullI M p).bs) ∧ Hid (RQ w b (pullM M p) w') := by
  obtain ⟨ow, h1, h2⟩ := h
  obtain ⟨R, h3, rfl, rfl⟩ := h1
  exact (Pull_any h3 hp).mono fun e w' ⟨A, n, c, ow', g1, g2, g3, g4, g5, g6, g7⟩ => ⟨A, n, c, g1, keep g2, keep ⟨ow', g4, h2.trans (h3.rl.below g6 h2.size)⟩⟩
theorem Failed_q (h : RQ w b M W) {p : Int} (hp : (Lit.int .i64 p).wf = true) {s : ByteArray} (hs : s.size ≤ 300) : Calls Try.prog 16 #[ptr b, .int .i64 p, .string s] W fun e w' => e = .returned (.bool (failedB M p s)) ∧ W = w' := by
  obtain ⟨ow, ⟨R, h3, rfl, rfl⟩, h2⟩ := h
  exact Failed_any h3 hp hs
theorem Lost_q (h : RQ w b M W) {p : Int} (hp : (Lit.int .i64 p).wf = true) : Calls Try.prog 18 #[ptr b, .int .i64 p] W fun e w' => e = .returned (.int .i64 (lostN M p : Nat)) ∧ W = w' := by
  obtain ⟨ow, ⟨R, h3, rfl, rfl⟩, h2⟩ := h
  exact Lost_any h3 hp
theorem Waiting_q (h : RQ w b M W) {p : Int} (hp : (Lit.int .i64 p).wf = true) : Calls Try.prog 19 #[ptr b, .int .i64 p] W fun e w' => e = .returned (.int .i64 (waitN M p : Nat)) ∧ W = w' := by
  obtain ⟨ow, ⟨R, h3, rfl, rfl⟩, h2⟩ := h
  exact Waiting_any h3 hp
theorem Count_q (h : RQ w b M W) {s : ByteArray} (hs : s.size ≤ 281474976710656) : Calls Try.prog 20 #[ptr b, .string s] W fun e w' => e = .returned (.int .i64 (M.N s : Nat)) ∧ W = w' := by
  obtain ⟨ow, ⟨R, h3, rfl, rfl⟩, h2⟩ := h
  exact Count_any h3 hs
end
/-! ### awake -/
def aS : ByteArray := ⟨#[97]⟩
def A0 : Mo := newM 2 4
def A2 : Mo := joinM (joinM A0 0) 1
def A3 : Mo := subscribeM A2 1 aS 0
def A4 : Mo := pubM A3 0 aS true [7]
theorem a_clamp : clampT 2 16 = 2 ∧ clampT 4 64 = 4 := ⟨rfl, rfl⟩
theorem a_join : joinE A0 0 = 0 ∧ joinE (joinM A0 0) 1 = 0 ∧ A0.u = 0 ∧ (joinM A0 0).u = 1 := ⟨by kernel_rfl, by kernel_rfl, by kernel_rfl, by kernel_rfl⟩
theorem a_sub : subscribeE A2 1 aS 0 = 0 := by kernel_rfl
theorem a_pub : pubC A3 0 aS true [7] = 1 ∧ pubE A3 0 aS 1 = 0 ∧ A3.u = 2 := ⟨by kernel_rfl, by kernel_rfl, by kernel_rfl⟩
theorem a_pull : pullI A4 1 = ⟨aS, 0, 0, true, [7]⟩ ∧ pullB A4 1 = true ∧ (pullM A4 1).N aS = 1 := ⟨by kernel_rfl, by kernel_rfl, by kernel_rfl⟩
theorem wf0 : (Lit.int .i64 0).wf = true := by decide
theorem wf1 : (Lit.int .i64 1).wf = true := by decide
set_option maxHeartbeats 8000000 in
set_option maxRecDepth 1000000 in
theorem awake_any (w : World) : Calls Try.prog 10 #[] w fun e w' => e = .returned (.bool true) ∧ Below w.heap.size w w' := by
  have K1 := keep (New_q (w := w) 2 4 (Below.refl w.heap.size w))
  rw [a_clamp.1, a_clamp.2] at K1
  have K2 := keep (fun b W (h : RQ w b A0 W) => Join_q h wf0 (by rw [a_join.2.2.1]; decide))
  rw [a_join.1] at K2
  have K3 := keep (fun b W (h : RQ w b (joinM A0 0) W) => Join_q h wf1 (by rw [a_join.2.2.2]; decide))
  rw [a_join.2.1] at K3
  have K4 := keep (fun b W (h : RQ w b A2 W) => Subscribe_q h wf1 (s := aS) (by decide) 0)
  rw [a_sub] at K4
  have K5 := keep (fun b W A (h : RQ w b A3 W) (hd : BS W A 1 1 [7]) => Publish_q h wf0 (s := aS) (by decide) true hd (by rw [a_pub.2.2]; decide))
  rw [a_pub.1, show ([7] : List UInt8).length = 1 from rfl, a_pub.2.1] at K5
  have K6 := keep (fun b W (h : RQ w b A4 W) => Pull_q h wf1)
  rw [a_pull.1, a_pull.2.1] at K6
  have K7 := keep (fun b W (h : RQ w b (pullM A4 1) W) => Count_q h (s := aS) (by decide))
  rw [a_pull.2.2] at K7
  unfold ptr aS at *
  dsimp only at K6
  go_enter Try.func10, Try.ntmps10
  go_wp2_with fail
  refine K1.out.mono ?_
  rintro e w1 ⟨b, rfl, h1⟩
  go_wp2_with fail
  refine (K2.out b w1 h1.out).mono ?_
  rintro e w2 ⟨rfl, h2⟩
  go_wp2_with fail
  refine (K3.out b w2 h2.out).mono ?_
  rintro e w3 ⟨rfl, h3⟩
  go_wp2_with fail
  refine (K4.out b w3 h3.out).mono ?_
  rintro e w4 ⟨rfl, h4⟩
  go_wp2_with fail
  have hbs := BS.laid w4 5 [7] (by simp)
  have h4' := keep (h4.out.step (below_lay w4 (.cells #[.int .u8 7] 5)))
  refine (K5.out b _ _ h4'.out hbs).mono ?_
  rintro e w5 ⟨rfl, h5⟩
  clear hbs
  go_wp2_with fail
  refine (K6.out b w5 h5.out).mono ?_
  rintro e w6 ⟨A, n, c, rfl, hd6, h6⟩
  have HN := keep (show n = 1 from hd6.out.len)
  obtain rfl := HN.out
  have h7 := keep (h6.out.step (below_lay w6 (.cells #[.string ⟨#[97]⟩, .int .i64 0, .int .i64 0, .bool true, .slice A 1 c] 49)))
  go_wp2_with fail
  refine (K7.out b _ h7.out).mono ?_
  rintro e w8 ⟨rfl, rfl⟩
  go_wp2
  go_ret
  exact ⟨rfl, h7.out.bl⟩
end Go.Proofs.Ytnbicbnighpkjaa
