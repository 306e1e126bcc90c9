/- Package topic: the calls of a nil relay. -/
import Derived.Test.YtnbicbnighpkjaaYI
namespace Go.Proofs.Ytnbicbnighpkjaa
open Go.RowKit Go.Maps
set_option linter.unusedVariables false
set_option linter.unusedSimpArgs false

set_option maxHeartbeats 4000000 in
set_option maxRecDepth 100000 in
theorem Join_nil (p : Int) (W : World) : Calls Try.prog 22 #[.pointer none, .int .i64 p] W fun e w' => e = .returned (.int .i64 1) ∧ W = w' := by
  have K := keep (has_nil p W)
  go_enter Try.func22, Try.ntmps22
  go_wp2_with (go_at_call 38; refine K.out.mono ?_; rintro e w2 ⟨rfl, rfl⟩)
  go_ret
  exact ⟨rfl, rfl⟩
set_option maxHeartbeats 4000000 in
set_option maxRecDepth 100000 in
theorem Leave_nil (p : Int) (W : World) : Calls Try.prog 23 #[.pointer none, .int .i64 p] W fun e w' => e = .returned (.int .i64 1) ∧ W = w' := by
  have K := keep (has_nil p W)
  go_enter Try.func23, Try.ntmps23
  go_wp2_with (go_at_call 38; refine K.out.mono ?_; rintro e w2 ⟨rfl, rfl⟩)
  go_ret
  exact ⟨rfl, rfl⟩
set_option maxHeartbeats 4000000 in
set_option maxRecDepth 100000 in
theorem Subscribe_nil (p : Int) (s : ByteArray) (W : World) : Calls Try.prog 24 #[.pointer none, .int .i64 p, .string s, .int .i64 0] W fun e w' => e = .returned (.int .i64 1) ∧ W = w' := by
  have K := keep (has_nil p W)
  go_enter Try.func24, Try.ntmps24
  go_wp2_with (go_at_call 38; refine K.out.mono ?_; rintro e w2 ⟨rfl, rfl⟩)
  go_ret
  exact ⟨rfl, rfl⟩
set_option maxHeartbeats 4000000 in
set_option maxRecDepth 100000 in
theorem Drop_nil (p : Int) (s : ByteArray) (W : World) : Calls Try.prog 25 #[.pointer none, .int .i64 p, .string s] W fun e w' => e = .returned (.int .i64 1) ∧ W = w' := by
  have K := keep (has_nil p W)
  go_enter Try.func25, Try.ntmps25
  go_wp2_with (go_at_call 38; refine K.out.mono ?_; rintro e w2 ⟨rfl, rfl⟩)
  go_ret
  exact ⟨rfl, rfl⟩
set_option maxHeartbeats 4000000 in
set_option maxRecDepth 100000 in
theorem Publish_nil (p : Int) (s : ByteArray) (tx : Bool) (A : Option Addr) (n c : Nat) (W : World) : Calls Try.prog 26 #[.pointer none, .int .i64 p, .string s, .bool tx, .slice A n c] W fun e w' => e = .returned (.tuple #[.int .i64 0, .int .i64 1]) ∧ W = w' := by
  have K := keep (has_nil p W)
  go_enter Try.func26, Try.ntmps26
  go_wp2_with (go_at_call 38; refine K.out.mono ?_; rintro e w2 ⟨rfl, rfl⟩)
  go_ret2
  exact ⟨rfl, rfl⟩
set_option maxHeartbeats 4000000 in
set_option maxRecDepth 100000 in
theorem Failed_nil (p : Int) (s : ByteArray) (W : World) : Calls Try.prog 16 #[.pointer none, .int .i64 p, .string s] W fun e w' => e = .returned (.bool false) ∧ W = w' := by
  have K := keep (member_nil p W)
  go_enter Try.func16, Try.ntmps16
  go_wp2_with (go_at_call 36; refine K.out.mono ?_; rintro e w2 ⟨rfl, rfl⟩)
  go_ret
  exact ⟨rfl, rfl⟩
set_option maxHeartbeats 4000000 in
set_option maxRecDepth 100000 in
theorem Lost_nil (p : Int) (W : World) : Calls Try.prog 18 #[.pointer none, .int .i64 p] W fun e w' => e = .returned (.int .i64 0) ∧ W = w' := by
  have K := keep (member_nil p W)
  go_enter Try.func18, Try.ntmps18
  go_wp2_with (go_at_call 36; refine K.out.mono ?_; rintro e w2 ⟨rfl, rfl⟩)
  go_ret
  exact ⟨rfl, rfl⟩
set_option maxHeartbeats 4000000 in
set_option maxRecDepth 100000 in
theorem Waiting_nil (p : Int) (W : World) : Calls Try.prog 19 #[.pointer none, .int .i64 p] W fun e w' => e = .returned (.int .i64 0) ∧ W = w' := by
  have K := keep (member_nil p W)
  go_enter Try.func19, Try.ntmps19
  go_wp2_with (go_at_call 36; refine K.out.mono ?_; rintro e w2 ⟨rfl, rfl⟩)
  go_ret
  exact ⟨rfl, rfl⟩
set_option maxHeartbeats 4000000 in
set_option maxRecDepth 100000 in
theorem Count_nil (s : ByteArray) (W : World) : Calls Try.prog 20 #[.pointer none, .string s] W fun e w' => e = .returned (.int .i64 0) ∧ W = w' := by
  go_enter Try.func20, Try.ntmps20
  go_wp2
  go_ret
  exact ⟨rfl, rfl⟩
set_option maxHeartbeats 4000000 in
set_option maxRecDepth 100000 in
theorem Pull_nil (p : Int) (W : World) : Calls Try.prog 27 #[.pointer none, .int .i64 p] W fun e w' => e = .returned (.tuple #[.agg ivZ.cells.toArray, .bool false]) ∧ Below W.heap.size W w' := by
  have hB1 := below_lay W (.cells #[.string ⟨#[]⟩, .int .i64 0, .int .i64 0, .bool false, .slice none 0 0] 49)
  have K := keep (member_nil p (W.alloc (.cells #[.string ⟨#[]⟩, .int .i64 0, .int .i64 0, .bool false, .slice none 0 0] 49)))
  have HZ := keep (show IB (W.alloc (.cells #[.string ⟨#[]⟩, .int .i64 0, .int .i64 0, .bool false, .slice none 0 0] 49)) W.heap.size ivZ from heap_alloc_new W _)
  obtain ⟨f0, f1, f2, f3z, f4⟩ := HZ.out.fz
  have HN := keep hB1
  clear hB1
  go_enter Try.func27, Try.ntmps27
  go_wp2_with (go_at_call 36; refine K.out.mono ?_; rintro e w2 ⟨rfl, rfl⟩)
  exact bodyPost_ret (ret_item (p := 4) (u := 5) rfl _ _ W.heap.size ivZ rfl HZ.out) rfl ⟨rfl, HN.out⟩
/-! ### what this law's relay is -/
def NM0 : Mo := newM 3 4
def NM (j : Nat) : Mo := match j with
  | 0 => NM0
  | j + 1 => subscribeM (joinM (NM j) (j : Int)) (j : Int) aS 0
def NP : Mo := pubM (NM 3) 0 aS true [7]
def NU : Mo := pullM NP 1
theorem nm_u {j : Nat} (h : j < 3) : (NM j).u ≤ 100000 := by
  match j, h with
  | 0, _ => exact of_decide_eq_true (by kernel_rfl)
  | 1, _ => exact of_decide_eq_true (by kernel_rfl)
  | 2, _ => exact of_decide_eq_true (by kernel_rfl)
theorem nm_u3 : (NM 3).u ≤ 100000 := of_decide_eq_true (by kernel_rfl)
theorem np_1 : pullI NP 1 = ⟨aS, 0, 0, true, [7]⟩ ∧ pullB NP 1 = true := ⟨by kernel_rfl, by kernel_rfl⟩
theorem nu_2 : pullI NU 2 = ⟨aS, 0, 0, true, [7]⟩ ∧ pullB NU 2 = true := ⟨by kernel_rfl, by kernel_rfl⟩
/-- The block k begins with the octet v. -/
def CB (w : World) (k : Nat) (v : UInt8) : Prop := ∃ cur : Array Value, w.heap[k]? = some (.cells cur 5 (0, 0)) ∧ cur[0]? = some (.int .u8 (v.toNat : Int))
theorem CB.of {w W : World} {k : Nat} {v : UInt8} (h : CB w k v) (hb : W.heap[k]? = w.heap[k]?) : CB W k v := by
  obtain ⟨cur, h1, h2⟩ := h
  exact ⟨cur, hb.trans h1, h2⟩
theorem CB.lt {w : World} {k : Nat} {v : UInt8} (h : CB w k v) : k < w.heap.size := by
  obtain ⟨cur, h1, h2⟩ := h
  exact (Array.getElem?_eq_some_iff.1 h1).1
theorem CB.at_ {w : World} {k : Nat} {v : UInt8} (h : CB w k v) : w.cell? ⟨k, 0, none⟩ = some (.int .u8 (v.toNat : Int)) ∧ w.frozen? ⟨k, 0, none⟩ = false := by
  obtain ⟨cur, h1, h2⟩ := h
  exact ⟨upd_cell h1 0 _ h2, upd_fz h1 0⟩
theorem CB.laid (w : World) : CB (w.alloc (.cells #[.int .u8 7] 5)) w.heap.size 7 := ⟨_, heap_alloc_new w _, rfl⟩
/-- As RQ, and the block k is none of the relay's, and new. -/
def RQX (w : World) (b : Nat) (M : Mo) (k : Nat) (W : World) : Prop := ∃ ow, RL w.heap.size ow b M W ∧ Below w.heap.size w W ∧ ow k = none ∧ w.heap.size ≤ k ∧ k < W.heap.size
section
variable {w W W' : World} {b k : Nat} {M : Mo}
theorem RQX.q (h : RQX w b M k W) : RQ w b M W := by
  obtain ⟨ow, h1, h2, _⟩ := h
  exact ⟨ow, h1, h2⟩
theorem RQX.put (h : RQX w b M k W) (o : Nat) (v : Value) : RQ w b M (W.setCell ⟨k, o, none⟩ v) := by
  obtain ⟨ow, h1, h2, h3, h4, h5⟩ := h
  have hp : Part (fun i => i = k) W (W.setCell ⟨k, o, none⟩ v) := part_one W k o v rfl
  exact ⟨ow, h1.beside hp (fun i hi => by rw [hi]; exact h3), h2.trans (hp.below h2.size (fun i hi => by rw [hi]; exact h4))⟩
theorem RQX.step (h : RQX w b M k W) (hb : Below W.heap.size W W') : RQX w b M k W' := by
  obtain ⟨ow, h1, h2, h3, h4, h5⟩ := h
  exact ⟨ow, h1.step hb, h2.trans (hb.mono h2.size), h3, h4, Nat.lt_of_lt_of_le h5 hb.size⟩
theorem RQ.lay (h : RQ w b M W) (x : Obj) : RQX w b M W.heap.size (W.alloc x) := by
  obtain ⟨ow, h1, h2⟩ := h
  have hb := below_lay W x
  refine ⟨ow, h1.step hb, h2.trans (hb.mono h2.size), ?_, h2.size, by simp⟩
  obtain ⟨R, h3, _⟩ := h1
  exact h3.ok.free (Nat.le_refl _)
theorem RQX.publish (h : RQX w b M k W) {p : Int} (hp : (Lit.int .i64 p).wf = true) {s : ByteArray} (hs : s.size ≤ 300) (tx : Bool) {A : Option Addr} {n c : Nat} {bs : List UInt8} (hd : BS W A n c bs) (hu : M.u ≤ 100000) :
    Calls Try.prog 26 #[ptr b, .int .i64 p, .string s, .bool tx, .slice A n c] W fun e w' => (∃ x y, e = .returned (.tuple #[.int .i64 x, .int .i64 y])) ∧ Hid (RQX w b (pubM M p s tx bs) k w' ∧ w'.heap[k]? = W.heap[k]?) := by
  obtain ⟨ow, ⟨R, h3, rfl, rfl⟩, h2, h4, h5, h6⟩ := h
  refine (Publish_any h3 hp hs tx hd hu).mono fun e w' ⟨g1, g2⟩ => ⟨⟨_, _, g1⟩, keep ?_⟩
  obtain ⟨ow', i1, i2, i3⟩ := g2
  exact ⟨⟨ow', i1, h2.trans (h3.rl.below i3 h2.size), (i2 k h6).trans h4, h5, Nat.lt_of_lt_of_le h6 i3.size⟩, i3.block k h6 fun ⟨t, ht, _⟩ => by rw [h4] at ht; cases ht⟩
theorem RQ.pullx (h : RQ w b M W) {p : Int} (hp : (Lit.int .i64 p).wf = true) {v : UInt8} (hv : (pullI M p).bs = [v]) : Calls Try.prog 27 #[ptr b, .int .i64 p] W fun e w' => ∃ k c, e = .returned (.tuple #[.agg #[.string (pullI M p).tp, .int .i64 (pullI M p).fr, .int .i64 (pullI M p).nu, .bool (pullI M p).tx, .slice (some ⟨k, 0, none⟩) 1 c], .bool (pullB M p)]) ∧ Hid (CB w' k v) ∧ Hid (RQX w b (pullM M p) k w') := by
  obtain ⟨ow, ⟨R, h3, rfl, rfl⟩, h2⟩ := h
  refine (Pull_any h3 hp).mono fun e w' ⟨A, n, c, ow', g1, g2, g3, g4, g5, g6, g7⟩ => ?_
  rw [hv] at g2 g3
  have hn : n = 1 := g2.len
  subst hn
  rcases g3.2 with ⟨hz, _⟩ | ⟨g, cap, cur, hv1, hg, hblk, _, _, _, hx⟩
  · cases hz
  injection hv1 with e1 e2 e3
  subst e1
  subst e3
  have hc0 : cur[0]? = some (.int .u8 (v.toNat : Int)) := by
    have h8 := congrArg (fun l : List Value => l[0]?) hx
    simpa [bc] using h8
  exact ⟨g, c, g1, keep ⟨cur, hblk, hc0⟩, keep ⟨ow', g4, h2.trans (h3.rl.below g6 h2.size), g7 _ rfl, Nat.le_trans h2.size hg, (Array.getElem?_eq_some_iff.1 hblk).1⟩⟩
end
end Go.Proofs.Ytnbicbnighpkjaa
