/- Package audio: a forwarder that a law has made: its calls, by its contents alone; of a nil forwarder; Is; the laws' awake. -/
import Derived.Test.YtacmfoljbjdcjaaUA
namespace Go.Proofs.Ytacmfoljbjdcjaa
open Go.RowKit Go.Maps
set_option linter.unusedVariables false
set_option linter.unusedSimpArgs false

/-- In this call's memory, at b, a forwarder with the contents M; the blocks ks are this call's, too, and none of the forwarder's. -/
def FQ (w : World) (b : Nat) (M : Fm) (ks : List Nat) (W : World) : Prop := ∃ ow r, FL w.heap.size ow b r M W ∧ Below w.heap.size w W ∧ ∀ k ∈ ks, ow k = none ∧ w.heap.size ≤ k ∧ k < W.heap.size
/-- Those blocks stay as they were. -/
def Kept (ks : List Nat) (W W' : World) : Prop := ∀ k ∈ ks, W'.heap[k]? = W.heap[k]?
section
variable {w W W' : World} {b : Nat} {M : Fm} {ks : List Nat}
theorem FQ.step (h : FQ w b M ks W) (hb : Below W.heap.size W W') : FQ w b M ks W' := by
  obtain ⟨ow, r, h1, h2, h3⟩ := h
  exact ⟨ow, r, h1.step hb, h2.trans (hb.mono h2.size), fun k hk => ⟨(h3 k hk).1, (h3 k hk).2.1, Nat.lt_of_lt_of_le (h3 k hk).2.2 hb.size⟩⟩
theorem FQ.bl (h : FQ w b M ks W) : Below w.heap.size w W := by
  obtain ⟨ow, r, _, h2, _⟩ := h
  exact h2
theorem FQ.less (h : FQ w b M ks W) {js : List Nat} (hs : ∀ k ∈ js, k ∈ ks) : FQ w b M js W := by
  obtain ⟨ow, r, h1, h2, h3⟩ := h
  exact ⟨ow, r, h1, h2, fun k hk => h3 k (hs k hk)⟩
theorem FQ.lay (h : FQ w b M ks W) (x : Obj) : FQ w b M (W.heap.size :: ks) (W.alloc x) := by
  have hb := below_lay W x
  obtain ⟨ow, r, h1, h2, h3⟩ := h
  refine ⟨ow, r, h1.step hb, h2.trans (hb.mono h2.size), fun k hk => ?_⟩
  rcases List.mem_cons.1 hk with rfl | hk
  · refine ⟨?_, h2.size, by simp⟩
    obtain ⟨R, h4, _⟩ := h1
    exact h4.ok.free (Nat.le_refl _)
  · exact ⟨(h3 k hk).1, (h3 k hk).2.1, Nat.lt_of_lt_of_le (h3 k hk).2.2 hb.size⟩
theorem FQ.put (h : FQ w b M ks W) {k : Nat} (hk : k ∈ ks) (o : Nat) (v : Value) : FQ w b M ks (W.setCell ⟨k, o, none⟩ v) := by
  obtain ⟨ow, r, h1, h2, h3⟩ := h
  obtain ⟨k1, k2, k3⟩ := h3 k hk
  have hp : Part (fun i => i = k) W (W.setCell ⟨k, o, none⟩ v) := part_one W k o v rfl
  exact ⟨ow, r, h1.beside hp (fun i hi => by rw [hi]; exact k1), h2.trans (hp.below h2.size (fun i hi => by rw [hi]; exact k2)), fun j hj => ⟨(h3 j hj).1, (h3 j hj).2.1, Nat.lt_of_lt_of_le (h3 j hj).2.2 hp.size⟩⟩
theorem FA.below {lo : Nat} {ow : Ow} {R : Gf} (h : FA lo ow R W) (hp : Part (All ow) W W') : Below lo W W' := hp.below h.lo fun k ⟨t, ht, _⟩ => h.ok.lo k t ht
theorem FP.fq {ow : Ow} {R : Gf} (h : FA w.heap.size ow R W) (hb : Below w.heap.size w W) (hks : ∀ k ∈ ks, ow k = none ∧ w.heap.size ≤ k ∧ k < W.heap.size) {M' : Fm} (hp : FP w.heap.size ow W R.b R.r M' W') : Hid (FQ w R.b M' ks W') ∧ Hid (Kept ks W W') := by
  obtain ⟨ow', h1, h2, h3⟩ := hp
  exact ⟨keep ⟨ow', R.r, h1, hb.trans (h.below h3), fun k hk => ⟨(h2 k (hks k hk).2.2).trans (hks k hk).1, (hks k hk).2.1, Nat.lt_of_lt_of_le (hks k hk).2.2 h3.size⟩⟩, keep fun k hk => h3.block k (hks k hk).2.2 fun ⟨t, ht, _⟩ => by rw [(hks k hk).1] at ht; cases ht⟩
theorem FQ.np (h : FQ w b M ks W) : 1 ≤ M.np ∧ M.np ≤ 16 ∧ 1 ≤ M.room ∧ M.room ≤ 64 := by
  obtain ⟨ow, r, ⟨R, h1, _, _, rfl⟩, _⟩ := h
  exact ⟨h1.np.1, h1.np.2, h1.rm.1, h1.rm.2⟩
theorem New_q (a r : Int) (hb : Below w.heap.size w W) : Calls Try.prog 17 #[.int .i64 a, .int .i64 r] W fun e w' => ∃ b, e = .returned (ptr b) ∧ Hid (FQ w b (newM (clampT a 16) (clampT r 64)) [] w') :=
  (New_any a r W (lo := w.heap.size) hb.size).mono fun e w' ⟨b, r, ow, h1, h2, h3⟩ => ⟨_, h1, keep ⟨_, _, h2, hb.trans (h3.mono hb.size), fun k hk => by cases hk⟩⟩
theorem Listen_q (h : FQ w b M ks W) (p : Int) : Calls Try.prog 18 #[ptr b, .int .i64 p] W fun e w' => e = .returned (.int .i64 (listenE M p)) ∧ Hid (FQ w b (listenM M p) ks w') ∧ Hid (Kept ks W w') := by
  obtain ⟨ow, r, h1, h2, h9⟩ := h
  obtain ⟨R, h3, rfl, rfl, rfl⟩ := h1
  exact (Listen_any h3 p).mono fun e w' ⟨g1, g2⟩ => ⟨g1, g2.fq h3 h2 h9⟩
theorem Hear_q (h : FQ w b M ks W) (p : Int) (ym : Bool) (yk yq yt yo : Int) {A : Option Addr} {n c : Nat} {bs : List UInt8} (hd : BS W A n c bs) (hu : M.u ≤ 100000) :
    Calls Try.prog 19 #[ptr b, .int .i64 p, .agg #[.bool ym, .int .u8 yk, .int .u16 yq, .int .u32 yt, .int .u32 yo, .slice A n c]] W fun e w' => e = .returned (.tuple #[.int .i64 (hearN M p ⟨ym, yk, yq, yt, yo, bs⟩ : Nat), .int .i64 (hearE M p yk n)]) ∧ Hid (FQ w b (hearM M p ⟨ym, yk, yq, yt, yo, bs⟩) ks w') ∧ Hid (Kept ks W w') := by
  obtain ⟨ow, r, h1, h2, h9⟩ := h
  obtain ⟨R, h3, rfl, rfl, rfl⟩ := h1
  exact (Hear_any h3 p ym yk yq yt yo hd hu).mono fun e w' ⟨g1, g2⟩ => ⟨g1, g2.fq h3 h2 h9⟩
theorem Pull_q (h : FQ w b M ks W) (p : Int) : Calls Try.prog 20 #[ptr b, .int .i64 p] W fun e w' => ∃ A n c, e = .returned (.tuple #[.agg #[.bool (pullI M p).mr, .int .u8 (pullI M p).kd, .int .u16 (pullI M p).sq, .int .u32 (pullI M p).st, .int .u32 (pullI M p).so, .slice A n c], .bool (pullB M p)]) ∧ Hid (BS w' A n c (pullI M p).bs) ∧ Hid (FQ w b (pullM M p) ks w') ∧ Hid (Kept ks W w') ∧
    Hid (∀ a, A = some a → FQ w b (pullM M p) (a.block :: ks) w' ∧ a = ⟨a.block, 0, none⟩ ∧ w'.frozen? a = false) := by
  obtain ⟨ow, r, h1, h2, h9⟩ := h
  obtain ⟨R, h3, rfl, rfl, rfl⟩ := h1
  refine (Pull_any h3 p).mono fun e w' ⟨A, n, c, ow', g1, g2, g3, g4, g5, g6, g7⟩ => ?_
  obtain ⟨q1, q2⟩ := FP.fq h3 h2 h9 ⟨ow', g4, g5, g6⟩
  refine ⟨A, n, c, g1, keep g2, q1, q2, keep fun a ha => ?_⟩
  subst ha
  rcases g3.2 with ⟨hz, _⟩ | ⟨g, cap, cur, hv1, hg, hblk, _⟩
  · cases hz
  injection hv1 with e1
  injection e1 with e1
  subst e1
  refine ⟨⟨ow', _, g4, h2.trans (h3.below g6), fun k hk => ?_⟩, rfl, upd_fz hblk 0⟩
  rcases List.mem_cons.1 hk with rfl | hk
  · exact ⟨g7 _ rfl, Nat.le_trans h2.size hg, (Array.getElem?_eq_some_iff.1 hblk).1⟩
  · exact ⟨(g5 k (h9 k hk).2.2).trans (h9 k hk).1, (h9 k hk).2.1, Nat.lt_of_lt_of_le (h9 k hk).2.2 g6.size⟩
theorem Lost_q (h : FQ w b M ks W) (p : Int) : Calls Try.prog 22 #[ptr b, .int .i64 p] W fun e w' => e = .returned (.int .i64 (lostN M p : Nat)) ∧ W = w' := by
  obtain ⟨ow, r, ⟨R, h3, rfl, rfl, rfl⟩, h2⟩ := h
  exact Lost_any h3 p
theorem Waiting_q (h : FQ w b M ks W) (p : Int) : Calls Try.prog 21 #[ptr b, .int .i64 p] W fun e w' => e = .returned (.int .i64 (waitN M p : Nat)) ∧ W = w' := by
  obtain ⟨ow, r, ⟨R, h3, rfl, rfl, rfl⟩, h2⟩ := h
  exact Waiting_any h3 p
end
/-! ### Is -/
def isB (bs : List UInt8) : Bool := match bs with
  | [] => false
  | x :: _ => decide (x.toNat / 64 = 2)
theorem Is_any (A : Option Addr) (n c : Nat) (bs : List UInt8) (w : World) (h : BS w A n c bs) : Calls Try.prog 16 #[.slice A n c] w fun e w' => e = .returned (.bool (isB bs)) ∧ w = w' := by
  have hl := h.len
  cases bs with
  | nil =>
    obtain rfl : n = 0 := hl
    clear h
    go_enter Try.func16, Try.ntmps16
    go_wp2
    go_ret
    exact ⟨rfl, rfl⟩
  | cons x r =>
    obtain ⟨b, o, rfl, hlt, hc⟩ := h.br.at_ (j := 0) (by simp)
    have hn0 : (0 : Int) < (n : Int) := by rw [hl]; simp
    have hx := x.toNat_lt
    rw [Nat.add_zero] at hc
    obtain ⟨v, hv⟩ : ∃ v : Int, (x.toNat : Int) = v := ⟨_, rfl⟩
    have hc' : w.cell? ⟨b, o, none⟩ = some (.int .u8 v) := by rw [← hv]; exact hc
    have hd : decide (x.toNat / 64 = 2) = decide (v / 64 = 2) := by
      rw [← hv]
      apply decide_eq_decide.2
      omega
    show Calls _ _ _ _ fun e w' => e = .returned (.bool (decide (x.toNat / 64 = 2))) ∧ w = w'
    rw [hd]
    have hv0 : 0 ≤ v := by omega
    have hv1 : v < 256 := by omega
    clear h hl hc hv hx hd
    go_enter Try.func16, Try.ntmps16
    go_wp2
    go_ret
    exact ⟨ret_bool (by rfl), rfl⟩
set_option maxHeartbeats 4000000 in
set_option maxRecDepth 100000 in
theorem Hear_nil (p : Int) (ym : Bool) (yk yq yt yo : Int) (A : Option Addr) (n c : Nat) (W : World) : Calls Try.prog 19 #[.pointer none, .int .i64 p, .agg #[.bool ym, .int .u8 yk, .int .u16 yq, .int .u32 yt, .int .u32 yo, .slice A n c]] W fun e w' => e = .returned (.tuple #[.int .i64 0, .int .i64 1]) ∧ Below W.heap.size W w' := by
  have HB := keep (below_lay W (.cells #[.bool ym, .int .u8 yk, .int .u16 yq, .int .u32 yt, .int .u32 yo, .slice A n c] 26))
  have K := keep fun w => has_nil p w
  go_enter Try.func19, Try.ntmps19
  go_wp2_with (go_at_call 36; refine (K.out _).mono ?_; rintro e w2 ⟨rfl, rfl⟩)
  go_ret2
  exact ⟨rfl, HB.out⟩
set_option maxHeartbeats 4000000 in
set_option maxRecDepth 100000 in
theorem Pull_nil (p : Int) (W : World) : Calls Try.prog 20 #[.pointer none, .int .i64 p] W fun e w' => e = .returned (.tuple #[.agg pvZ.cells.toArray, .bool false]) ∧ Below W.heap.size W w' := by
  have hB1 := below_lay W (.cells #[.bool false, .int .u8 0, .int .u16 0, .int .u32 0, .int .u32 0, .slice none 0 0] 26)
  have K := keep (listener_nil p (W.alloc (.cells #[.bool false, .int .u8 0, .int .u16 0, .int .u32 0, .int .u32 0, .slice none 0 0] 26)))
  have HZ := keep (show IB (W.alloc (.cells #[.bool false, .int .u8 0, .int .u16 0, .int .u32 0, .int .u32 0, .slice none 0 0] 26)) W.heap.size pvZ from heap_alloc_new W _)
  obtain ⟨f0, f1, f2, f3z, f4, f5⟩ := HZ.out.fz
  have HN := keep hB1
  clear hB1
  go_enter Try.func20, Try.ntmps20
  go_wp2_with (go_at_call 39; refine K.out.mono ?_; rintro e w2 ⟨rfl, rfl⟩)
  exact bodyPost_ret (ret_pkt (p := 4) (u := 5) rfl _ _ W.heap.size pvZ rfl HZ.out) rfl ⟨rfl, HN.out⟩
/-! ### awake -/
def aP : Pk := ⟨false, 0, 700, 0, 9, [1]⟩
def aQ : Pk := ⟨false, 0, 703, 0, 9, [2]⟩
def A0 : Fm := newM 2 4
def A1 : Fm := listenM A0 0
def A2 : Fm := listenM A1 1
def A3 : Fm := hearM A2 0 aP
def A4 : Fm := hearM A3 0 aQ
def A5 : Fm := pullM A4 1
theorem a_clamp : clampT 2 16 = 2 ∧ clampT 4 64 = 4 := ⟨rfl, rfl⟩
theorem a_lis : listenE A0 0 = 0 ∧ listenE A1 1 = 0 := ⟨by kernel_rfl, by kernel_rfl⟩
theorem a_hear : hearN A2 0 aP = 1 ∧ hearE A2 0 0 1 = 0 ∧ A2.u = 0 ∧ hearN A3 0 aQ = 1 ∧ hearE A3 0 0 1 = 0 ∧ A3.u = 1 := ⟨by kernel_rfl, by kernel_rfl, by kernel_rfl, by kernel_rfl, by kernel_rfl, by kernel_rfl⟩
theorem a_pull : pullI A4 1 = ⟨false, 0, 0, 0, 1, [1]⟩ ∧ pullB A4 1 = true ∧ pullI A5 1 = ⟨false, 0, 3, 0, 1, [2]⟩ ∧ pullB A5 1 = true := ⟨by kernel_rfl, by kernel_rfl, by kernel_rfl, by kernel_rfl⟩
set_option maxHeartbeats 8000000 in
set_option maxRecDepth 1000000 in
theorem awake_any (w : World) : Calls Try.prog 8 #[] w fun e w' => e = .returned (.bool true) ∧ Below w.heap.size w w' := by
  have K1 := keep (New_q (w := w) 2 4 (Below.refl w.heap.size w))
  rw [a_clamp.1, a_clamp.2] at K1
  have K2 := keep (fun b W (h : FQ w b A0 [] W) => Listen_q h 0)
  rw [a_lis.1] at K2
  have K3 := keep (fun b W (h : FQ w b A1 [] W) => Listen_q h 1)
  rw [a_lis.2] at K3
  have K4 := keep (fun b W A (h : FQ w b A2 [] W) (hd : BS W A 1 1 [1]) => Hear_q h 0 false 0 700 0 9 hd (by rw [a_hear.2.2.1]; decide))
  rw [show (⟨false, 0, 700, 0, 9, [1]⟩ : Pk) = aP from rfl, a_hear.1, a_hear.2.1] at K4
  have K5 := keep (fun b W A (h : FQ w b A3 [] W) (hd : BS W A 1 1 [2]) => Hear_q h 0 false 0 703 0 9 hd (by rw [a_hear.2.2.2.2.2]; decide))
  rw [show (⟨false, 0, 703, 0, 9, [2]⟩ : Pk) = aQ from rfl, a_hear.2.2.2.1, a_hear.2.2.2.2.1] at K5
  have K6 := keep (fun b W (h : FQ w b A4 [] W) => Pull_q h 1)
  rw [a_pull.1, a_pull.2.1] at K6
  have K7 := keep (fun b W k (h : FQ w b A5 [k] W) => Pull_q h 1)
  rw [a_pull.2.2.1, a_pull.2.2.2] at K7
  unfold ptr at *
  dsimp only at K6 K7
  go_enter Try.func8, Try.ntmps8
  go_wp2_with fail
  refine K1.out.mono ?_
  rintro e w1 ⟨b, rfl, h1⟩
  go_wp2_with fail
  refine (K2.out b w1 h1.out).mono ?_
  rintro e w2 ⟨rfl, h2, _⟩
  go_wp2_with fail
  refine (K3.out b w2 h2.out).mono ?_
  rintro e w3 ⟨rfl, h3, _⟩
  go_wp2_with fail
  have hbs := BS.laid w3 5 [1] (by simp)
  have h3' := keep (h3.out.step (below_lay w3 (.cells #[.int .u8 1] 5)))
  refine (K4.out b _ _ h3'.out hbs).mono ?_
  rintro e w4 ⟨rfl, h4, _⟩
  clear hbs
  go_wp2_with fail
  have hbs := BS.laid w4 5 [2] (by simp)
  have h4' := keep (h4.out.step (below_lay w4 (.cells #[.int .u8 2] 5)))
  refine (K5.out b _ _ h4'.out hbs).mono ?_
  rintro e w5 ⟨rfl, h5, _⟩
  clear hbs
  go_wp2_with fail
  refine (K6.out b w5 h5.out).mono ?_
  rintro e w6 ⟨A, n, c, rfl, hd6, h6, _, _⟩
  have h7 := keep (h6.out.lay (.cells #[.bool false, .int .u8 0, .int .u16 0, .int .u32 0, .int .u32 1, .slice A n c] 26))
  go_wp2_with fail
  refine (K7.out b _ _ h7.out).mono ?_
  rintro e w8 ⟨A8, n8, c8, rfl, hd8, h8, hk8, _⟩
  have hr8 : w8.heap[w6.heap.size]? = some (.cells #[.bool false, .int .u8 0, .int .u16 0, .int .u32 0, .int .u32 1, .slice A n c] 26) := (hk8.out _ (List.mem_singleton_self _)).trans (heap_alloc_new w6 _)
  have c2 := upd_cell hr8 2 _ rfl
  have hlt8 : w6.heap.size < w8.heap.size := (Array.getElem?_eq_some_iff.1 hr8).1
  have HB8 := keep h8.out.bl
  obtain rfl : n8 = 1 := hd8.out.len
  have KS := keep (fun W B d (hb : Below w8.heap.size w8 W) (hB : BS W B 1 d [2]) => same_ret A8 B 1 1 c8 d [2] [2] W (hd8.out.step hb) hB)
  have KI := keep (fun W B d bs (hB : BS W B 1 d bs) => Is_any B 1 d bs W hB)
  clear hr8
  go_wp2_with fail
  have hb9 := below_lay w8 (.cells #[.bool false, .int .u8 0, .int .u16 3, .int .u32 0, .int .u32 1, .slice A8 1 c8] 26)
  have hb10 := hb9.trans ((below_lay (w8.alloc (.cells #[.bool false, .int .u8 0, .int .u16 3, .int .u32 0, .int .u32 1, .slice A8 1 c8] 26)) (.cells #[.int .u8 2] 5)).mono hb9.size)
  have hbs := BS.laid (w8.alloc (.cells #[.bool false, .int .u8 0, .int .u16 3, .int .u32 0, .int .u32 1, .slice A8 1 c8] 26)) 5 [2] (by simp)
  rw [show (w8.alloc (.cells #[.bool false, .int .u8 0, .int .u16 3, .int .u32 0, .int .u32 1, .slice A8 1 c8] 26)).heap.size = w8.heap.size + 1 by simp] at hbs
  refine (KS.out _ _ 1 hb10 hbs).mono ?_
  rintro e w9 ⟨rfl, rfl⟩
  have HB10 := keep hb10
  clear hbs hb9 hb10 KS
  obtain ⟨W9, hW9⟩ : ∃ W9, (w8.alloc (.cells #[.bool false, .int .u8 0, .int .u16 3, .int .u32 0, .int .u32 1, .slice A8 1 c8] 26)).alloc (.cells #[.int .u8 2] 5) = W9 := ⟨_, rfl⟩
  rw [hW9] at HB10
  rw [hW9]
  clear hW9
  go_wp2_with fail
  have hbs : BS (W9.alloc (.cells #[.int .u8 128] 5)) (some ⟨W9.heap.size, 0, none⟩) 1 1 [128] := BS.laid W9 5 [128] (by simp)
  have HBa := keep (HB10.out.trans ((below_lay W9 (.cells #[.int .u8 128] 5)).mono HB10.out.size))
  refine (KI.out _ _ 1 _ hbs).mono ?_
  rintro e w10 ⟨rfl, rfl⟩
  clear hbs
  obtain ⟨Wa, hWa⟩ : ∃ Wa, W9.alloc (.cells #[.int .u8 128] 5) = Wa := ⟨_, rfl⟩
  rw [hWa] at HBa
  rw [hWa, show isB [128] = true by kernel_rfl]
  clear hWa
  go_wp2_with fail
  have hbs : BS (Wa.alloc (.cells #[.int .u8 0] 5)) (some ⟨Wa.heap.size, 0, none⟩) 1 1 [0] := BS.laid Wa 5 [0] (by simp)
  have HBb := keep (HBa.out.trans ((below_lay Wa (.cells #[.int .u8 0] 5)).mono HBa.out.size))
  refine (KI.out _ _ 1 _ hbs).mono ?_
  rintro e w11 ⟨rfl, rfl⟩
  clear hbs
  rw [show isB [0] = false by kernel_rfl]
  go_wp2
  go_ret
  exact ⟨rfl, HB8.out.trans (HBb.out.mono HB8.out.size)⟩
end Go.Proofs.Ytacmfoljbjdcjaa
