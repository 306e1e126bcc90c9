/- KBK of the stage: texts Xf9, joined. -/
import Derived.Test.YtnlkdlnmffibhaaGreatKBJ
import Derived.Test.YtnlkdlnmffibhaaGreatKBH
set_option linter.unusedSimpArgs false
set_option linter.unusedVariables false
set_option maxRecDepth 8000
namespace Go.Proofs.YtnlkdlnmffibhaaGreat
open List renaming setIfInBounds_toArray → lA, set_cons_zero → lZ, set_cons_succ → lS
open Go renaming wpAnyH_take → wT
open Go.Act renaming put → aP
section
open Go.RowKit Go.Maps
theorem xack_all {w : World} {g : Xg} {x : Xm} (h : XA w g x) {cum now : Int} (hcum : 0 ≤ cum ∧ cum < 4294967296) (b1 : Option Addr) (b3 : Nat) (hre : reachedB x.q cum = true) {by_ : Nat} {sa : Int} (hr : ackR x.q cum [] now = ⟨by_, sa, false, true⟩) {q' : Qm} (hq : ackQ x.q cum [] = q') :
    Calls Tryz.prog 56 #[.pointer (some ⟨g.Q.b, 0, none⟩), .int .u32 cum, .slice b1 0 b3, .int .i64 now] w fun e w' => e = .returned (.tuple #[.agg #[.int .i64 (by_ : Int), .int .i64 sa, .bool false, .bool true], .bool true]) ∧ ∃ Q', Q'.b = g.Q.b ∧ Hid (XA w' { g with Q := Q' } { x with q := q' } ∧ Xl w g w' { g with Q := Q' }) := by
  subst hq
  refine (Ack_any h.qa h.nu cum now hcum (b1, 0, b3) [] ⟨rfl, Nat.zero_le _, SR.nil _ _⟩ (.inr rfl) (Nat.zero_le _) (fun b hb => by cases hb) hre).mono ?_
  rintro e w' ⟨rfl, h1⟩
  rw [hr]
  exact ⟨rfl, _, h1.lt.b, keep (h.upQ h1.qa (ack_nums h.nu cum []) h1.lt)⟩
theorem XA.c1 {w : World} {g : Xg} {x : Xm} (h : XA w g x) : w.cell? ⟨g.b, 1, none⟩ = some (.int .i64 x.ws.cw) := h.at_ 1 _ rfl
theorem XA.c17 {w : World} {g : Xg} {x : Xm} (h : XA w g x) : w.cell? ⟨g.b, 17, none⟩ = some (.int .i64 x.fa) := h.at_ 17 _ rfl
theorem XA.rto {w : World} {g : Xg} {x : Xm} (h : XA w g x) : w.cell? ⟨g.b, 7, none⟩ = some (.int .i64 x.rs.sm) ∧ w.cell? ⟨g.b, 8, none⟩ = some (.int .i64 x.rs.va) ∧ w.cell? ⟨g.b, 9, none⟩ = some (.int .i64 x.rs.wa) ∧ w.cell? ⟨g.b, 10, none⟩ = some (.bool x.rs.kn) := ⟨h.at_ 7 _ rfl, h.at_ 8 _ rfl, h.at_ 9 _ rfl, h.at_ 10 _ rfl⟩
theorem XA.set4 {w : World} {g : Xg} {x : Xm} (h : XA w g x) (a b c : Int) (d : Bool) : XA (w.setCells g.b 7 [.int .i64 a, .int .i64 b, .int .i64 c, .bool d]) g { x with rs := ⟨a, b, c, d⟩ } ∧ Xl w g (w.setCells g.b 7 [.int .i64 a, .int .i64 b, .int .i64 c, .bool d]) g := by
  obtain ⟨h1, l1⟩ := h.put 7 (.int .i64 a) { x with rs := ⟨a, x.rs.va, x.rs.wa, x.rs.kn⟩ } rfl rfl rfl rfl rfl
  obtain ⟨h2, l2⟩ := h1.put 8 (.int .i64 b) { x with rs := ⟨a, b, x.rs.wa, x.rs.kn⟩ } rfl rfl rfl rfl rfl
  obtain ⟨h3, l3⟩ := h2.put 9 (.int .i64 c) { x with rs := ⟨a, b, c, x.rs.kn⟩ } rfl rfl rfl rfl rfl
  obtain ⟨h4, l4⟩ := h3.put 10 (.bool d) { x with rs := ⟨a, b, c, d⟩ } rfl rfl rfl rfl rfl
  exact ⟨h4, l1.trans (l2.trans (l3.trans l4))⟩
theorem XA.set6 {w : World} {g : Xg} {x : Xm} (h : XA w g x) (a b c d f : Int) (e : Bool) : XA (w.setCells g.b 1 [.int .i64 a, .int .i64 b, .int .i64 c, .int .i64 d, .bool e, .int .u32 f]) g { x with ws := ⟨a, b, c, d, e, f⟩ } ∧ Xl w g (w.setCells g.b 1 [.int .i64 a, .int .i64 b, .int .i64 c, .int .i64 d, .bool e, .int .u32 f]) g := by
  obtain ⟨h1, l1⟩ := h.put 1 (.int .i64 a) { x with ws := ⟨a, x.ws.th, x.ws.pa, x.ws.mt, x.ws.re, x.ws.ex⟩ } rfl rfl rfl rfl rfl
  obtain ⟨h2, l2⟩ := h1.put 2 (.int .i64 b) { x with ws := ⟨a, b, x.ws.pa, x.ws.mt, x.ws.re, x.ws.ex⟩ } rfl rfl rfl rfl rfl
  obtain ⟨h3, l3⟩ := h2.put 3 (.int .i64 c) { x with ws := ⟨a, b, c, x.ws.mt, x.ws.re, x.ws.ex⟩ } rfl rfl rfl rfl rfl
  obtain ⟨h4, l4⟩ := h3.put 4 (.int .i64 d) { x with ws := ⟨a, b, c, d, x.ws.re, x.ws.ex⟩ } rfl rfl rfl rfl rfl
  obtain ⟨h5, l5⟩ := h4.put 5 (.bool e) { x with ws := ⟨a, b, c, d, e, x.ws.ex⟩ } rfl rfl rfl rfl rfl
  obtain ⟨h6, l6⟩ := h5.put 6 (.int .u32 f) { x with ws := ⟨a, b, c, d, e, f⟩ } rfl rfl rfl rfl rfl
  exact ⟨h6, l1.trans (l2.trans (l3.trans (l4.trans (l5.trans l6))))⟩
theorem xmoved_any {w : World} {g : Xg} {x : Xm} (h : XA w g x) (he : x.q.es = []) (now : Int) : Calls Tryz.prog 60 #[.pointer (some ⟨g.b, 0, none⟩), .bool true, .int .i64 now] w fun e w' => e = .returned (.tuple #[]) ∧ Hid (XA w' g { x with fa := 0, tm := 0, ru := false } ∧ Xl w g w' g) := by
  have c17 := h.c17
  have f17 := h.fz 17
  obtain ⟨a1, l1⟩ := h.put 17 (.int .i64 0) { x with fa := 0 } rfl rfl rfl rfl rfl
  have c0 := a1.c0
  have c11 := a1.c11
  have c12 := a1.c12
  have f11 := a1.fz 11
  have f12 := a1.fz 12
  have KL := keep (Len_any a1.qa)
  dsimp only at KL
  rw [he] at KL
  obtain ⟨a2, l2⟩ := a1.put 11 (.int .i64 0) { x with fa := 0, tm := 0 } rfl rfl rfl rfl rfl
  obtain ⟨a3, l3⟩ := a2.put 12 (.bool false) { x with fa := 0, tm := 0, ru := false } rfl rfl rfl rfl rfl
  have HA := keep (And.intro a3 (l1.trans (l2.trans l3)))
  clear a1 a2 a3 l1 l2 l3 h he
  go_enter Tryz.func60, Tryz.ntmps60
  go_wp2_with (first | (go_at_call 30; refine KL.out.mono ?_; rintro e w' ⟨rfl, rfl⟩))
  exact bodyPost_end (results_none rfl _ _ _) rfl ⟨rfl, HA⟩
def RsX (W : World) (r : Nat) (b : Nat) (sa : Int) : Prop := W.heap[r]? = some (.cells #[.int .i64 (b : Int), .int .i64 sa, .bool false, .bool true] 113 (0, 0))
theorem RsX.all {W : World} {r b : Nat} {sa : Int} (h : RsX W r b sa) : W.cell? ⟨r, 0, none⟩ = some (.int .i64 (b : Int)) ∧ W.cell? ⟨r, 1, none⟩ = some (.int .i64 sa) ∧ W.cell? ⟨r, 2, none⟩ = some (.bool false) ∧ W.cell? ⟨r, 3, none⟩ = some (.bool true) := ⟨upd_cell h 0 _ rfl, upd_cell h 1 _ rfl, upd_cell h 2 _ rfl, upd_cell h 3 _ rfl⟩
theorem RsX.step {W W' : World} {r b : Nat} {sa : Int} (h : RsX W r b sa) (hb : Below W.heap.size W W') : RsX W' r b sa := blk_step h hb
theorem RsX.drew {W : World} {r b : Nat} {sa : Int} (h : RsX W r b sa) : RsX W.drew r b sa := h
theorem RsX.xl {w w' : World} {g g' : Xg} {r b : Nat} {sa : Int} (h : RsX w r b sa) (hl : Xl w g w' g') (hn : ¬ g.O r) : RsX w' r b sa := (hl.part.block r (Array.getElem?_eq_some_iff.1 h).1 hn).trans h
structure AwX (w : World) (g : Xg) (B r : Nat) (c : CX) (b : Nat) (sa : Int) (W : World) (g' : Xg) (x' : Xm) : Prop where
  xa : XA W g' x'
  xl : Xl w g W g'
  ck : CK W B c
  rs : RsX W r b sa
  nB : ¬ g'.O B
  nr : ¬ g'.O r
section
variable {w W W' : World} {g g' : Xg} {x' x2 : Xm} {B r b : Nat} {c : CX} {sa : Int}
theorem AwX.step (h : AwX w g B r c b sa W g' x') (hb : Below W.heap.size W W') : AwX w g B r c b sa W' g' x' := ⟨h.xa.step hb, h.xl.trans (Xl.below hb), h.ck.step hb, h.rs.step hb, h.nB, h.nr⟩
theorem AwX.drew (h : AwX w g B r c b sa W g' x') : AwX w g B r c b sa W.drew g' x' := h.step (Below.refl _ _).drew
theorem AwX.up (h : AwX w g B r c b sa W g' x') (h2 : XA W' g' x2 ∧ Xl W g' W' g') : AwX w g B r c b sa W' g' x2 := ⟨h2.1, h.xl.trans h2.2, h.ck.xl h2.2 h.nB, h.rs.xl h2.2 h.nr, h.nB, h.nr⟩
theorem AwX.ne (h : AwX w g B r c b sa W g' x') : ¬ r = g'.b ∧ ¬ B = g'.b := ⟨fun e => h.nr ⟨0, e⟩, fun e => h.nB ⟨0, e⟩⟩
end
theorem aw_of {w W W' : World} {g g' : Xg} {x' : Xm} {B r b : Nat} {c : CX} {sa : Int} (h : XA W g' x') (hc : CK W B c) (hl : Xl w g W g') (hB : ¬ g'.O B) (hr : ¬ g'.O r) (hp : Part (fun i => i = r) W W') (hw : RsX W' r b sa) (hwr : w.heap.size ≤ r) (hne : B ≠ r) : AwX w g B r c b sa W' g' x' :=
  ⟨h.kept hp fun i hi e => hr (e ▸ hi), ⟨hl.b, hl.part.trans hp fun i hi => .inr (by rw [hi]; exact hwr), hl.o⟩, (hp.block B hc.lt hne).trans hc, hw, hB, hr⟩
set_option maxHeartbeats 16000000 in
theorem xanswered_all {w : World} {g : Xg} {x : Xm} (h : XA w g x) {c : CX} (hc : CV w c) (hb0 : c.bl.2.1 = 0) {now : Int} (hre : reachedB x.q c.a = true) {by_ : Nat} {sa : Int} (hsa : 0 ≤ sa) (hr : ackR x.q c.a [] now = ⟨by_, sa, false, true⟩) (hes : (ackQ x.q c.a []).es = []) {f : Nat} (hf : octs x.q.es [1] = f) :
    Calls Tryz.prog 27 #[.pointer (some ⟨g.b, 0, none⟩), .agg c.cells.toArray, .int .i64 now] w fun e w' => e = .returned (.int .i64 0) ∧ ∃ g' x', Hid (XA w' g' x' ∧ Xl w g w' g' ∧ x'.q.es = [] ∧ x'.ow = x.ow) := by
  obtain ⟨q', hq'⟩ : ∃ q', ackQ x.q c.a [] = q' := ⟨_, rfl⟩
  rw [hq'] at hes
  have HES := keep hes
  have hbl := below_lay w (.cells c.cells.toArray 41)
  have H0 := keep (h.step hbl)
  have HB0 := keep hbl
  have HCK := keep (show CK (w.alloc (.cells c.cells.toArray 41)) w.heap.size c from heap_alloc_new w _)
  have HNO := keep (show ¬ g.O w.heap.size from fun ho => absurd (h.olt ho) (Nat.lt_irrefl _))
  have KF := keep (fun W (H : XA W g x) => xflying_any H hf)
  have KA := keep (fun W (b1 : Option Addr) (b3 : Nat) (H : XA W g x) => xack_all H hc.a b1 b3 hre hr hq')
  have KSa := keep (fun (s : RS) W => (Sample_any s sa W).mono (fun e w' hh => show ∃ a b d k, e = .returned (.agg #[.int .i64 a, .int .i64 b, .int .i64 d, .bool k]) ∧ Hid (Below W.heap.size W w') from by
    obtain ⟨rfl, h2⟩ := hh
    exact ⟨_, _, _, _, rfl, keep h2⟩))
  have KWi := keep (fun (s : WS) (full : Bool) W => (Acked_any s (by_ : Int) full c.a W).mono (fun e w' hh => show ∃ a b d m k i, e = .returned (.agg #[.int .i64 a, .int .i64 b, .int .i64 d, .int .i64 m, .bool k, .int .u32 i]) ∧ Hid (Below W.heap.size W w') from by
    obtain ⟨rfl, h2⟩ := hh
    exact ⟨_, _, _, _, _, _, rfl, keep h2⟩))
  have KM := keep (fun W G X (H : XA W G X) (he : X.q.es = []) => xmoved_any (g := G) (x := X) H he now)
  have HCB := keep (And.intro hc.b hc.a)
  clear h hc hre hr hf hq' hes hbl
  obtain ⟨ck, cf, ca, cb, co, cs, cp, ⟨x1, x2, x3⟩, ⟨x4, x5, x6⟩, ⟨x7, x8, x9⟩, ⟨x10, x11, x12⟩, ⟨x13, x14, x15⟩, cps, cbs⟩ := c
  obtain rfl : x2 = 0 := hb0
  dsimp only [CX.cells, RS.cells, WS.cells] at KA KF KSa KWi H0 HB0 HCK HCB ⊢
  have hcb1 : IntKind.i64.wrap cb = cb := wrap_small HCB.out.1.1 (by have := HCB.out.1.2; omega)
  go_enter Tryz.func27, Tryz.ntmps27
  go_wp2_with fail
  have H1 := keep H0.out.drew
  have HC1 := keep HCK.out.drew
  have HB1 := keep HB0.out.drew
  refine wp_region_held_drew (S := (fun w' => w'.cell? ⟨g.b, 0, none⟩ = some (.pointer (some ⟨g.Q.b, 0, none⟩)) ∧ w'.cell? ⟨g.b, 1, none⟩ = some (.int .i64 x.ws.cw))) (by kernel_rfl) ⟨H1.out.c0, H1.out.c1⟩ (fun hHeld => ?_)
  refine wT (i := 0) (oi := ⟨some 10, _, _, _, _, _⟩) (v := ?vf1x0) rfl (by kernel_rfl) (by kernel_rfl) (by kernel_rfl) (fun _ _ _ h => h) (Or.inl ⟨by rfl, ?hyf1x0⟩) (by assumption) ?restf1x0
  case hyf1x0 => (intro wz hSw; (try dsimp only at hSw); go_simp <;> try with_reducible rfl)
  try simp only [aP, lA, lZ, lS]
  refine wT (i := 1) (oi := ⟨some 11, _, _, _, _, _⟩) (v := ?vf2x1) rfl (by kernel_rfl) (by kernel_rfl) (by kernel_rfl) (fun _ _ _ h => h) (Or.inl ⟨by rfl, ?hyf2x1⟩) (by assumption) ?restf2x1
  case hyf2x1 => (intro wz hSw; (try dsimp only at hSw); go_simp <;> try with_reducible rfl)
  try simp only [aP, lA, lZ, lS]
  refine wT (i := 2) (oi := ⟨some 12, _, _, _, _, _⟩) (v := ?vf3x2) rfl (by kernel_rfl) (by kernel_rfl) (by kernel_rfl) (fun _ _ _ h => h) (Or.inl ⟨by rfl, ?hyf3x2⟩) (by assumption) ?restf3x2
  case hyf3x2 => (intro wz hSw; (try dsimp only at hSw); go_simp <;> try with_reducible rfl)
  try simp only [aP, lA, lZ, lS]
  refine wT (i := 3) (oi := ⟨some 13, _, _, _, _, _⟩) (v := ?vf4x3) rfl (by kernel_rfl) (by kernel_rfl) (by kernel_rfl) (fun _ _ _ h => h) (Or.inl ⟨by rfl, ?hyf4x3⟩) (by assumption) ?restf4x3
  case hyf4x3 => (intro wz hSw; (try dsimp only at hSw); go_simp <;> try with_reducible rfl)
  try simp only [aP, lA, lZ, lS]
  refine wT (i := 5) (oi := ⟨some 15, _, _, _, _, _⟩) (v := ?vf5x5) rfl (by kernel_rfl) (by kernel_rfl) (by kernel_rfl) (fun _ _ _ h => h) (Or.inl ⟨by rfl, ?hyf5x5⟩) (by assumption) ?restf5x5
  case hyf5x5 => (intro wz hSw; (try dsimp only at hSw); go_simp <;> try with_reducible rfl)
  try simp only [aP, lA, lZ, lS]
  refine wT (i := 6) (oi := ⟨some 16, _, _, _, _, _⟩) (v := ?vf6x6) rfl (by kernel_rfl) (by kernel_rfl) (by kernel_rfl) (fun _ _ _ h => h) (Or.inl ⟨by rfl, ?hyf6x6⟩) (by assumption) ?restf6x6
  case hyf6x6 => (intro wz hSw; (try dsimp only at hSw); go_simp <;> try with_reducible rfl)
  try simp only [aP, lA, lZ, lS]
  refine wT (i := 7) (oi := ⟨some 17, _, _, _, _, _⟩) (v := ?vf7x7) rfl (by kernel_rfl) (by kernel_rfl) (by kernel_rfl) (fun _ _ _ h => h) (Or.inl ⟨by rfl, ?hyf7x7⟩) (by assumption) ?restf7x7
  case hyf7x7 => (intro wz hSw; (try dsimp only at hSw); go_simp <;> try with_reducible rfl)
  try simp only [aP, lA, lZ, lS]
  refine wT (i := 8) (oi := ⟨some 18, _, _, _, _, _⟩) (v := ?vf8x8) rfl (by kernel_rfl) (by kernel_rfl) (by kernel_rfl) (fun _ _ _ h => h) (Or.inl ⟨by rfl, ?hyf8x8⟩) (by assumption) ?restf8x8
  case hyf8x8 => (intro wz hSw; (try dsimp only at hSw); go_simp <;> try with_reducible rfl)
  try simp only [aP, lA, lZ, lS]
  refine wT (i := 9) (oi := ⟨some 19, _, _, _, _, _⟩) (v := ?vf9x9) rfl (by kernel_rfl) (by kernel_rfl) (by kernel_rfl) (fun _ _ _ h => h) (Or.inl ⟨by rfl, ?hyf9x9⟩) (by assumption) ?restf9x9
  case hyf9x9 => (intro wz hSw; (try dsimp only at hSw); go_simp <;> try with_reducible rfl)
  try simp only [aP, lA, lZ, lS]
  refine wpAnyH_ready (rs := [4]) (by kernel_rfl) (by simp) (AllReadyH.cons (o := ⟨some 14, _, _, _, _, _⟩) rfl (fun K hK => ?_) AllReadyH.nil)
  go_simp
  go_at_call 46
  refine (KF.out _ H1.out).mono ?_
  rintro e w2 ⟨rfl, hb2⟩
  have H2 := keep (H1.out.step hb2.out)
  have HC2 := keep (HC1.out.step hb2.out)
  have HB2 := keep (HB1.out.trans (hb2.out.mono HB1.out.size))
  clear hb2
  (try go_wp2_with fail)
  refine hK.out _ _ ⟨H2.out.c0, H2.out.c1⟩ (fun hHeld => ?_)
  clear hK K
  try simp only [aP, lA, lZ, lS]
  refine wT (i := 10) (oi := ⟨some 20, _, _, _, _, _⟩) (v := ?vf10x10) rfl (by kernel_rfl) (by kernel_rfl) (by kernel_rfl) (fun _ _ _ h => h) (Or.inl ⟨by rfl, ?hyf10x10⟩) (by assumption) ?restf10x10
  case hyf10x10 => (intro wz hSw; (try dsimp only at hSw); go_simp <;> try with_reducible rfl)
  try simp only [aP, lA, lZ, lS]
  refine wT (i := 11) (oi := ⟨some 7, _, _, _, _, _⟩) (v := ?vf11x11) rfl (by kernel_rfl) (by kernel_rfl) (by kernel_rfl) (fun _ _ _ h => h) (Or.inl ⟨by rfl, ?hyf11x11⟩) (by assumption) ?restf11x11
  case hyf11x11 => (intro wz hSw; (try dsimp only at hSw); go_simp <;> try with_reducible rfl)
  try simp only [aP, lA, lZ, lS]
  refine wpAnyH_done (by kernel_rfl) ?_ _
  go_wp2
  obtain ⟨full, hfull⟩ : ∃ full : Bool, decide (x.ws.cw ≤ (f : Int)) = full := ⟨_, rfl⟩
  try rw [hfull]
  clear hfull
  have H3 := keep H2.out.drew
  have HC3 := keep HC2.out.drew
  have HB3 := keep HB2.out.drew
  refine wp_region_held_drew (S := (fun w' => w'.cell? ⟨g.b, 0, none⟩ = some (.pointer (some ⟨g.Q.b, 0, none⟩)) ∧ w'.cell? ⟨w.heap.size, 2, none⟩ = some (.int .u32 ca) ∧ w'.cell? ⟨w.heap.size, 7, none⟩ = some (.slice x1 0 x3))) (by kernel_rfl) ⟨H3.out.c0, HC3.out.all.1.2.2.1, HC3.out.all.1.2.2.2.2.2.2.2.1⟩ (fun hHeld => ?_)
  refine wT (i := 0) (oi := ⟨some 22, _, _, _, _, _⟩) (v := ?vk1x0) rfl (by kernel_rfl) (by kernel_rfl) (by kernel_rfl) (fun _ _ _ h => h) (Or.inl ⟨by rfl, ?hyk1x0⟩) (by assumption) ?restk1x0
  case hyk1x0 => (intro wz hSw; (try dsimp only at hSw); go_simp <;> try with_reducible rfl)
  try simp only [aP, lA, lZ, lS]
  refine wT (i := 1) (oi := ⟨some 23, _, _, _, _, _⟩) (v := ?vk2x1) rfl (by kernel_rfl) (by kernel_rfl) (by kernel_rfl) (fun _ _ _ h => h) (Or.inl ⟨by rfl, ?hyk2x1⟩) (by assumption) ?restk2x1
  case hyk2x1 => (intro wz hSw; (try dsimp only at hSw); go_simp <;> try with_reducible rfl)
  try simp only [aP, lA, lZ, lS]
  refine wT (i := 2) (oi := ⟨some 24, _, _, _, _, _⟩) (v := ?vk3x2) rfl (by kernel_rfl) (by kernel_rfl) (by kernel_rfl) (fun _ _ _ h => h) (Or.inl ⟨by rfl, ?hyk3x2⟩) (by assumption) ?restk3x2
  case hyk3x2 => (intro wz hSw; (try dsimp only at hSw); go_simp <;> try with_reducible rfl)
  try simp only [aP, lA, lZ, lS]
  refine wT (i := 3) (oi := ⟨some 25, _, _, _, _, _⟩) (v := ?vk4x3) rfl (by kernel_rfl) (by kernel_rfl) (by kernel_rfl) (fun _ _ _ h => h) (Or.inl ⟨by rfl, ?hyk4x3⟩) (by assumption) ?restk4x3
  case hyk4x3 => (intro wz hSw; (try dsimp only at hSw); go_simp <;> try with_reducible rfl)
  try simp only [aP, lA, lZ, lS]
  refine wT (i := 4) (oi := ⟨some 26, _, _, _, _, _⟩) (v := ?vk5x4) rfl (by kernel_rfl) (by kernel_rfl) (by kernel_rfl) (fun _ _ _ h => h) (Or.inl ⟨by rfl, ?hyk5x4⟩) (by assumption) ?restk5x4
  case hyk5x4 => (intro wz hSw; (try dsimp only at hSw); go_simp <;> try with_reducible rfl)
  try simp only [aP, lA, lZ, lS]
  refine wT (i := 5) (oi := ⟨some 27, _, _, _, _, _⟩) (v := ?vk6x5) rfl (by kernel_rfl) (by kernel_rfl) (by kernel_rfl) (fun _ _ _ h => h) (Or.inl ⟨by rfl, ?hyk6x5⟩) (by assumption) ?restk6x5
  case hyk6x5 => (intro wz hSw; (try dsimp only at hSw); go_simp <;> try with_reducible rfl)
  try simp only [aP, lA, lZ, lS]
  refine wT (i := 6) (oi := ⟨some 28, _, _, _, _, _⟩) (v := ?vk7x6) rfl (by kernel_rfl) (by kernel_rfl) (by kernel_rfl) (fun _ _ _ h => h) (Or.inl ⟨by rfl, ?hyk7x6⟩) (by assumption) ?restk7x6
  case hyk7x6 => (intro wz hSw; (try dsimp only at hSw); go_simp <;> try with_reducible rfl)
  try simp only [aP, lA, lZ, lS]
  refine wT (i := 7) (oi := ⟨some 29, _, _, _, _, _⟩) (v := ?vk8x7) rfl (by kernel_rfl) (by kernel_rfl) (by kernel_rfl) (fun _ _ _ h => h) (Or.inl ⟨by rfl, ?hyk8x7⟩) (by assumption) ?restk8x7
  case hyk8x7 => (intro wz hSw; (try dsimp only at hSw); go_simp <;> try with_reducible rfl)
  try simp only [aP, lA, lZ, lS]
  refine wT (i := 8) (oi := ⟨some 30, _, _, _, _, _⟩) (v := ?vk9x8) rfl (by kernel_rfl) (by kernel_rfl) (by kernel_rfl) (fun _ _ _ h => h) (Or.inl ⟨by rfl, ?hyk9x8⟩) (by assumption) ?restk9x8
  case hyk9x8 => (intro wz hSw; (try dsimp only at hSw); go_simp <;> try with_reducible rfl)
  try simp only [aP, lA, lZ, lS]
  refine wpAnyH_ready (rs := [9, 13]) (by kernel_rfl) (by simp) (AllReadyH.cons (o := ⟨some 31, _, _, _, _, _⟩) rfl (fun K hK => ?wayA) (AllReadyH.cons (o := ⟨some 8, _, _, _, _, _⟩) rfl (fun K hK => ?wayB) AllReadyH.nil))
  case wayA =>
    go_simp
    go_at_call 56
    refine (KA.out _ x1 x3 H3.out).mono ?_
    rintro e w4 ⟨rfl, Q', hQ, H4⟩
    have HC4 := keep (HC3.out.xl H4.out.2 HNO.out)
    have HNO4 := keep (H4.out.2.out HC3.out.lt HNO.out)
    have c04 := H4.out.1.c0
    dsimp only at c04
    rw [hQ] at c04
    have HQ := keep hQ
    clear hQ
    (try go_wp2_with fail)
    refine hK.out _ _ ⟨c04, HC4.out.all.1.2.2.1, HC4.out.all.1.2.2.2.2.2.2.2.1⟩ (fun hHeld => ?_)
    clear hK K
    try simp only [aP, lA, lZ, lS]
    refine wT (i := 10) (oi := ⟨some 21, _, _, _, _, _⟩) (v := ?vk10x10) rfl (by kernel_rfl) (by kernel_rfl) (by kernel_rfl) (fun _ _ _ h => h) (Or.inl ⟨by rfl, ?hyk10x10⟩) (by assumption) ?restk10x10
    case hyk10x10 => (intro wz hSw; (try dsimp only at hSw); go_simp <;> try with_reducible rfl)
    try simp only [aP, lA, lZ, lS]
    refine wT (i := 11) (oi := ⟨some 32, _, _, _, _, _⟩) (v := ?vk11x11) rfl (by kernel_rfl) (by kernel_rfl) (by kernel_rfl) (fun _ _ _ h => h) (Or.inl ⟨by rfl, ?hyk11x11⟩) (by assumption) ?restk11x11
    case hyk11x11 => (intro wz hSw; (try dsimp only at hSw); go_simp <;> try with_reducible rfl)
    try simp only [aP, lA, lZ, lS]
    refine wT (i := 12) (oi := ⟨some 33, _, _, _, _, _⟩) (v := ?vk12x12) rfl (by kernel_rfl) (by kernel_rfl) (by kernel_rfl) (fun _ _ _ h => h) (Or.inl ⟨by rfl, ?hyk12x12⟩) (by assumption) ?restk12x12
    case hyk12x12 => (intro wz hSw; (try dsimp only at hSw); go_simp <;> try with_reducible rfl)
    try simp only [aP, lA, lZ, lS]
    have HZ := keep (heap_alloc_new w4 (.cells #[.int .i64 0, .int .i64 0, .bool false, .bool false] 113))
    have HA4 := keep (H4.out.1.step (below_lay w4 (.cells #[.int .i64 0, .int .i64 0, .bool false, .bool false] 113)))
    have HCA := keep (HC4.out.step (below_lay w4 (.cells #[.int .i64 0, .int .i64 0, .bool false, .bool false] 113)))
    have c05 := HA4.out.c0
    dsimp only at c05
    rw [HQ.out] at c05
    have HNR := keep (show ¬ Xg.O { g with Q := Q' } w4.heap.size from fun ho => absurd (H4.out.1.olt ho) (Nat.lt_irrefl _))
    refine wpAnyH_ready (rs := [13]) (by kernel_rfl) (by simp) (AllReadyH.cons (o := ⟨some 8, _, _, _, _, _⟩) rfl (fun K hK => ?_) AllReadyH.nil)
    go_simp
    refine hK.out _ _ ⟨c05, HCA.out.all.1.2.2.1, HCA.out.all.1.2.2.2.2.2.2.2.1⟩ (fun hHeld => ?_)
    clear hK K
    try simp only [aP, lA, lZ, lS]
    have hp := setCells_part w4.heap.size [.int .i64 (by_ : Int), .int .i64 sa, .bool false, .bool true] 0 (w4.alloc (.cells #[.int .i64 0, .int .i64 0, .bool false, .bool false] 113))
    have hw := setCells_whole [.int .i64 (by_ : Int), .int .i64 sa, .bool false, .bool true] [] _ (w4.alloc (.cells #[.int .i64 0, .int .i64 0, .bool false, .bool false] 113)) HZ.out rfl
    have H5 := keep (show AwX w g w.heap.size w4.heap.size ⟨ck, cf, ca, cb, co, cs, cp, (x1, 0, x3), (x4, x5, x6), (x7, x8, x9), (x10, x11, x12), (x13, x14, x15), cps, cbs⟩ by_ sa ((w4.alloc (.cells #[.int .i64 0, .int .i64 0, .bool false, .bool false] 113)).setCells w4.heap.size 0 [.int .i64 (by_ : Int), .int .i64 sa, .bool false, .bool true]) { g with Q := Q' } { x with q := q' } from aw_of HA4.out HCA.out (((Xl.below HB3.out).trans H4.out.2).trans (Xl.below (below_lay _ _))) HNO4.out HNR.out hp hw (by have := HB3.out.size; have := H4.out.2.part.size; omega) (by have := HC4.out.lt; omega))
    have c06 := H5.out.xa.c0
    dsimp only at c06
    rw [HQ.out] at c06
    clear hp hw
    refine wpAnyH_ready (rs := [14]) (by kernel_rfl) (by simp) (AllReadyH.cons (o := ⟨none, _, _, _, _, _⟩) rfl (fun K hK => ?_) AllReadyH.nil)
    refine step_store rfl 113 (.tmp 8) (.tmp 32) rfl w4.heap.size 0 _ rfl rfl (there_of HZ.out 0 4 (by decide)) (by kernel_rfl) (by simp [Value.oneCell']) ?_
    refine hK.out _ _ ⟨c06, H5.out.ck.all.1.2.2.1, H5.out.ck.all.1.2.2.2.2.2.2.2.1⟩ (fun hHeld => ?_)
    clear hK K
    try simp only [aP, lA, lZ, lS]
    refine wT (i := 15) (oi := ⟨some 9, _, _, _, _, _⟩) (v := ?vk13x15) rfl (by kernel_rfl) (by kernel_rfl) (by kernel_rfl) (fun _ _ _ h => h) (Or.inl ⟨by rfl, ?hyk13x15⟩) (by assumption) ?restk13x15
    case hyk13x15 => (intro wz hSw; (try dsimp only at hSw); go_simp <;> try with_reducible rfl)
    try simp only [aP, lA, lZ, lS]
    refine wpAnyH_done (by kernel_rfl) ?_ _
    have hgen : ∃ W5 R, ((w4.alloc (.cells #[.int .i64 0, .int .i64 0, .bool false, .bool false] 113)).setCells w4.heap.size 0 [.int .i64 (by_ : Int), .int .i64 sa, .bool false, .bool true]) = W5 ∧ w4.heap.size = R := ⟨_, _, rfl, rfl⟩
    obtain ⟨W5, r, hW5, hR⟩ := hgen
    rw [hW5] at H5 ⊢
    rw [hR] at H5 ⊢
    clear hW5 hR
    have hne := H5.out.ne
    have hn1 := hne.1
    have hn2 := hne.2
    have c13 := H5.out.xa.c13
    have f13 := H5.out.xa.fz 13
    obtain ⟨d0, d1, d2, d3, d4, d5, d6, d7, d8, d9, d10, d11⟩ := H5.out.ck.all.1
    obtain ⟨r0, r1, r2, r3⟩ := H5.out.rs.all
    dsimp only at c13 f13 d3 hn1 hn2
    have H6 := keep (H5.out.up (H5.out.xa.put 13 (.int .i64 cb) { { x with q := q' } with pe := cb } rfl rfl rfl rfl rfl))
    clear d0 d1 d2 d4 d5 d6 d7 d8 d9 d10 d11 r0 r2 r3 hne
    go_wp2_with fail
    have H7 := keep H6.out.drew
    obtain ⟨e7, e8, e9, e10⟩ := H7.out.xa.rto
    dsimp only at e7 e8 e9 e10
    refine wp_region_held_drew (S := (fun w' => w'.cell? ⟨r, 1, none⟩ = some (.int .i64 sa))) (by kernel_rfl) H7.out.rs.all.2.1 (fun hHeld => ?_)
    refine wT (i := 0) (oi := ⟨some 45, _, _, _, _, _⟩) (v := ?vsA1x0) rfl (by kernel_rfl) (by kernel_rfl) (by kernel_rfl) (fun _ _ _ h => h) (Or.inl ⟨by rfl, ?hysA1x0⟩) (by assumption) ?restsA1x0
    case hysA1x0 => (intro wz hSw; (try dsimp only at hSw); go_simp <;> try with_reducible rfl)
    try simp only [aP, lA, lZ, lS]
    refine wT (i := 1) (oi := ⟨some 46, _, _, _, _, _⟩) (v := ?vsA2x1) rfl (by kernel_rfl) (by kernel_rfl) (by kernel_rfl) (fun _ _ _ h => h) (Or.inl ⟨by rfl, ?hysA2x1⟩) (by assumption) ?restsA2x1
    case hysA2x1 => (intro wz hSw; (try dsimp only at hSw); go_simp <;> try with_reducible rfl)
    try simp only [aP, lA, lZ, lS]
    refine wT (i := 2) (oi := ⟨some 47, _, _, _, _, _⟩) (v := ?vsA3x2) rfl (by kernel_rfl) (by kernel_rfl) (by kernel_rfl) (fun _ _ _ h => h) (Or.inl ⟨by rfl, ?hysA3x2⟩) (by assumption) ?restsA3x2
    case hysA3x2 => (intro wz hSw; (try dsimp only at hSw); go_simp <;> try with_reducible rfl)
    try simp only [aP, lA, lZ, lS]
    refine wT (i := 3) (oi := ⟨some 48, _, _, _, _, _⟩) (v := ?vsA4x3) rfl (by kernel_rfl) (by kernel_rfl) (by kernel_rfl) (fun _ _ _ h => h) (Or.inl ⟨by rfl, ?hysA4x3⟩) (by assumption) ?restsA4x3
    case hysA4x3 => (intro wz hSw; (try dsimp only at hSw); go_simp <;> try with_reducible rfl)
    try simp only [aP, lA, lZ, lS]
    refine wT (i := 5) (oi := ⟨some 50, _, _, _, _, _⟩) (v := ?vsA5x5) rfl (by kernel_rfl) (by kernel_rfl) (by kernel_rfl) (fun _ _ _ h => h) (Or.inl ⟨by rfl, ?hysA5x5⟩) (by assumption) ?restsA5x5
    case hysA5x5 => (intro wz hSw; (try dsimp only at hSw); go_simp <;> try with_reducible rfl)
    try simp only [aP, lA, lZ, lS]
    refine wT (i := 6) (oi := ⟨some 51, _, _, _, _, _⟩) (v := ?vsA6x6) rfl (by kernel_rfl) (by kernel_rfl) (by kernel_rfl) (fun _ _ _ h => h) (Or.inl ⟨by rfl, ?hysA6x6⟩) (by assumption) ?restsA6x6
    case hysA6x6 => (intro wz hSw; (try dsimp only at hSw); go_simp <;> try with_reducible rfl)
    try simp only [aP, lA, lZ, lS]
    refine wpAnyH_ready (rs := [4]) (by kernel_rfl) (by simp) (AllReadyH.cons (o := ⟨some 49, _, _, _, _, _⟩) rfl (fun K hK => ?_) AllReadyH.nil)
    go_simp
    refine hK.out _ _ H7.out.rs.all.2.1 (fun hHeld => ?_)
    clear hK K
    try simp only [aP, lA, lZ, lS]
    refine wpAnyH_ready (rs := [7]) (by kernel_rfl) (by simp) (AllReadyH.cons (o := ⟨some 52, _, _, _, _, _⟩) rfl (fun K hK => ?_) AllReadyH.nil)
    go_simp
    go_at_call 57
    refine (KSa.out ⟨x.rs.sm, x.rs.va, x.rs.wa, x.rs.kn⟩ _).mono ?_
    rintro e w8 ⟨a8, b8, k8, m8, rfl, hb8⟩
    have H8 := keep (H7.out.step hb8.out)
    (try go_wp2_with fail)
    refine hK.out _ _ H8.out.rs.all.2.1 (fun hHeld => ?_)
    clear hK K
    try simp only [aP, lA, lZ, lS]
    refine wT (i := 8) (oi := ⟨some 53, _, _, _, _, _⟩) (v := ?vsA7x8) rfl (by kernel_rfl) (by kernel_rfl) (by kernel_rfl) (fun _ _ _ h => h) (Or.inl ⟨by rfl, ?hysA7x8⟩) (by assumption) ?restsA7x8
    case hysA7x8 => (intro wz hSw; (try dsimp only at hSw); go_simp <;> try with_reducible rfl)
    try simp only [aP, lA, lZ, lS]
    refine wT (i := 9) (oi := ⟨some 54, _, _, _, _, _⟩) (v := ?vsA8x9) rfl (by kernel_rfl) (by kernel_rfl) (by kernel_rfl) (fun _ _ _ h => h) (Or.inl ⟨by rfl, ?hysA8x9⟩) (by assumption) ?restsA8x9
    case hysA8x9 => (intro wz hSw; (try dsimp only at hSw); go_simp <;> try with_reducible rfl)
    try simp only [aP, lA, lZ, lS]
    have H9 := keep (H8.out.up (H8.out.xa.set4 a8 b8 k8 m8))
    refine wpAnyH_ready (rs := [10]) (by kernel_rfl) (by simp) (AllReadyH.cons (o := ⟨none, _, _, _, _, _⟩) rfl (fun K hK => ?_) AllReadyH.nil)
    refine step_store rfl 59 (.tmp 54) (.tmp 52) rfl g.b 7 _ rfl rfl (there_of H8.out.xa.blk 7 4 (by simp [Xm.cells])) (by kernel_rfl) (by simp [Value.oneCell']) ?_
    refine hK.out _ _ H9.out.rs.all.2.1 (fun hHeld => ?_)
    clear hK K
    try simp only [aP, lA, lZ, lS]
    refine wpAnyH_done (by kernel_rfl) ?_ _
    obtain ⟨W9, hW9⟩ : ∃ W9, World.setCells w8 g.b 7 [.int .i64 a8, .int .i64 b8, .int .i64 k8, .bool m8] = W9 := ⟨_, rfl⟩
    have H10 := keep H9.out.drew
    rw [hW9] at H10
    rw [hW9]
    clear hW9
    go_wp2
    obtain ⟨e1, e2, e3, e4, e5, e6⟩ := H10.out.xa.win
    dsimp only at e1 e2 e3 e4 e5 e6
    refine wp_region_held_drew (S := (fun w' => w'.cell? ⟨r, 0, none⟩ = some (.int .i64 (by_ : Int)) ∧ w'.cell? ⟨w.heap.size, 2, none⟩ = some (.int .u32 ca))) (by kernel_rfl) ⟨H10.out.rs.all.1, H10.out.ck.all.1.2.2.1⟩ (fun hHeld => ?_)
    refine wT (i := 0) (oi := ⟨some 55, _, _, _, _, _⟩) (v := ?vuA1x0) rfl (by kernel_rfl) (by kernel_rfl) (by kernel_rfl) (fun _ _ _ h => h) (Or.inl ⟨by rfl, ?hyuA1x0⟩) (by assumption) ?restuA1x0
    case hyuA1x0 => (intro wz hSw; (try dsimp only at hSw); go_simp <;> try with_reducible rfl)
    try simp only [aP, lA, lZ, lS]
    refine wT (i := 1) (oi := ⟨some 56, _, _, _, _, _⟩) (v := ?vuA2x1) rfl (by kernel_rfl) (by kernel_rfl) (by kernel_rfl) (fun _ _ _ h => h) (Or.inl ⟨by rfl, ?hyuA2x1⟩) (by assumption) ?restuA2x1
    case hyuA2x1 => (intro wz hSw; (try dsimp only at hSw); go_simp <;> try with_reducible rfl)
    try simp only [aP, lA, lZ, lS]
    refine wT (i := 2) (oi := ⟨some 57, _, _, _, _, _⟩) (v := ?vuA3x2) rfl (by kernel_rfl) (by kernel_rfl) (by kernel_rfl) (fun _ _ _ h => h) (Or.inl ⟨by rfl, ?hyuA3x2⟩) (by assumption) ?restuA3x2
    case hyuA3x2 => (intro wz hSw; (try dsimp only at hSw); go_simp <;> try with_reducible rfl)
    try simp only [aP, lA, lZ, lS]
    refine wT (i := 3) (oi := ⟨some 58, _, _, _, _, _⟩) (v := ?vuA4x3) rfl (by kernel_rfl) (by kernel_rfl) (by kernel_rfl) (fun _ _ _ h => h) (Or.inl ⟨by rfl, ?hyuA4x3⟩) (by assumption) ?restuA4x3
    case hyuA4x3 => (intro wz hSw; (try dsimp only at hSw); go_simp <;> try with_reducible rfl)
    try simp only [aP, lA, lZ, lS]
    refine wT (i := 5) (oi := ⟨some 60, _, _, _, _, _⟩) (v := ?vuA5x5) rfl (by kernel_rfl) (by kernel_rfl) (by kernel_rfl) (fun _ _ _ h => h) (Or.inl ⟨by rfl, ?hyuA5x5⟩) (by assumption) ?restuA5x5
    case hyuA5x5 => (intro wz hSw; (try dsimp only at hSw); go_simp <;> try with_reducible rfl)
    try simp only [aP, lA, lZ, lS]
    refine wT (i := 6) (oi := ⟨some 61, _, _, _, _, _⟩) (v := ?vuA6x6) rfl (by kernel_rfl) (by kernel_rfl) (by kernel_rfl) (fun _ _ _ h => h) (Or.inl ⟨by rfl, ?hyuA6x6⟩) (by assumption) ?restuA6x6
    case hyuA6x6 => (intro wz hSw; (try dsimp only at hSw); go_simp <;> try with_reducible rfl)
    try simp only [aP, lA, lZ, lS]
    refine wT (i := 7) (oi := ⟨some 62, _, _, _, _, _⟩) (v := ?vuA7x7) rfl (by kernel_rfl) (by kernel_rfl) (by kernel_rfl) (fun _ _ _ h => h) (Or.inl ⟨by rfl, ?hyuA7x7⟩) (by assumption) ?restuA7x7
    case hyuA7x7 => (intro wz hSw; (try dsimp only at hSw); go_simp <;> try with_reducible rfl)
    try simp only [aP, lA, lZ, lS]
    refine wT (i := 8) (oi := ⟨some 63, _, _, _, _, _⟩) (v := ?vuA8x8) rfl (by kernel_rfl) (by kernel_rfl) (by kernel_rfl) (fun _ _ _ h => h) (Or.inl ⟨by rfl, ?hyuA8x8⟩) (by assumption) ?restuA8x8
    case hyuA8x8 => (intro wz hSw; (try dsimp only at hSw); go_simp <;> try with_reducible rfl)
    try simp only [aP, lA, lZ, lS]
    refine wT (i := 9) (oi := ⟨some 64, _, _, _, _, _⟩) (v := ?vuA9x9) rfl (by kernel_rfl) (by kernel_rfl) (by kernel_rfl) (fun _ _ _ h => h) (Or.inl ⟨by rfl, ?hyuA9x9⟩) (by assumption) ?restuA9x9
    case hyuA9x9 => (intro wz hSw; (try dsimp only at hSw); go_simp <;> try with_reducible rfl)
    try simp only [aP, lA, lZ, lS]
    refine wpAnyH_ready (rs := [4]) (by kernel_rfl) (by simp) (AllReadyH.cons (o := ⟨some 59, _, _, _, _, _⟩) rfl (fun K hK => ?_) AllReadyH.nil)
    go_simp
    refine hK.out _ _ ⟨H10.out.rs.all.1, H10.out.ck.all.1.2.2.1⟩ (fun hHeld => ?_)
    clear hK K
    try simp only [aP, lA, lZ, lS]
    refine wpAnyH_ready (rs := [10]) (by kernel_rfl) (by simp) (AllReadyH.cons (o := ⟨some 65, _, _, _, _, _⟩) rfl (fun K hK => ?_) AllReadyH.nil)
    go_simp
    go_at_call 58
    refine (KWi.out ⟨x.ws.cw, x.ws.th, x.ws.pa, x.ws.mt, x.ws.re, x.ws.ex⟩ full _).mono ?_
    rintro e w11 ⟨a11, b11, k11, m11, n11, i11, rfl, hb11⟩
    have H11 := keep (H10.out.step hb11.out)
    (try go_wp2_with fail)
    refine hK.out _ _ ⟨H11.out.rs.all.1, H11.out.ck.all.1.2.2.1⟩ (fun hHeld => ?_)
    clear hK K
    try simp only [aP, lA, lZ, lS]
    refine wT (i := 11) (oi := ⟨some 66, _, _, _, _, _⟩) (v := ?vuA10x11) rfl (by kernel_rfl) (by kernel_rfl) (by kernel_rfl) (fun _ _ _ h => h) (Or.inl ⟨by rfl, ?hyuA10x11⟩) (by assumption) ?restuA10x11
    case hyuA10x11 => (intro wz hSw; (try dsimp only at hSw); go_simp <;> try with_reducible rfl)
    try simp only [aP, lA, lZ, lS]
    refine wT (i := 12) (oi := ⟨some 67, _, _, _, _, _⟩) (v := ?vuA11x12) rfl (by kernel_rfl) (by kernel_rfl) (by kernel_rfl) (fun _ _ _ h => h) (Or.inl ⟨by rfl, ?hyuA11x12⟩) (by assumption) ?restuA11x12
    case hyuA11x12 => (intro wz hSw; (try dsimp only at hSw); go_simp <;> try with_reducible rfl)
    try simp only [aP, lA, lZ, lS]
    have H12 := keep (H11.out.up (H11.out.xa.set6 a11 b11 k11 m11 i11 n11))
    refine wpAnyH_ready (rs := [13]) (by kernel_rfl) (by simp) (AllReadyH.cons (o := ⟨none, _, _, _, _, _⟩) rfl (fun K hK => ?_) AllReadyH.nil)
    refine step_store rfl 57 (.tmp 67) (.tmp 65) rfl g.b 1 _ rfl rfl (there_of H11.out.xa.blk 1 6 (by simp [Xm.cells])) (by kernel_rfl) (by simp [Value.oneCell']) ?_
    refine hK.out _ _ ⟨H12.out.rs.all.1, H12.out.ck.all.1.2.2.1⟩ (fun hHeld => ?_)
    clear hK K
    try simp only [aP, lA, lZ, lS]
    refine wpAnyH_done (by kernel_rfl) ?_ _
    obtain ⟨W12, hW12⟩ : ∃ W12, World.setCells w11 g.b 1 [.int .i64 a11, .int .i64 b11, .int .i64 k11, .int .i64 m11, .bool n11, .int .u32 i11] = W12 := ⟨_, rfl⟩
    rw [hW12] at H12
    rw [hW12]
    clear hW12
    obtain ⟨r0, r1, r2, r3⟩ := H12.out.rs.all
    have KM12 := keep (KM.out _ _ _ H12.out.xa HES.out)
    clear e1 e2 e3 e4 e5 e6 e7 e8 e9 e10 r0 r1
    go_wp2_with (first | (go_at_call 60; refine KM12.out.mono ?_; rintro e w13 ⟨rfl, H13⟩))
    go_ret
    exact ⟨rfl, _, _, keep ⟨H13.out.1, H12.out.xl.trans H13.out.2, HES.out, rfl⟩⟩
  case wayB =>
    go_simp
    have HZ0 := keep (heap_alloc_new (World.drew w2) (.cells #[.int .i64 0, .int .i64 0, .bool false, .bool false] 113))
    have H3b := keep (H3.out.step (below_lay (World.drew w2) (.cells #[.int .i64 0, .int .i64 0, .bool false, .bool false] 113)))
    have HC3b := keep (HC3.out.step (below_lay (World.drew w2) (.cells #[.int .i64 0, .int .i64 0, .bool false, .bool false] 113)))
    have HB3b := keep (HB3.out.trans ((below_lay (World.drew w2) (.cells #[.int .i64 0, .int .i64 0, .bool false, .bool false] 113)).mono HB3.out.size))
    have HNRg := keep (show ¬ g.O w2.heap.size from fun ho => by have := H2.out.olt ho; omega)
    refine hK.out _ _ ⟨H3b.out.c0, HC3b.out.all.1.2.2.1, HC3b.out.all.1.2.2.2.2.2.2.2.1⟩ (fun hHeld => ?_)
    clear hK K
    try simp only [aP, lA, lZ, lS]
    refine wpAnyH_ready (rs := [9]) (by kernel_rfl) (by simp) (AllReadyH.cons (o := ⟨some 31, _, _, _, _, _⟩) rfl (fun K hK => ?_) AllReadyH.nil)
    go_simp
    go_at_call 56
    refine (KA.out _ x1 x3 H3b.out).mono ?_
    rintro e w4 ⟨rfl, Q', hQ, H4⟩
    have HC4 := keep (HC3b.out.xl H4.out.2 HNO.out)
    have HNO4 := keep (H4.out.2.out HC3b.out.lt HNO.out)
    have hltr : w2.heap.size < (World.alloc (World.drew w2) (.cells #[.int .i64 0, .int .i64 0, .bool false, .bool false] 113)).heap.size := by simp
    have HNR := keep (H4.out.2.out hltr HNRg.out)
    have HZ := keep ((H4.out.2.part.block w2.heap.size hltr HNRg.out).trans HZ0.out)
    have HLR := keep (Nat.lt_of_lt_of_le hltr H4.out.2.part.size)
    clear hltr
    have c04 := H4.out.1.c0
    dsimp only at c04
    rw [hQ] at c04
    have HQ := keep hQ
    clear hQ
    (try go_wp2_with fail)
    refine hK.out _ _ ⟨c04, HC4.out.all.1.2.2.1, HC4.out.all.1.2.2.2.2.2.2.2.1⟩ (fun hHeld => ?_)
    clear hK K
    try simp only [aP, lA, lZ, lS]
    refine wT (i := 10) (oi := ⟨some 21, _, _, _, _, _⟩) (v := ?vk14x10) rfl (by kernel_rfl) (by kernel_rfl) (by kernel_rfl) (fun _ _ _ h => h) (Or.inl ⟨by rfl, ?hyk14x10⟩) (by assumption) ?restk14x10
    case hyk14x10 => (intro wz hSw; (try dsimp only at hSw); go_simp <;> try with_reducible rfl)
    try simp only [aP, lA, lZ, lS]
    refine wT (i := 11) (oi := ⟨some 32, _, _, _, _, _⟩) (v := ?vk15x11) rfl (by kernel_rfl) (by kernel_rfl) (by kernel_rfl) (fun _ _ _ h => h) (Or.inl ⟨by rfl, ?hyk15x11⟩) (by assumption) ?restk15x11
    case hyk15x11 => (intro wz hSw; (try dsimp only at hSw); go_simp <;> try with_reducible rfl)
    try simp only [aP, lA, lZ, lS]
    refine wT (i := 12) (oi := ⟨some 33, _, _, _, _, _⟩) (v := ?vk16x12) rfl (by kernel_rfl) (by kernel_rfl) (by kernel_rfl) (fun _ _ _ h => h) (Or.inl ⟨by rfl, ?hyk16x12⟩) (by assumption) ?restk16x12
    case hyk16x12 => (intro wz hSw; (try dsimp only at hSw); go_simp <;> try with_reducible rfl)
    try simp only [aP, lA, lZ, lS]
    have hp := setCells_part w2.heap.size [.int .i64 (by_ : Int), .int .i64 sa, .bool false, .bool true] 0 w4
    have hw := setCells_whole [.int .i64 (by_ : Int), .int .i64 sa, .bool false, .bool true] [] _ w4 HZ.out rfl
    have H5 := keep (show AwX w g w.heap.size w2.heap.size ⟨ck, cf, ca, cb, co, cs, cp, (x1, 0, x3), (x4, x5, x6), (x7, x8, x9), (x10, x11, x12), (x13, x14, x15), cps, cbs⟩ by_ sa (w4.setCells w2.heap.size 0 [.int .i64 (by_ : Int), .int .i64 sa, .bool false, .bool true]) { g with Q := Q' } { x with q := q' } from aw_of H4.out.1 HC4.out ((Xl.below HB3b.out).trans H4.out.2) HNO4.out HNR.out hp hw (HB2.out.size) (by have := HC2.out.lt; omega))
    have c06 := H5.out.xa.c0
    dsimp only at c06
    rw [HQ.out] at c06
    clear hp hw
    refine wpAnyH_ready (rs := [14]) (by kernel_rfl) (by simp) (AllReadyH.cons (o := ⟨none, _, _, _, _, _⟩) rfl (fun K hK => ?_) AllReadyH.nil)
    refine step_store rfl 113 (.tmp 8) (.tmp 32) rfl w2.heap.size 0 _ rfl rfl (there_of HZ.out 0 4 (by decide)) (by kernel_rfl) (by simp [Value.oneCell']) ?_
    refine hK.out _ _ ⟨c06, H5.out.ck.all.1.2.2.1, H5.out.ck.all.1.2.2.2.2.2.2.2.1⟩ (fun hHeld => ?_)
    clear hK K
    try simp only [aP, lA, lZ, lS]
    refine wT (i := 15) (oi := ⟨some 9, _, _, _, _, _⟩) (v := ?vk17x15) rfl (by kernel_rfl) (by kernel_rfl) (by kernel_rfl) (fun _ _ _ h => h) (Or.inl ⟨by rfl, ?hyk17x15⟩) (by assumption) ?restk17x15
    case hyk17x15 => (intro wz hSw; (try dsimp only at hSw); go_simp <;> try with_reducible rfl)
    try simp only [aP, lA, lZ, lS]
    refine wpAnyH_done (by kernel_rfl) ?_ _
    have hgen : ∃ W5 R, (w4.setCells w2.heap.size 0 [.int .i64 (by_ : Int), .int .i64 sa, .bool false, .bool true]) = W5 ∧ w2.heap.size = R := ⟨_, _, rfl, rfl⟩
    obtain ⟨W5, r, hW5, hR⟩ := hgen
    rw [hW5] at H5 ⊢
    rw [hR] at H5 ⊢
    clear hW5 hR
    have hne := H5.out.ne
    have hn1 := hne.1
    have hn2 := hne.2
    have c13 := H5.out.xa.c13
    have f13 := H5.out.xa.fz 13
    obtain ⟨d0, d1, d2, d3, d4, d5, d6, d7, d8, d9, d10, d11⟩ := H5.out.ck.all.1
    obtain ⟨r0, r1, r2, r3⟩ := H5.out.rs.all
    dsimp only at c13 f13 d3 hn1 hn2
    have H6 := keep (H5.out.up (H5.out.xa.put 13 (.int .i64 cb) { { x with q := q' } with pe := cb } rfl rfl rfl rfl rfl))
    clear d0 d1 d2 d4 d5 d6 d7 d8 d9 d10 d11 r0 r2 r3 hne
    go_wp2_with fail
    have H7 := keep H6.out.drew
    obtain ⟨e7, e8, e9, e10⟩ := H7.out.xa.rto
    dsimp only at e7 e8 e9 e10
    refine wp_region_held_drew (S := (fun w' => w'.cell? ⟨r, 1, none⟩ = some (.int .i64 sa))) (by kernel_rfl) H7.out.rs.all.2.1 (fun hHeld => ?_)
    refine wT (i := 0) (oi := ⟨some 45, _, _, _, _, _⟩) (v := ?vsB1x0) rfl (by kernel_rfl) (by kernel_rfl) (by kernel_rfl) (fun _ _ _ h => h) (Or.inl ⟨by rfl, ?hysB1x0⟩) (by assumption) ?restsB1x0
    case hysB1x0 => (intro wz hSw; (try dsimp only at hSw); go_simp <;> try with_reducible rfl)
    try simp only [aP, lA, lZ, lS]
    refine wT (i := 1) (oi := ⟨some 46, _, _, _, _, _⟩) (v := ?vsB2x1) rfl (by kernel_rfl) (by kernel_rfl) (by kernel_rfl) (fun _ _ _ h => h) (Or.inl ⟨by rfl, ?hysB2x1⟩) (by assumption) ?restsB2x1
    case hysB2x1 => (intro wz hSw; (try dsimp only at hSw); go_simp <;> try with_reducible rfl)
    try simp only [aP, lA, lZ, lS]
    refine wT (i := 2) (oi := ⟨some 47, _, _, _, _, _⟩) (v := ?vsB3x2) rfl (by kernel_rfl) (by kernel_rfl) (by kernel_rfl) (fun _ _ _ h => h) (Or.inl ⟨by rfl, ?hysB3x2⟩) (by assumption) ?restsB3x2
    case hysB3x2 => (intro wz hSw; (try dsimp only at hSw); go_simp <;> try with_reducible rfl)
    try simp only [aP, lA, lZ, lS]
    refine wT (i := 3) (oi := ⟨some 48, _, _, _, _, _⟩) (v := ?vsB4x3) rfl (by kernel_rfl) (by kernel_rfl) (by kernel_rfl) (fun _ _ _ h => h) (Or.inl ⟨by rfl, ?hysB4x3⟩) (by assumption) ?restsB4x3
    case hysB4x3 => (intro wz hSw; (try dsimp only at hSw); go_simp <;> try with_reducible rfl)
    try simp only [aP, lA, lZ, lS]
    refine wT (i := 5) (oi := ⟨some 50, _, _, _, _, _⟩) (v := ?vsB5x5) rfl (by kernel_rfl) (by kernel_rfl) (by kernel_rfl) (fun _ _ _ h => h) (Or.inl ⟨by rfl, ?hysB5x5⟩) (by assumption) ?restsB5x5
    case hysB5x5 => (intro wz hSw; (try dsimp only at hSw); go_simp <;> try with_reducible rfl)
    try simp only [aP, lA, lZ, lS]
    refine wT (i := 6) (oi := ⟨some 51, _, _, _, _, _⟩) (v := ?vsB6x6) rfl (by kernel_rfl) (by kernel_rfl) (by kernel_rfl) (fun _ _ _ h => h) (Or.inl ⟨by rfl, ?hysB6x6⟩) (by assumption) ?restsB6x6
    case hysB6x6 => (intro wz hSw; (try dsimp only at hSw); go_simp <;> try with_reducible rfl)
    try simp only [aP, lA, lZ, lS]
    refine wpAnyH_ready (rs := [4]) (by kernel_rfl) (by simp) (AllReadyH.cons (o := ⟨some 49, _, _, _, _, _⟩) rfl (fun K hK => ?_) AllReadyH.nil)
    go_simp
    refine hK.out _ _ H7.out.rs.all.2.1 (fun hHeld => ?_)
    clear hK K
    try simp only [aP, lA, lZ, lS]
    refine wpAnyH_ready (rs := [7]) (by kernel_rfl) (by simp) (AllReadyH.cons (o := ⟨some 52, _, _, _, _, _⟩) rfl (fun K hK => ?_) AllReadyH.nil)
    go_simp
    go_at_call 57
    refine (KSa.out ⟨x.rs.sm, x.rs.va, x.rs.wa, x.rs.kn⟩ _).mono ?_
    rintro e w8 ⟨a8, b8, k8, m8, rfl, hb8⟩
    have H8 := keep (H7.out.step hb8.out)
    (try go_wp2_with fail)
    refine hK.out _ _ H8.out.rs.all.2.1 (fun hHeld => ?_)
    clear hK K
    try simp only [aP, lA, lZ, lS]
    refine wT (i := 8) (oi := ⟨some 53, _, _, _, _, _⟩) (v := ?vsB7x8) rfl (by kernel_rfl) (by kernel_rfl) (by kernel_rfl) (fun _ _ _ h => h) (Or.inl ⟨by rfl, ?hysB7x8⟩) (by assumption) ?restsB7x8
    case hysB7x8 => (intro wz hSw; (try dsimp only at hSw); go_simp <;> try with_reducible rfl)
    try simp only [aP, lA, lZ, lS]
    refine wT (i := 9) (oi := ⟨some 54, _, _, _, _, _⟩) (v := ?vsB8x9) rfl (by kernel_rfl) (by kernel_rfl) (by kernel_rfl) (fun _ _ _ h => h) (Or.inl ⟨by rfl, ?hysB8x9⟩) (by assumption) ?restsB8x9
    case hysB8x9 => (intro wz hSw; (try dsimp only at hSw); go_simp <;> try with_reducible rfl)
    try simp only [aP, lA, lZ, lS]
    have H9 := keep (H8.out.up (H8.out.xa.set4 a8 b8 k8 m8))
    refine wpAnyH_ready (rs := [10]) (by kernel_rfl) (by simp) (AllReadyH.cons (o := ⟨none, _, _, _, _, _⟩) rfl (fun K hK => ?_) AllReadyH.nil)
    refine step_store rfl 59 (.tmp 54) (.tmp 52) rfl g.b 7 _ rfl rfl (there_of H8.out.xa.blk 7 4 (by simp [Xm.cells])) (by kernel_rfl) (by simp [Value.oneCell']) ?_
    refine hK.out _ _ H9.out.rs.all.2.1 (fun hHeld => ?_)
    clear hK K
    try simp only [aP, lA, lZ, lS]
    refine wpAnyH_done (by kernel_rfl) ?_ _
    obtain ⟨W9, hW9⟩ : ∃ W9, World.setCells w8 g.b 7 [.int .i64 a8, .int .i64 b8, .int .i64 k8, .bool m8] = W9 := ⟨_, rfl⟩
    have H10 := keep H9.out.drew
    rw [hW9] at H10
    rw [hW9]
    clear hW9
    go_wp2
    obtain ⟨e1, e2, e3, e4, e5, e6⟩ := H10.out.xa.win
    dsimp only at e1 e2 e3 e4 e5 e6
    refine wp_region_held_drew (S := (fun w' => w'.cell? ⟨r, 0, none⟩ = some (.int .i64 (by_ : Int)) ∧ w'.cell? ⟨w.heap.size, 2, none⟩ = some (.int .u32 ca))) (by kernel_rfl) ⟨H10.out.rs.all.1, H10.out.ck.all.1.2.2.1⟩ (fun hHeld => ?_)
    refine wT (i := 0) (oi := ⟨some 55, _, _, _, _, _⟩) (v := ?vuB1x0) rfl (by kernel_rfl) (by kernel_rfl) (by kernel_rfl) (fun _ _ _ h => h) (Or.inl ⟨by rfl, ?hyuB1x0⟩) (by assumption) ?restuB1x0
    case hyuB1x0 => (intro wz hSw; (try dsimp only at hSw); go_simp <;> try with_reducible rfl)
    try simp only [aP, lA, lZ, lS]
    refine wT (i := 1) (oi := ⟨some 56, _, _, _, _, _⟩) (v := ?vuB2x1) rfl (by kernel_rfl) (by kernel_rfl) (by kernel_rfl) (fun _ _ _ h => h) (Or.inl ⟨by rfl, ?hyuB2x1⟩) (by assumption) ?restuB2x1
    case hyuB2x1 => (intro wz hSw; (try dsimp only at hSw); go_simp <;> try with_reducible rfl)
    try simp only [aP, lA, lZ, lS]
    refine wT (i := 2) (oi := ⟨some 57, _, _, _, _, _⟩) (v := ?vuB3x2) rfl (by kernel_rfl) (by kernel_rfl) (by kernel_rfl) (fun _ _ _ h => h) (Or.inl ⟨by rfl, ?hyuB3x2⟩) (by assumption) ?restuB3x2
    case hyuB3x2 => (intro wz hSw; (try dsimp only at hSw); go_simp <;> try with_reducible rfl)
    try simp only [aP, lA, lZ, lS]
    refine wT (i := 3) (oi := ⟨some 58, _, _, _, _, _⟩) (v := ?vuB4x3) rfl (by kernel_rfl) (by kernel_rfl) (by kernel_rfl) (fun _ _ _ h => h) (Or.inl ⟨by rfl, ?hyuB4x3⟩) (by assumption) ?restuB4x3
    case hyuB4x3 => (intro wz hSw; (try dsimp only at hSw); go_simp <;> try with_reducible rfl)
    try simp only [aP, lA, lZ, lS]
    refine wT (i := 5) (oi := ⟨some 60, _, _, _, _, _⟩) (v := ?vuB5x5) rfl (by kernel_rfl) (by kernel_rfl) (by kernel_rfl) (fun _ _ _ h => h) (Or.inl ⟨by rfl, ?hyuB5x5⟩) (by assumption) ?restuB5x5
    case hyuB5x5 => (intro wz hSw; (try dsimp only at hSw); go_simp <;> try with_reducible rfl)
    try simp only [aP, lA, lZ, lS]
    refine wT (i := 6) (oi := ⟨some 61, _, _, _, _, _⟩) (v := ?vuB6x6) rfl (by kernel_rfl) (by kernel_rfl) (by kernel_rfl) (fun _ _ _ h => h) (Or.inl ⟨by rfl, ?hyuB6x6⟩) (by assumption) ?restuB6x6
    case hyuB6x6 => (intro wz hSw; (try dsimp only at hSw); go_simp <;> try with_reducible rfl)
    try simp only [aP, lA, lZ, lS]
    refine wT (i := 7) (oi := ⟨some 62, _, _, _, _, _⟩) (v := ?vuB7x7) rfl (by kernel_rfl) (by kernel_rfl) (by kernel_rfl) (fun _ _ _ h => h) (Or.inl ⟨by rfl, ?hyuB7x7⟩) (by assumption) ?restuB7x7
    case hyuB7x7 => (intro wz hSw; (try dsimp only at hSw); go_simp <;> try with_reducible rfl)
    try simp only [aP, lA, lZ, lS]
    refine wT (i := 8) (oi := ⟨some 63, _, _, _, _, _⟩) (v := ?vuB8x8) rfl (by kernel_rfl) (by kernel_rfl) (by kernel_rfl) (fun _ _ _ h => h) (Or.inl ⟨by rfl, ?hyuB8x8⟩) (by assumption) ?restuB8x8
    case hyuB8x8 => (intro wz hSw; (try dsimp only at hSw); go_simp <;> try with_reducible rfl)
    try simp only [aP, lA, lZ, lS]
    refine wT (i := 9) (oi := ⟨some 64, _, _, _, _, _⟩) (v := ?vuB9x9) rfl (by kernel_rfl) (by kernel_rfl) (by kernel_rfl) (fun _ _ _ h => h) (Or.inl ⟨by rfl, ?hyuB9x9⟩) (by assumption) ?restuB9x9
    case hyuB9x9 => (intro wz hSw; (try dsimp only at hSw); go_simp <;> try with_reducible rfl)
    try simp only [aP, lA, lZ, lS]
    refine wpAnyH_ready (rs := [4]) (by kernel_rfl) (by simp) (AllReadyH.cons (o := ⟨some 59, _, _, _, _, _⟩) rfl (fun K hK => ?_) AllReadyH.nil)
    go_simp
    refine hK.out _ _ ⟨H10.out.rs.all.1, H10.out.ck.all.1.2.2.1⟩ (fun hHeld => ?_)
    clear hK K
    try simp only [aP, lA, lZ, lS]
    refine wpAnyH_ready (rs := [10]) (by kernel_rfl) (by simp) (AllReadyH.cons (o := ⟨some 65, _, _, _, _, _⟩) rfl (fun K hK => ?_) AllReadyH.nil)
    go_simp
    go_at_call 58
    refine (KWi.out ⟨x.ws.cw, x.ws.th, x.ws.pa, x.ws.mt, x.ws.re, x.ws.ex⟩ full _).mono ?_
    rintro e w11 ⟨a11, b11, k11, m11, n11, i11, rfl, hb11⟩
    have H11 := keep (H10.out.step hb11.out)
    (try go_wp2_with fail)
    refine hK.out _ _ ⟨H11.out.rs.all.1, H11.out.ck.all.1.2.2.1⟩ (fun hHeld => ?_)
    clear hK K
    try simp only [aP, lA, lZ, lS]
    refine wT (i := 11) (oi := ⟨some 66, _, _, _, _, _⟩) (v := ?vuB10x11) rfl (by kernel_rfl) (by kernel_rfl) (by kernel_rfl) (fun _ _ _ h => h) (Or.inl ⟨by rfl, ?hyuB10x11⟩) (by assumption) ?restuB10x11
    case hyuB10x11 => (intro wz hSw; (try dsimp only at hSw); go_simp <;> try with_reducible rfl)
    try simp only [aP, lA, lZ, lS]
    refine wT (i := 12) (oi := ⟨some 67, _, _, _, _, _⟩) (v := ?vuB11x12) rfl (by kernel_rfl) (by kernel_rfl) (by kernel_rfl) (fun _ _ _ h => h) (Or.inl ⟨by rfl, ?hyuB11x12⟩) (by assumption) ?restuB11x12
    case hyuB11x12 => (intro wz hSw; (try dsimp only at hSw); go_simp <;> try with_reducible rfl)
    try simp only [aP, lA, lZ, lS]
    have H12 := keep (H11.out.up (H11.out.xa.set6 a11 b11 k11 m11 i11 n11))
    refine wpAnyH_ready (rs := [13]) (by kernel_rfl) (by simp) (AllReadyH.cons (o := ⟨none, _, _, _, _, _⟩) rfl (fun K hK => ?_) AllReadyH.nil)
    refine step_store rfl 57 (.tmp 67) (.tmp 65) rfl g.b 1 _ rfl rfl (there_of H11.out.xa.blk 1 6 (by simp [Xm.cells])) (by kernel_rfl) (by simp [Value.oneCell']) ?_
    refine hK.out _ _ ⟨H12.out.rs.all.1, H12.out.ck.all.1.2.2.1⟩ (fun hHeld => ?_)
    clear hK K
    try simp only [aP, lA, lZ, lS]
    refine wpAnyH_done (by kernel_rfl) ?_ _
    obtain ⟨W12, hW12⟩ : ∃ W12, World.setCells w11 g.b 1 [.int .i64 a11, .int .i64 b11, .int .i64 k11, .int .i64 m11, .bool n11, .int .u32 i11] = W12 := ⟨_, rfl⟩
    rw [hW12] at H12
    rw [hW12]
    clear hW12
    obtain ⟨r0, r1, r2, r3⟩ := H12.out.rs.all
    have KM12 := keep (KM.out _ _ _ H12.out.xa HES.out)
    clear e1 e2 e3 e4 e5 e6 e7 e8 e9 e10 r0 r1
    go_wp2_with (first | (go_at_call 60; refine KM12.out.mono ?_; rintro e w13 ⟨rfl, H13⟩))
    go_ret
    exact ⟨rfl, _, _, keep ⟨H13.out.1, H12.out.xl.trans H13.out.2, HES.out, rfl⟩⟩
end
end Go.Proofs.YtnlkdlnmffibhaaGreat
