/- awake. -/
import Derived.Test.YtbkepkiaabeliaaQ30
namespace Go.Proofs.Ytbkepkiaabeliaa
open Go.RowKit Go.Maps
set_option linter.unusedVariables false

def mg1 (m : Nat) : Nat → Mg := fun x => if x = m then ⟨-1, -1, false⟩ else ⟨0, 0, false⟩
def es3 (p0 p1 p2 m : Nat) (c0 c1 c2 : CZ) : List En := [⟨p0, c0, m, 0, 0, 0, 0⟩, ⟨p1, c1, m, 0, 0, 0, 0⟩, ⟨p2, c2, m, 0, 0, 0, 0⟩]
theorem len3 {α : Type} : ∀ {l : List α}, l.length = 3 → ∃ a b c, l = [a, b, c]
  | [a, b, c], _ => ⟨a, b, c, rfl⟩
  | [], h => by cases h
  | [_], h => by cases h
  | [_, _], h => by cases h
  | _ :: _ :: _ :: _ :: _, h => by simp at h
theorem len2 {α : Type} : ∀ {l : List α}, l.length = 2 → ∃ a b, l = [a, b]
  | [a, b], _ => ⟨a, b, rfl⟩
  | [], h => by cases h
  | [_], h => by cases h
  | _ :: _ :: _ :: _, h => by simp at h
theorem aw_new {l : List CZ} {m : Nat} {new : List En} (h : PushN (newQ 5) l m 3 new) (hl : l.length = 3) (hd : ∀ x ∈ l, x.da.2.1 = 10) : ∃ p0 p1 p2 c0 c1 c2, new = es3 p0 p1 p2 m c0 c1 c2 ∧ c0.da.2.1 = 10 ∧ c1.da.2.1 = 10 ∧ c2.da.2.1 = 10 ∧ c0.a = 5 ∧ c1.a = 6 ∧ pushQ (newQ 5) new m (-1) (-1) = ⟨es3 p0 p1 p2 m c0 c1 c2, 8, mg1 m⟩ := by
  obtain ⟨x0, x1, x2, rfl⟩ := len3 hl
  obtain ⟨⟨p0, c0, m0, t0, n0, a0, s0⟩, ⟨p1, c1, m1, t1, n1, a1, s1⟩, ⟨p2, c2, m2, t2, n2, a2, s2⟩, rfl⟩ := len3 h.len
  obtain ⟨b1, b2, b3, b4, b5, b6, b7⟩ := h.all 0 x0 _ rfl rfl
  obtain ⟨d1, d2, d3, d4, d5, d6, d7⟩ := h.all 1 x1 _ rfl rfl
  obtain ⟨f1, f2, f3, f4, f5, f6, f7⟩ := h.all 2 x2 _ rfl rfl
  dsimp only at b1 b2 b3 b4 b5 b6 b7 d1 d2 d3 d4 d5 d6 d7 f1 f2 f3 f4 f5 f6 f7
  subst b3 b4 b5 b6 b7 d3 d4 d5 d6 d7 f3 f4 f5 f6 f7
  exact ⟨p0, p1, p2, c0, c1, c2, rfl, b2.trans (hd x0 (by simp)), d2.trans (hd x1 (by simp)), f2.trans (hd x2 (by simp)), congrArg Ct.a b1, congrArg Ct.a d1, rfl⟩
theorem aw_push {w W1 W2 W3 W4 : World} {b : Nat} (hq : QS w b (newG b) (newQ 5) W1) (hz2 : ZV W2 (pz 10 (W1.heap.size + 1))) (hb2 : Below W1.heap.size W1 W2) (hz3 : ZV W3 (pz 10 (W2.heap.size + 1))) (hb3 : Below W2.heap.size W2 W3) (hz4 : ZV W4 (pz 10 (W3.heap.size + 1))) (hb4 : Below W3.heap.size W3 W4) :
    Calls Try.prog 18 #[.pointer (some ⟨b, 0, none⟩), .slice (some ⟨W4.heap.size, 0, none⟩) 3 3, .int .i64 (-1), .int .i64 (-1)] (W4.alloc (.cells (flatF CZ.cells [pz 10 (W1.heap.size + 1), pz 10 (W2.heap.size + 1), pz 10 (W3.heap.size + 1)]).toArray 51)) fun e w' => e = .returned (.int .i64 0) ∧
      ∃ G p0 p1 p2 m c0 c1 c2, Hid (QS w b G ⟨es3 p0 p1 p2 m c0 c1 c2, 8, mg1 m⟩ w' ∧ c0.da.2.1 = 10 ∧ c1.da.2.1 = 10 ∧ c2.da.2.1 = 10 ∧ c0.a = 5 ∧ c1.a = 6) := by
  have hb5 := below_lay W4 (.cells (flatF CZ.cells [pz 10 (W1.heap.size + 1), pz 10 (W2.heap.size + 1), pz 10 (W3.heap.size + 1)]).toArray 51)
  have hq5 := hq.step ((hb2.trans (hb3.mono hb2.size)).trans (up hb4 hb5 |>.mono (Nat.le_trans hb2.size hb3.size)))
  have hzs := zs_row (l := [pz 10 (W1.heap.size + 1), pz 10 (W2.heap.size + 1), pz 10 (W3.heap.size + 1)]) (heap_alloc_new W4 (.cells (flatF CZ.cells [pz 10 (W1.heap.size + 1), pz 10 (W2.heap.size + 1), pz 10 (W3.heap.size + 1)]).toArray 51)) (fun x hx => by
    simp only [List.mem_cons, List.not_mem_nil, or_false] at hx
    rcases hx with rfl | rfl | rfl
    · exact ((hz2.step hb3).step hb4).step hb5
    · exact (hz3.step hb4).step hb5
    · exact hz4.step hb5)
  have hgb : b < W1.heap.size := hq.qa.olt _ rfl
  have h12 := hb2.size
  have h23 := hb3.size
  have h34 := hb4.size
  refine (Push_qs hq5 hzs (show (3 : Nat) ≤ 1000000 by decide) (fun x hx => ?_) (fun a ea => ?_) (fun x hx A hA => ?_) (-1) (-1) ?_ (show ¬ 1024 < 0 + 3 by decide)).mono ?_
  · simp only [List.mem_cons, List.not_mem_nil, or_false] at hx
    rcases hx with rfl | rfl | rfl <;> exact pz_sm (by decide)
  · injection ea with ea
    rw [← ea]
    intro ho
    have h2 : W4.heap.size = b := ho
    omega
  · have key : ∀ g, W1.heap.size + 1 ≤ g → ∀ A ∈ (pz 10 g).ads, InF (fun i => ¬ (newG b).O i) A := fun g hg A hA a ea ho => by
      have h1 := pz_ads hg A hA a ea
      have h2 : a.block = b := ho
      omega
    simp only [List.mem_cons, List.not_mem_nil, or_false] at hx
    rcases hx with rfl | rfl | rfl
    · exact key _ (Nat.le_refl _) A hA
    · exact key _ (by omega) A hA
    · exact key _ (by omega) A hA
  · rintro (h | h)
    · cases h
    · rw [List.any_cons, List.any_cons, List.any_cons, unfit_pz (by decide), unfit_pz (by decide), unfit_pz (by decide)] at h
      cases h
  · rintro e w' ⟨rfl, G', new, m, hh⟩
    obtain ⟨p0, p1, p2, c0, c1, c2, e1, e2, e3, e4, e5, e6, e7⟩ := aw_new hh.out.2.1 rfl (fun x hx => by
      simp only [List.mem_cons, List.not_mem_nil, or_false] at hx
      rcases hx with rfl | rfl | rfl <;> rfl)
    exact ⟨rfl, G', p0, p1, p2, m, c0, c1, c2, keep ⟨e7 ▸ hh.out.1, e2, e3, e4, e5, e6⟩⟩
def es6 (p0 p1 p2 m : Nat) (c0 c1 c2 : CZ) : List En := [⟨p0, c0, m, 1, 1, 0, 0⟩, ⟨p1, c1, m, 1, 1, 0, 0⟩, ⟨p2, c2, m, 0, 0, 0, 0⟩]
theorem aw_take {w W : World} {b : Nat} {G : Gq} {p0 p1 p2 m : Nat} {c0 c1 c2 : CZ} (h : QS w b G ⟨es3 p0 p1 p2 m c0 c1 c2, 8, mg1 m⟩ W ∧ c0.da.2.1 = 10 ∧ c1.da.2.1 = 10 ∧ c2.da.2.1 = 10 ∧ c0.a = 5 ∧ c1.a = 6) :
    Calls Try.prog 19 #[.pointer (some ⟨b, 0, none⟩), .int .i64 0, .int .i64 25] W fun e w' => ∃ g c y0 y1, e = .returned (.slice (some ⟨g, 0, none⟩) 2 c) ∧ Hid (QS w b G ⟨es6 p0 p1 p2 m c0 c1 c2, 8, mg1 m⟩ w' ∧ w'.ownsRow W.heap.size 51 12 (.slice (some ⟨g, 0, none⟩) 2 c) 2 (flatF CZ.cells [y0, y1]) ∧ y0.a = 5 ∧ y1.a = 6 ∧ ∀ i, G.O i → i < W.heap.size) := by
  obtain ⟨hq, h0, h1, h2, h5, h6⟩ := h
  refine (Take_qs hq 0 25 (by decide)).mono ?_
  rintro e w' ⟨⟨s1, s2, s3⟩, ys, rfl, hh⟩
  obtain ⟨ht, hq2⟩ := hh.out
  have hm := (awake_math (p0 := p0) (p1 := p1) (p2 := p2) (m := m) (m0 := m) (m1 := m) (m2 := m) h0 h1 h2 (mg1 m)).1
  unfold tkQ at hq2
  have hm' : takeQ ⟨es3 p0 p1 p2 m c0 c1 c2, 8, mg1 m⟩ 0 25 = (es6 p0 p1 p2 m c0 c1 c2, [c0, c1]) := hm
  rw [hm'] at ht hq2
  have hrow := ht.row
  have hct := ht.ct
  have hyl : ys.length = 2 := by have := congrArg List.length hct; simpa using this
  obtain ⟨y0, y1, rfl⟩ := len2 hyl
  have hs2 : s2 = 2 := by
    have h3 := hrow.1
    rw [flatF_len CZ.len] at h3
    dsimp only at h3
    simp at h3
    omega
  subst hs2
  obtain ⟨g, hg, _⟩ := own_row_at hrow (by simp [flatF, CZ.cells])
  dsimp only at hg hrow
  subst hg
  simp only [List.map_cons, List.map_nil, List.cons.injEq, and_true] at hct
  exact ⟨g, s3, y0, y1, rfl, keep ⟨hq2, hrow, (congrArg Ct.a hct.1).trans h5, (congrArg Ct.a hct.2).trans h6, hq.qa.olt⟩⟩
theorem aw_ack {w W : World} {b : Nat} {G : Gq} {p0 p1 p2 m : Nat} {c0 c1 c2 : CZ} (h : QS w b G ⟨es6 p0 p1 p2 m c0 c1 c2, 8, mg1 m⟩ W) (h0 : c0.da.2.1 = 10) (h1 : c1.da.2.1 = 10) (h2 : c2.da.2.1 = 10) :
    Calls Try.prog 23 #[.pointer (some ⟨b, 0, none⟩), .int .u32 5, .slice none 0 0, .int .i64 40] W fun e w' => e = .returned (.tuple #[.agg #[.int .i64 10, .int .i64 40, .bool false, .bool true], .bool true]) ∧ ∃ G' q', Hid (QS w b G' q' w' ∧ flr q' = 5 ∧ q'.es.length = 2 ∧ Part G.O W w') := by
  obtain ⟨_, m2, m3, m4, m5⟩ := awake_math (p0 := p0) (p1 := p1) (p2 := p2) (m := m) (m0 := m) (m1 := m) (m2 := m) h0 h1 h2 (mg1 m)
  refine (Ack_qs h 5 40 (by decide) (none, 0, 0) [] ⟨rfl, Nat.le_refl _, SR.nil _ _⟩ (.inr rfl) (Nat.zero_le _) (fun x hx => by cases hx) m2).mono ?_
  rintro e w' ⟨rfl, hh⟩
  refine ⟨?_, _, _, keep ⟨hh.out.1, m4, m5, hh.out.2⟩⟩
  rw [show ackR ⟨es6 p0 p1 p2 m c0 c1 c2, 8, mg1 m⟩ 5 [] 40 = ⟨10, 40, false, true⟩ from m3]
  rfl
theorem Floor_qs {w W : World} {b : Nat} {G : Gq} {q : Qm} (h : QS w b G q W) {f : Int} (hf : flr q = f) : Calls Try.prog 16 #[.pointer (some ⟨b, 0, none⟩)] W fun e w' => e = .returned (.int .u32 f) ∧ Hid (Below W.heap.size W w') := by
  have hb := h.gb
  subst hb hf
  refine (Floor_any h.qa).mono ?_
  rintro e w' ⟨rfl, k, rfl⟩
  exact ⟨rfl, keep (below_drewN (Below.refl _ W) k)⟩
theorem Len_qs {w W : World} {b : Nat} {G : Gq} {q : Qm} (h : QS w b G q W) {n : Nat} (hn : q.es.length = n) : Calls Try.prog 17 #[.pointer (some ⟨b, 0, none⟩)] W fun e w' => e = .returned (.int .i64 (n : Int)) ∧ W = w' := by
  have hb := h.gb
  subst hb hn
  exact Len_any h.qa
theorem aw_cells {W w6 w7 : World} {G : Gq} {g c : Nat} {y0 y1 : CZ} (hr : w6.ownsRow W.heap.size 51 12 (.slice (some ⟨g, 0, none⟩) 2 c) 2 (flatF CZ.cells [y0, y1])) (h0 : y0.a = 5) (h1 : y1.a = 6) (hO : ∀ i, G.O i → i < W.heap.size) (hp : Part G.O w6 w7) (o : Obj) :
    (w7.alloc o).cell? ⟨g, 2, none⟩ = some (.int .u32 5) ∧ (w7.alloc o).cell? ⟨g, 14, none⟩ = some (.int .u32 6) := by
  have h2 := own_step (hp.own hr fun k hk hc => by have := (hr.lt k hk).1; have := hO _ hc; omega) (below_lay w7 o)
  obtain ⟨g', e, _, h3, _⟩ := own_row_at h2 (by simp [flatF, CZ.cells])
  injection e with e
  injection e with e
  subst e
  exact ⟨h3 2 _ (by rw [← h0]; rfl), h3 14 _ (by rw [← h1]; rfl)⟩
set_option maxRecDepth 100000 in
set_option maxHeartbeats 1000000 in
theorem awake_any (w : World) : Calls Try.prog 10 #[] w fun e w' => e = .returned (.bool true) ∧ Below w.heap.size w w' := by
  have KN := keep (New_qs (w := w) (W := w) 5 (by decide) (Below.refl _ _))
  have KP := keep (fun W => piece_lit 10 (by decide) 10 rfl W)
  go_enter Try.func10, Try.ntmps10
  go_wp2_with (first
    | (go_at_call 12; refine KN.out.mono ?_; rintro e w1 ⟨rfl, hq1⟩)
    | (go_at_call 29
       first
       | (have _ := hz3; refine (KP.out _).mono ?_; rintro e w4 ⟨rfl, hz4, _, hb4⟩
          have KU := keep (aw_push hq1.out hz2.out hb2.out hz3.out hb3.out hz4.out hb4.out))
       | (have _ := hz2; refine (KP.out _).mono ?_; rintro e w3 ⟨rfl, hz3, _, hb3⟩)
       | (refine (KP.out _).mono ?_; rintro e w2 ⟨rfl, hz2, _, hb2⟩))
    | (go_at_call 18; refine KU.out.mono ?_; rintro e w5 ⟨rfl, G, p0, p1, p2, m, c0, c1, c2, H5⟩)
    | (go_at_call 19; refine (aw_take H5.out).mono ?_; rintro e w6 ⟨g, c, y0, y1, rfl, H6⟩)
    | (go_at_call 23; refine (aw_ack H6.out.1 H5.out.2.1 H5.out.2.2.1 H5.out.2.2.2.1).mono ?_; rintro e w7 ⟨rfl, G', q', H7⟩
       obtain ⟨x5, x6⟩ := aw_cells H6.out.2.1 H6.out.2.2.1 H6.out.2.2.2.1 H6.out.2.2.2.2 H7.out.2.2.2 (.cells #[.int .i64 10, .int .i64 40, .bool false, .bool true] 54)
       have H8 := keep (H7.out.1.step (below_lay w7 (.cells #[.int .i64 10, .int .i64 40, .bool false, .bool true] 54))))
    | (go_at_call 16; refine (Floor_qs H8.out H7.out.2.1).mono ?_; rintro e w9 ⟨rfl, hb9⟩)
    | (go_at_call 17; refine (Len_qs (H8.out.step hb9.out) H7.out.2.2.1).mono ?_; rintro e w10 ⟨rfl, rfl⟩))
  go_ret
  exact ⟨rfl, (H8.out.step hb9.out).bl⟩
end Go.Proofs.Ytbkepkiaabeliaa
