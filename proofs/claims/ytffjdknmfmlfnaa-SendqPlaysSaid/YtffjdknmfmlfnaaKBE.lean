/- KBE of the stage: texts Q31, Q51, Bits, Nums, joined. -/
import Derived.Test.YtffjdknmfmlfnaaKBC
import Derived.Test.YtffjdknmfmlfnaaKBD
import Derived.Test.YtffjdknmfmlfnaaKAN
import Derived.Test.YtffjdknmfmlfnaaKAA
import Derived.WalkSmall
set_option linter.unusedSimpArgs false
set_option linter.unusedVariables false
namespace Go.Proofs.Ytffjdknmfmlfnaa
section
open Go.RowKit Go.Maps

def mg1 (m : Nat) : Nat → Mg := fun x => if x = m then ⟨-1, -1, false⟩ else ⟨0, 0, false⟩
def es3 (p0 p1 p2 m : Nat) (c0 c1 c2 : CZ) : List En := [⟨p0, c0, m, 0, 0, 0, 0⟩, ⟨p1, c1, m, 0, 0, 0, 0⟩, ⟨p2, c2, m, 0, 0, 0, 0⟩]
theorem len3 {α : Type} : ∀ {l : List α}, l.length = 3 → ∃ a b c, l = [a, b, c]
  | [a, b, c], _ => ⟨a, b, c, rfl⟩
  | [], h => by cases h
  | [_], h => by cases h
  | [_, _], h => by cases h
  | _ :: _ :: _ :: _ :: _, h => by simp at h
theorem len2 {α : Type} : ∀ {l : List α}, l.length = 2 → ∃ a b, l = [a, b]
  | [a, b], _ => ⟨a, b, rfl⟩
  | [], h => by cases h
  | [_], h => by cases h
  | _ :: _ :: _ :: _, h => by simp at h
theorem aw_new {l : List CZ} {m : Nat} {new : List En} (h : PushN (newQ 5) l m 3 new) (hl : l.length = 3) (hd : ∀ x ∈ l, x.da.2.1 = 10) : ∃ p0 p1 p2 c0 c1 c2, new = es3 p0 p1 p2 m c0 c1 c2 ∧ c0.da.2.1 = 10 ∧ c1.da.2.1 = 10 ∧ c2.da.2.1 = 10 ∧ c0.a = 5 ∧ c1.a = 6 ∧ pushQ (newQ 5) new m (-1) (-1) = ⟨es3 p0 p1 p2 m c0 c1 c2, 8, mg1 m⟩ := by
  obtain ⟨x0, x1, x2, rfl⟩ := len3 hl
  obtain ⟨⟨p0, c0, m0, t0, n0, a0, s0⟩, ⟨p1, c1, m1, t1, n1, a1, s1⟩, ⟨p2, c2, m2, t2, n2, a2, s2⟩, rfl⟩ := len3 h.len
  obtain ⟨b1, b2, b3, b4, b5, b6, b7⟩ := h.all 0 x0 _ rfl rfl
  obtain ⟨d1, d2, d3, d4, d5, d6, d7⟩ := h.all 1 x1 _ rfl rfl
  obtain ⟨f1, f2, f3, f4, f5, f6, f7⟩ := h.all 2 x2 _ rfl rfl
  dsimp only at b1 b2 b3 b4 b5 b6 b7 d1 d2 d3 d4 d5 d6 d7 f1 f2 f3 f4 f5 f6 f7
  subst b3 b4 b5 b6 b7 d3 d4 d5 d6 d7 f3 f4 f5 f6 f7
  exact ⟨p0, p1, p2, c0, c1, c2, rfl, b2.trans (hd x0 (by simp)), d2.trans (hd x1 (by simp)), f2.trans (hd x2 (by simp)), congrArg Ct.a b1, congrArg Ct.a d1, rfl⟩
theorem aw_push {w W1 W2 W3 W4 : World} {b : Nat} (hq : QS w b (newG b) (newQ 5) W1) (hz2 : ZV W2 (pz 10 (W1.heap.size + 1))) (hb2 : Below W1.heap.size W1 W2) (hz3 : ZV W3 (pz 10 (W2.heap.size + 1))) (hb3 : Below W2.heap.size W2 W3) (hz4 : ZV W4 (pz 10 (W3.heap.size + 1))) (hb4 : Below W3.heap.size W3 W4) :
    Calls Try.prog 10 #[.pointer (some ⟨b, 0, none⟩), .slice (some ⟨W4.heap.size, 0, none⟩) 3 3, .int .i64 (-1), .int .i64 (-1)] (W4.alloc (.cells (flatF CZ.cells [pz 10 (W1.heap.size + 1), pz 10 (W2.heap.size + 1), pz 10 (W3.heap.size + 1)]).toArray 45)) fun e w' => e = .returned (.int .i64 0) ∧
      ∃ G p0 p1 p2 m c0 c1 c2, Hid (QS w b G ⟨es3 p0 p1 p2 m c0 c1 c2, 8, mg1 m⟩ w' ∧ c0.da.2.1 = 10 ∧ c1.da.2.1 = 10 ∧ c2.da.2.1 = 10 ∧ c0.a = 5 ∧ c1.a = 6) := by
  have hb5 := below_lay W4 (.cells (flatF CZ.cells [pz 10 (W1.heap.size + 1), pz 10 (W2.heap.size + 1), pz 10 (W3.heap.size + 1)]).toArray 45)
  have hq5 := hq.step ((hb2.trans (hb3.mono hb2.size)).trans (up hb4 hb5 |>.mono (Nat.le_trans hb2.size hb3.size)))
  have hzs := zs_row (l := [pz 10 (W1.heap.size + 1), pz 10 (W2.heap.size + 1), pz 10 (W3.heap.size + 1)]) (heap_alloc_new W4 (.cells (flatF CZ.cells [pz 10 (W1.heap.size + 1), pz 10 (W2.heap.size + 1), pz 10 (W3.heap.size + 1)]).toArray 45)) (fun x hx => by
    simp only [List.mem_cons, List.not_mem_nil, or_false] at hx
    rcases hx with rfl | rfl | rfl
    · exact ((hz2.step hb3).step hb4).step hb5
    · exact (hz3.step hb4).step hb5
    · exact hz4.step hb5)
  have hgb : b < W1.heap.size := hq.qa.olt _ rfl
  have h12 := hb2.size
  have h23 := hb3.size
  have h34 := hb4.size
  refine (Push_qs hq5 hzs (show (3 : Nat) ≤ 1000000 by decide) (fun x hx => ?_) (fun a ea => ?_) (fun x hx A hA => ?_) (-1) (-1) ?_ (show ¬ 1024 < 0 + 3 by decide)).mono ?_
  · simp only [List.mem_cons, List.not_mem_nil, or_false] at hx
    rcases hx with rfl | rfl | rfl <;> exact pz_sm (by decide)
  · injection ea with ea
    rw [← ea]
    intro ho
    have h2 : W4.heap.size = b := ho
    omega
  · have key : ∀ g, W1.heap.size + 1 ≤ g → ∀ A ∈ (pz 10 g).ads, InF (fun i => ¬ (newG b).O i) A := fun g hg A hA a ea ho => by
      have h1 := pz_ads hg A hA a ea
      have h2 : a.block = b := ho
      omega
    simp only [List.mem_cons, List.not_mem_nil, or_false] at hx
    rcases hx with rfl | rfl | rfl
    · exact key _ (Nat.le_refl _) A hA
    · exact key _ (by omega) A hA
    · exact key _ (by omega) A hA
  · rintro (h | h)
    · cases h
    · rw [List.any_cons, List.any_cons, List.any_cons, unfit_pz (by decide), unfit_pz (by decide), unfit_pz (by decide)] at h
      cases h
  · rintro e w' ⟨rfl, G', new, m, hh⟩
    obtain ⟨p0, p1, p2, c0, c1, c2, e1, e2, e3, e4, e5, e6, e7⟩ := aw_new hh.out.2.1 rfl (fun x hx => by
      simp only [List.mem_cons, List.not_mem_nil, or_false] at hx
      rcases hx with rfl | rfl | rfl <;> rfl)
    exact ⟨rfl, G', p0, p1, p2, m, c0, c1, c2, keep ⟨e7 ▸ hh.out.1, e2, e3, e4, e5, e6⟩⟩
def es6 (p0 p1 p2 m : Nat) (c0 c1 c2 : CZ) : List En := [⟨p0, c0, m, 1, 1, 0, 0⟩, ⟨p1, c1, m, 1, 1, 0, 0⟩, ⟨p2, c2, m, 0, 0, 0, 0⟩]
theorem aw_take {w W : World} {b : Nat} {G : Gq} {p0 p1 p2 m : Nat} {c0 c1 c2 : CZ} (h : QS w b G ⟨es3 p0 p1 p2 m c0 c1 c2, 8, mg1 m⟩ W ∧ c0.da.2.1 = 10 ∧ c1.da.2.1 = 10 ∧ c2.da.2.1 = 10 ∧ c0.a = 5 ∧ c1.a = 6) :
    Calls Try.prog 12 #[.pointer (some ⟨b, 0, none⟩), .int .i64 0, .int .i64 25] W fun e w' => ∃ g c y0 y1, e = .returned (.slice (some ⟨g, 0, none⟩) 2 c) ∧ Hid (QS w b G ⟨es6 p0 p1 p2 m c0 c1 c2, 8, mg1 m⟩ w' ∧ w'.ownsRow W.heap.size 45 12 (.slice (some ⟨g, 0, none⟩) 2 c) 2 (flatF CZ.cells [y0, y1]) ∧ y0.a = 5 ∧ y1.a = 6 ∧ ∀ i, G.O i → i < W.heap.size) := by
  obtain ⟨hq, h0, h1, h2, h5, h6⟩ := h
  refine (Take_qs hq 0 25 (by decide)).mono ?_
  rintro e w' ⟨⟨s1, s2, s3⟩, ys, rfl, hh⟩
  obtain ⟨ht, hq2⟩ := hh.out
  have hm := (awake_math (p0 := p0) (p1 := p1) (p2 := p2) (m := m) (m0 := m) (m1 := m) (m2 := m) h0 h1 h2 (mg1 m)).1
  unfold tkQ at hq2
  have hm' : takeQ ⟨es3 p0 p1 p2 m c0 c1 c2, 8, mg1 m⟩ 0 25 = (es6 p0 p1 p2 m c0 c1 c2, [c0, c1]) := hm
  rw [hm'] at ht hq2
  have hrow := ht.row
  have hct := ht.ct
  have hyl : ys.length = 2 := by have := congrArg List.length hct; simpa using this
  obtain ⟨y0, y1, rfl⟩ := len2 hyl
  have hs2 : s2 = 2 := by
    have h3 := hrow.1
    rw [flatF_len CZ.len] at h3
    dsimp only at h3
    simp at h3
    omega
  subst hs2
  obtain ⟨g, hg, _⟩ := own_row_at hrow (by simp [flatF, CZ.cells])
  dsimp only at hg hrow
  subst hg
  simp only [List.map_cons, List.map_nil, List.cons.injEq, and_true] at hct
  exact ⟨g, s3, y0, y1, rfl, keep ⟨hq2, hrow, (congrArg Ct.a hct.1).trans h5, (congrArg Ct.a hct.2).trans h6, hq.qa.olt⟩⟩
theorem aw_ack {w W : World} {b : Nat} {G : Gq} {p0 p1 p2 m : Nat} {c0 c1 c2 : CZ} (h : QS w b G ⟨es6 p0 p1 p2 m c0 c1 c2, 8, mg1 m⟩ W) (h0 : c0.da.2.1 = 10) (h1 : c1.da.2.1 = 10) (h2 : c2.da.2.1 = 10) :
    Calls Try.prog 13 #[.pointer (some ⟨b, 0, none⟩), .int .u32 5, .slice none 0 0, .int .i64 40] W fun e w' => e = .returned (.tuple #[.agg #[.int .i64 10, .int .i64 40, .bool false, .bool true], .bool true]) ∧ ∃ G' q', Hid (QS w b G' q' w' ∧ flr q' = 5 ∧ q'.es.length = 2 ∧ Part G.O W w') := by
  obtain ⟨_, m2, m3, m4, m5⟩ := awake_math (p0 := p0) (p1 := p1) (p2 := p2) (m := m) (m0 := m) (m1 := m) (m2 := m) h0 h1 h2 (mg1 m)
  refine (Ack_qs h 5 40 (by decide) (none, 0, 0) [] ⟨rfl, Nat.le_refl _, SR.nil _ _⟩ (.inr rfl) (Nat.zero_le _) (fun x hx => by cases hx) m2).mono ?_
  rintro e w' ⟨rfl, hh⟩
  refine ⟨?_, _, _, keep ⟨hh.out.1, m4, m5, hh.out.2⟩⟩
  rw [show ackR ⟨es6 p0 p1 p2 m c0 c1 c2, 8, mg1 m⟩ 5 [] 40 = ⟨10, 40, false, true⟩ from m3]
  rfl
theorem Floor_qs {w W : World} {b : Nat} {G : Gq} {q : Qm} (h : QS w b G q W) {f : Int} (hf : flr q = f) : Calls Try.prog 14 #[.pointer (some ⟨b, 0, none⟩)] W fun e w' => e = .returned (.int .u32 f) ∧ Hid (Below W.heap.size W w') := by
  have hb := h.gb
  subst hb hf
  refine (Floor_any h.qa).mono ?_
  rintro e w' ⟨rfl, k, rfl⟩
  exact ⟨rfl, keep (below_drewN (Below.refl _ W) k)⟩
theorem Len_qs {w W : World} {b : Nat} {G : Gq} {q : Qm} (h : QS w b G q W) {n : Nat} (hn : q.es.length = n) : Calls Try.prog 15 #[.pointer (some ⟨b, 0, none⟩)] W fun e w' => e = .returned (.int .i64 (n : Int)) ∧ W = w' := by
  have hb := h.gb
  subst hb hn
  exact Len_any h.qa
theorem aw_cells {W w6 w7 : World} {G : Gq} {g c : Nat} {y0 y1 : CZ} (hr : w6.ownsRow W.heap.size 45 12 (.slice (some ⟨g, 0, none⟩) 2 c) 2 (flatF CZ.cells [y0, y1])) (h0 : y0.a = 5) (h1 : y1.a = 6) (hO : ∀ i, G.O i → i < W.heap.size) (hp : Part G.O w6 w7) (o : Obj) :
    (w7.alloc o).cell? ⟨g, 2, none⟩ = some (.int .u32 5) ∧ (w7.alloc o).cell? ⟨g, 14, none⟩ = some (.int .u32 6) := by
  have h2 := own_step (hp.own hr fun k hk hc => by have := (hr.lt k hk).1; have := hO _ hc; omega) (below_lay w7 o)
  obtain ⟨g', e, _, h3, _⟩ := own_row_at h2 (by simp [flatF, CZ.cells])
  injection e with e
  injection e with e
  subst e
  exact ⟨h3 2 _ (by rw [← h0]; rfl), h3 14 _ (by rw [← h1]; rfl)⟩
set_option maxRecDepth 100000 in
set_option maxHeartbeats 1000000 in
theorem awake_any (w : World) : Calls Try.prog 4 #[] w fun e w' => e = .returned (.bool true) ∧ Below w.heap.size w w' := by
  have KN := keep (New_qs (w := w) (W := w) 5 (by decide) (Below.refl _ _))
  have KP := keep (fun W => piece_lit 10 (by decide) 10 rfl W)
  go_enter Try.func4, Try.ntmps4
  go_wp2_with (first
    | (go_at_call 6; refine KN.out.mono ?_; rintro e w1 ⟨rfl, hq1⟩)
    | (go_at_call 11
       first
       | (have _ := hz3; refine (KP.out _).mono ?_; rintro e w4 ⟨rfl, hz4, _, hb4⟩
          have KU := keep (aw_push hq1.out hz2.out hb2.out hz3.out hb3.out hz4.out hb4.out))
       | (have _ := hz2; refine (KP.out _).mono ?_; rintro e w3 ⟨rfl, hz3, _, hb3⟩)
       | (refine (KP.out _).mono ?_; rintro e w2 ⟨rfl, hz2, _, hb2⟩))
    | (go_at_call 10; refine KU.out.mono ?_; rintro e w5 ⟨rfl, G, p0, p1, p2, m, c0, c1, c2, H5⟩)
    | (go_at_call 12; refine (aw_take H5.out).mono ?_; rintro e w6 ⟨g, c, y0, y1, rfl, H6⟩)
    | (go_at_call 13; refine (aw_ack H6.out.1 H5.out.2.1 H5.out.2.2.1 H5.out.2.2.2.1).mono ?_; rintro e w7 ⟨rfl, G', q', H7⟩
       obtain ⟨x5, x6⟩ := aw_cells H6.out.2.1 H6.out.2.2.1 H6.out.2.2.2.1 H6.out.2.2.2.2 H7.out.2.2.2 (.cells #[.int .i64 10, .int .i64 40, .bool false, .bool true] 49)
       have H8 := keep (H7.out.1.step (below_lay w7 (.cells #[.int .i64 10, .int .i64 40, .bool false, .bool true] 49))))
    | (go_at_call 14; refine (Floor_qs H8.out H7.out.2.1).mono ?_; rintro e w9 ⟨rfl, hb9⟩)
    | (go_at_call 15; refine (Len_qs (H8.out.step hb9.out) H7.out.2.2.1).mono ?_; rintro e w10 ⟨rfl, rfl⟩))
  go_ret
  exact ⟨rfl, (H8.out.step hb9.out).bl⟩
end
section
open Go.RowKit Go.Maps

theorem take_told {now : Int} {n : Nat} : ∀ (k i : Nat) (es : List En) (r : Int) (t : List CZ), (∀ c ∈ t, ∃ (j : Nat) (e : En), es[j]? = some e ∧ e.c = c ∧ e.st = 1) → ∀ c ∈ (takeGo now n k i es r t).2, ∃ (j : Nat) (e : En), (takeGo now n k i es r t).1[j]? = some e ∧ e.c = c ∧ e.st = 1
  | 0, i, es, r, t, h => h
  | k + 1, i, es, r, t, h => by
    cases he : es[ixD n i]? with
    | none =>
      have : takeGo now n (k + 1) i es r t = (es, t) := by rw [takeGo, he]
      rw [this]
      exact h
    | some e =>
      by_cases hs : e.st = phD n i
      · by_cases hr : r < (e.c.da.2.1 : Int)
        · rw [takeGo_full he hs hr]
          exact h
        · rw [takeGo_yes he hs hr]
          refine take_told k (i + 1) _ _ _ (fun c hc => ?_)
          have hl := (List.getElem?_eq_some_iff.1 he).1
          rcases List.mem_append.1 hc with hc | hc
          · obtain ⟨j, e', h1, h2, h3⟩ := h c hc
            have hne : ixD n i ≠ j := fun hj => by
              subst hj
              rw [he] at h1
              injection h1 with h1
              subst h1
              rw [h3] at hs
              unfold phD at hs
              split at hs <;> exact absurd hs (by decide)
            exact ⟨j, e', by rw [List.getElem?_set, if_neg hne]; exact h1, h2, h3⟩
          · rw [List.mem_singleton.1 hc]
            exact ⟨ixD n i, sendE now e, by rw [List.getElem?_set, if_pos rfl, if_pos hl], rfl, rfl⟩
      · rw [takeGo_no he hs]
        exact take_told k (i + 1) es r t h
theorem State_qs {w W : World} {b : Nat} {G : Gq} {q : Qm} (h : QS w b G q W) (n : Int) : Calls Try.prog 27 #[.pointer (some ⟨b, 0, none⟩), .int .u32 n] W fun e w' => e = .returned (stOut (stI q n)) ∧ ∃ k, w' = W.drewN k := by
  have hb := h.gb
  subst hb
  exact State_any h.qa n
theorem take_flr {q : Qm} (now room : Int) : flr (tkQ q now room) = flr q ∧ (tkQ q now room).es.length = q.es.length := by
  have h := (take_a (q.es.length + q.es.length) q.es.length now 0 q.es room []).2
  have h2 : (tkQ q now room).es.length = q.es.length := h
  refine ⟨?_, h2⟩
  unfold flr
  rw [h2]
  rfl
/-- What is told flies, and has not been reached. -/
theorem told_state {q : Qm} (hn : Nums q) (hle : q.es.length ≤ 1024) {i : Nat} {e : En} (he : q.es[i]? = some e) : stI q e.c.a = some e ∧ less32 (flr q) e.c.a = true := by
  have hi := (List.getElem?_eq_some_iff.1 he).1
  have hd : dist32 (flr q) e.c.a = ((i + 1 : Nat) : Int) := dist_of _ _ (i + 1) (by omega) (by rw [hn i e he]; congr 1; omega)
  have hs : stp q e.c.a = i + 1 := by
    unfold stp
    rw [hd, if_pos (by omega)]
    omega
  refine ⟨?_, ?_⟩
  · unfold stI
    rw [hs, if_neg (by omega), Nat.add_sub_cancel, he]
  · unfold less32 lessI
    rw [decide_eq_true_eq]
    have : dist 4294967296 (flr q) e.c.a = ((i + 1 : Nat) : Int) := hd
    omega
theorem take_len {now : Int} {n : Nat} : ∀ (k i : Nat) (es : List En) (r : Int) (t : List CZ), (takeGo now n k i es r t).2.length ≤ t.length + k
  | 0, i, es, r, t => Nat.le_refl _
  | k + 1, i, es, r, t => by
    rw [takeGo]
    split
    · exact Nat.le_add_right _ _
    · split
      · split
        · exact Nat.le_add_right _ _
        · have := take_len (now := now) (n := n) k (i + 1) (es.set (ixD n i) (sendE now ‹En›)) (r - (‹En›.c.da.2.1 : Int)) (t ++ [‹En›.c])
          rw [List.length_append, List.length_singleton] at this
          omega
      · have := take_len (now := now) (n := n) k (i + 1) es r t
        omega
theorem fl_take {w W : World} {b : Nat} {G : Gq} {q : Qm} (h : QS w b G q W) (now room : Int) (hr : room < 9223372036854775808) : Calls Try.prog 12 #[.pointer (some ⟨b, 0, none⟩), .int .i64 now, .int .i64 room] W fun e w' => ∃ t1 n c q', e = .returned (.slice t1 n c) ∧ Hid (n ≤ 2048) ∧ Hid (QS w b G q' w' ∧ flr q' = flr q ∧ q'.es.length = q.es.length) ∧ Hid (∀ i, i < n → ∃ go o a, t1 = some ⟨go, o, none⟩ ∧ w'.cell? ⟨go, o + i * 12 + 2, none⟩ = some (.int .u32 a) ∧ less32 (flr q) a = true ∧ ∃ e, stI q' a = some e ∧ e.st = 1) := by
  refine (Take_qs h now room hr).mono ?_
  rintro e w' ⟨⟨t1, t2, t3⟩, ys, rfl, hh⟩
  obtain ⟨ht, hq2⟩ := hh.out
  obtain ⟨f1, f2⟩ := take_flr (q := q) now room
  have hn2 : t2 ≤ 2048 := by
    have h1 := take_len (now := now) (n := q.es.length) (q.es.length + q.es.length) 0 q.es room []
    have h2 := congrArg List.length ht.ct
    rw [List.length_map, List.length_map] at h2
    have h3 := ht.row.1
    rw [flatF_len CZ.len] at h3
    dsimp only at h3
    have h4 := h.qa.le
    have h5 : (takeQ q now room).2.length ≤ 0 + (q.es.length + q.es.length) := h1
    omega
  refine ⟨t1, t2, t3, tkQ q now room, rfl, keep hn2, keep ⟨hq2, f1, f2⟩, keep fun i hi => ?_⟩
  have hzs : ZS w' (t1, t2, t3) ys := ⟨LR.of_own CZ.len (by decide) ht.row, fun y hy => (ht.zs y hy).1⟩
  obtain ⟨go, o, x, e1, _, e3, e4, _⟩ := hzs.at_ (j := i) hi
  have hct := congrArg (fun l => l[i]?) ht.ct
  rw [List.getElem?_map, e4, List.getElem?_map] at hct
  cases hx : (takeQ q now room).2[i]? with
  | none => rw [hx] at hct; cases hct
  | some c =>
    rw [hx] at hct
    injection hct with hct
    have ha : x.a = c.a := congrArg Ct.a hct
    obtain ⟨j, e, g1, g2, g3⟩ := take_told (now := now) (n := q.es.length) (q.es.length + q.es.length) 0 q.es room [] (fun c hc => by cases hc) c (List.mem_of_getElem? hx)
    obtain ⟨k1, k2⟩ := told_state (q := tkQ q now room) hq2.nu hq2.qa.le (i := j) (e := e) g1
    rw [f1] at k2
    refine ⟨go, o, x.a, e1, e3.2.2.1, ?_, e, ?_, g3⟩
    · rw [ha, ← g2]
      exact k2
    · rw [ha, ← g2]
      exact k1
theorem ackE_len (q : Qm) (cum : Int) (bl : List (Int × Int)) : (ackE q cum bl).length = q.es.length - stp q cum := by
  have h1 : (midL q cum bl).length = q.es.length - stp q cum := by unfold midL leftL; rw [List.length_mapIdx, List.length_drop]
  unfold ackE
  split
  · exact h1
  · rw [List.length_mapIdx, h1]
theorem ack_floor {q : Qm} {cum : Int} (hc : 0 ≤ cum ∧ cum < 4294967296) (bl : List (Int × Int)) (hre : reachedB q cum = true) : flr (ackQ q cum bl) = cum ∧ dist32 (flr q) cum = ((q.es.length - (ackQ q cum bl).es.length : Nat) : Int) ∧ (ackQ q cum bl).es.length ≤ q.es.length := by
  have h1 := reached_flr (q := q) (cum := cum) hc hre
  have hl := ackE_len q cum bl
  have hs := stp_le q cum
  have h2 : flr (ackQ q cum bl) = flr (cutQ q (stp q cum)) := by
    unfold flr
    show (q.nx - ((ackE q cum bl).length : Int) - 1) % 4294967296 = (q.nx - ((q.es.drop (stp q cum)).length : Int) - 1) % 4294967296
    rw [hl, List.length_drop]
  have h3 : (ackQ q cum bl).es.length = q.es.length - stp q cum := hl
  refine ⟨h2.trans h1, ?_, by omega⟩
  rw [h3, show q.es.length - (q.es.length - stp q cum) = stp q cum by omega]
  rw [cut_flr q _ hs] at h1
  refine dist_of _ _ _ ?_ h1.symm
  have h4 : (stp q cum : Int) ≤ dist32 (flr q) cum := by
    unfold stp
    have := dist32_lo (flr q) cum
    split <;> omega
  have := dist32_hi (flr q) cum
  omega
theorem fl_ack {w W : World} {b : Nat} {G : Gq} {q : Qm} (h : QS w b G q W) (cum now : Int) (hcum : 0 ≤ cum ∧ cum < 4294967296) (s0 : SL) (bl : List (Int × Int)) (hl : LR blC w s0 bl) (hn : s0.2.1 ≤ 1000000) (hok : BlOK bl) (hre : reachedB q cum = true) :
    Calls Try.prog 13 #[.pointer (some ⟨b, 0, none⟩), .int .u32 cum, .slice s0.1 s0.2.1 s0.2.2, .int .i64 now] W fun e w' => ∃ by_ sa lo mo, e = .returned (.tuple #[.agg #[.int .i64 by_, .int .i64 sa, .bool lo, .bool mo], .bool true]) ∧ ∃ G', Hid (QS w b G' (ackQ q cum bl) w' ∧ Part G.O W w' ∧ ∀ i, G'.O i ↔ G.O i) ∧ Hid (∀ i, G'.F i ↔ G.F i) := by
  have hap : InF (fun k => W.heap.size ≤ k ∨ k < w.heap.size) s0.1 ∨ bl = [] := by
    by_cases h0 : bl = []
    · exact .inr h0
    · left
      intro a ea
      have hne : flatF blC bl ≠ [] := by
        intro h1
        have h2 := flatF_len blC_len bl
        rw [h1] at h2
        have : bl.length ≠ 0 := fun h => h0 (List.eq_nil_of_length_eq_zero h)
        simp at h2
        omega
      obtain ⟨b5, o5, e1, e2, _⟩ := hl.2.2 hne
      rw [ea] at e1
      injection e1 with e1
      rw [e1]
      exact .inr e2
  refine (Ack_qs h cum now hcum s0 bl (hl.kept (ok := fun _ => True) (Kpt.of_below h.bl) (InF.all _)) hap hn hok hre).mono ?_
  rintro e w' ⟨rfl, hh⟩
  exact ⟨_, _, _, _, rfl, _, keep ⟨hh.out.1, hh.out.2, fun i => Iff.rfl⟩, keep fun i => Iff.rfl⟩
theorem fl_ack2 {w W : World} {b : Nat} {G : Gq} {q : Qm} (h : QS w b G q W) (cum now : Int) (hcum : 0 ≤ cum ∧ cum < 4294967296) (s0 : SL) (bl : List (Int × Int)) (hl : LR blC w s0 bl) (hn : s0.2.1 ≤ 1000000) (hok : BlOK bl) (hre : reachedB q cum = true) :
    Calls Try.prog 13 #[.pointer (some ⟨b, 0, none⟩), .int .u32 cum, .slice s0.1 s0.2.1 s0.2.2, .int .i64 now] W fun e w' => ∃ by_ sa lo mo G' q' d, e = .returned (.tuple #[.agg #[.int .i64 by_, .int .i64 sa, .bool lo, .bool mo], .bool true]) ∧ Hid (QS w b G' q' w' ∧ Part G.O W w' ∧ ∀ i, G'.O i ↔ G.O i) ∧ Hid (∀ i, G'.F i ↔ G.F i) ∧ Hid (flr q' = cum ∧ dist32 (flr q) cum = ((d : Nat) : Int) ∧ q.es.length = q'.es.length + d) := by
  obtain ⟨a1, a2, a3⟩ := ack_floor (q := q) hcum bl hre
  refine (fl_ack h cum now hcum s0 bl hl hn hok hre).mono ?_
  rintro e w' ⟨by_, sa, lo, mo, rfl, G', h1, h2⟩
  exact ⟨by_, sa, lo, mo, G', _, _, rfl, h1, h2, keep ⟨a1, a2, (Nat.add_sub_of_le a3).symm⟩⟩
theorem fl_no {w W : World} {b : Nat} {G : Gq} {q : Qm} (h : QS w b G q W) (cum now : Int) (s0 : SL) (hre : reachedB q cum = false) : Calls Try.prog 13 #[.pointer (some ⟨b, 0, none⟩), .int .u32 cum, .slice s0.1 s0.2.1 s0.2.2, .int .i64 now] W fun e w' => e = .returned ackNone ∧ Hid (QS w b G q w' ∧ Below W.heap.size W w') := by
  have hb := h.gb
  subst hb
  refine (Ack_no h.qa cum now s0 hre).mono ?_
  rintro e w' ⟨rfl, h1⟩
  exact ⟨rfl, keep ⟨h.step h1, h1⟩⟩
end
section
open Go.RowKit

theorem and_i64 (i : Int) (k : Nat) (hk : k ≤ 32) : bits .and .i64 i ((2 ^ k - 1 : Nat) : Int) = i % ((2 ^ k : Nat) : Int) := by
  have hp : 2 ^ k ≤ 2 ^ 32 := Nat.pow_le_pow_right (by omega) hk
  have hq : 0 < 2 ^ k := Nat.two_pow_pos k
  have h2 : (BitVec.ofInt 64 ((2 ^ k - 1 : Nat) : Int)).toNat = 2 ^ k - 1 := by
    rw [BitVec.ofInt_natCast, BitVec.toNat_ofNat]; exact Nat.mod_eq_of_lt (by omega)
  show IntKind.i64.wrap ((BitVec.ofInt 64 i &&& BitVec.ofInt 64 ((2 ^ k - 1 : Nat) : Int)).toNat : Int) = _
  rw [BitVec.toNat_and, h2, Nat.and_two_pow_sub_one_eq_mod, BitVec.toNat_ofInt]
  have hd : ((2 ^ k : Nat) : Int) ∣ ((2 ^ 64 : Nat) : Int) := by
    refine Int.natCast_dvd_natCast.2 (Nat.pow_dvd_pow 2 (by omega))
  have h3 : (((i % ((2 ^ 64 : Nat) : Int)).toNat % 2 ^ k : Nat) : Int) = i % ((2 ^ k : Nat) : Int) := by
    rw [Int.natCast_emod, Int.toNat_of_nonneg (Int.emod_nonneg _ (by decide))]
    exact Int.emod_emod_of_dvd i hd
  rw [h3]
  have h4 := Int.emod_nonneg i (show ((2 ^ k : Nat) : Int) ≠ 0 by omega)
  have h5 := Int.emod_lt_of_pos i (show (0 : Int) < ((2 ^ k : Nat) : Int) by omega)
  have : ((2 ^ k : Nat) : Int) ≤ 4294967296 := by omega
  generalize i % ((2 ^ k : Nat) : Int) = r at *
  simp [IntKind.wrap, IntKind.signed, IntKind.bits]
  omega
theorem and255 (i : Int) : ∃ k : Nat, bits .and .i64 i 255 = (k : Int) ∧ k < 256 := by
  have h := and_i64 i 8 (by decide)
  refine ⟨(i % 256).toNat, h.trans ?_, by omega⟩
  show i % 256 = _
  omega
theorem and65535 (i : Int) : ∃ k : Nat, bits .and .i64 i 65535 = (k : Int) ∧ k < 65536 := by
  have h := and_i64 i 16 (by decide)
  refine ⟨(i % 65536).toNat, h.trans ?_, by omega⟩
  show i % 65536 = _
  omega
end
section
open Go.ChangeShapes Go.WideShapes Go.ChangeAt Go.RowKit

/-- The slice at A, of n and room for c, reads as the numbers zs. -/
def NS (k : IntKind) (w : World) (A : Option Addr) (n c : Nat) (zs : List Int) : Prop := n = zs.length ∧ n ≤ c ∧ SR w A (zs.map (.int k)) ∧ ∀ z ∈ zs, (Lit.int k z).wf = true
theorem NS.step {k : IntKind} {w w' : World} {A : Option Addr} {n c : Nat} {zs : List Int} (h : NS k w A n c zs) (hb : Below w.heap.size w w') : NS k w' A n c zs := ⟨h.1, h.2.1, h.2.2.1.step hb, h.2.2.2⟩
theorem NS.at_ {k : IntKind} {w : World} {A : Option Addr} {n c : Nat} {zs : List Int} (h : NS k w A n c zs) {j : Nat} (hj : j < n) :
    ∃ b o z, A = some ⟨b, o, none⟩ ∧ b < w.heap.size ∧ w.cell? ⟨b, o + j, none⟩ = some (.int k z) ∧ zs[j]? = some z ∧ (Lit.int k z).wf = true := by
  have hl : j < zs.length := by have := h.1; omega
  obtain ⟨b, o, e, hlt, hc⟩ := h.2.2.1.at_ (j := j) (by simpa using hl)
  exact ⟨b, o, zs[j], e, hlt, by simpa using hc, List.getElem?_eq_getElem hl, h.2.2.2 _ (List.getElem_mem hl)⟩

theorem open_nums {k : IntKind} {H : Type} {enc : TypeId × Value → H} {P : Program} {W : World} {base : Nat} {held : Bool} {t e : TypeId} (ht : P.underlying t = some (.slice e)) (he : P.underlying e = some (.int k)) (hc : P.cellsOf e = 1)
    {a : Option Addr} {n c : Nat} {d : DataW H} {p : List MemPlace} (h : DataW.Trod enc P W base (fun _ => true) held t (.slice a n c) d p) :
    ∃ zs, NS k W a n c zs := by
  obtain ⟨fuel, hf⟩ := h
  rcases open_ints ht he hc hf with ⟨hcs, hx⟩ | ⟨x, l, c', zs, hcs, _, hl, hm, hz, hx, hcell, hwz⟩
  · simp [Value.cells] at hcs
    obtain ⟨rfl, rfl, rfl⟩ := hcs
    exact ⟨[], rfl, Nat.le_refl _, SR.nil _ _, by simp⟩
  · simp [Value.cells] at hcs
    obtain ⟨rfl, rfl, rfl⟩ := hcs
    have hz' : zs.length = c := by simpa using hz
    refine ⟨zs.take n, by simp; omega, hl, fun hne => ?_, fun z hzm => hwz z (List.mem_of_mem_take hzm)⟩
    have hn : 0 < n := by
      rcases Nat.eq_zero_or_pos n with h0 | h0
      · subst h0; simp at hne
      · exact h0
    obtain ⟨b, o, spot⟩ := x
    have hc0 := hcell 0 (by omega)
    have hspot : spot = none := by simpa [Addr.add] using World.cell?_spot hc0
    subst hspot
    rw [Addr.add_lit] at hc0
    refine ⟨b, o, rfl, World.block_lt_of_cell? W _ hc0, fun j u hu => ?_⟩
    rw [List.getElem?_map] at hu
    have hj : j < n := by
      rcases Nat.lt_or_ge j n with h0 | h0
      · exact h0
      · rw [List.getElem?_eq_none (by simp; omega)] at hu; cases hu
    rw [List.getElem?_take, if_pos hj, List.getElem?_eq_getElem (by omega)] at hu
    have hcj := hcell j (by omega)
    rw [Addr.add_lit] at hcj
    rw [hcj]
    simp only [Option.map_some, Option.some.injEq] at hu
    rw [← hu]
    simp [List.getD, List.getElem?_eq_getElem (show j < zs.length by omega)]
end
end Go.Proofs.Ytffjdknmfmlfnaa
