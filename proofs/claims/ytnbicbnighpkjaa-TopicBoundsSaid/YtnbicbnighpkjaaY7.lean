/- Package topic: what the mode of a subscription does where there is no room. -/
import Derived.Test.YtnbicbnighpkjaaY6
import Derived.IntWalk
namespace Go.Proofs.Ytnbicbnighpkjaa
open Go.RowKit Go.Maps
set_option linter.unusedVariables false

theorem upd_cell {cs : Array Value} {t : TypeId} {w : World} {b : Nat} {fr : Nat × Nat} (h : w.heap[b]? = some (.cells cs t fr)) (j : Nat) (v : Value) (hv : cs[j]? = some v) : w.cell? ⟨b, j, none⟩ = some v := by rw [cell_of_row _ _ _ _ _ _ h]; exact hv
theorem upd_fz {cs : Array Value} {t : TypeId} {w : World} {b : Nat} (h : w.heap[b]? = some (.cells cs t (0, 0))) (j : Nat) : w.frozen? ⟨b, j, none⟩ = false := by simp [World.frozen?, h]
/-- What a call of a party's leaves. -/
def MP (lo n : Nat) (ow : Ow) (W : World) (m : Gm) (y : Pt) (W' : World) : Prop := ∃ ow' m', MA lo ow' n m' W' ∧ Ok lo ow' W' ∧ Ext W ow ow' ∧ Part (Of ow n) W W' ∧ m'.b = m.b ∧ m'.pt = y
theorem ix_it (s : ByteArray) (l : List Iv) : (l.map Iv.it).findIdx (fun y => sq y.tp s) = l.findIdx (ofT s) := by
  induction l with
  | nil => rfl
  | cons x r ih =>
    rw [List.map_cons, List.findIdx_cons, List.findIdx_cons, ih]
    rfl
theorem er_it (l : List Iv) (i : Nat) : (l.eraseIdx i).map Iv.it = (l.map Iv.it).eraseIdx i := by
  induction l generalizing i with
  | nil => rfl
  | cons x r ih =>
    cases i with
    | zero => rfl
    | succ i => simp only [List.map_cons, List.eraseIdx_cons_succ, ih]
theorem fl_it (l : List Iv) (s : ByteArray) : (keepT s l).map Iv.it = (l.map Iv.it).filter fun y => !sq y.tp s := by
  unfold keepT
  rw [List.filter_map]
  rfl
section
variable {lo n : Nat} {ow : Ow} {m : Gm} {W : World}
theorem MA.ir (h : MA lo ow n m W) (hne : m.ws ≠ []) : ∃ g, m.v.1 = some ⟨g, 0, none⟩ ∧ IR g m.v.2.2 m.ws W ∧ m.v.2.1 = m.ws.length ∧ lo ≤ g ∧ m.v.2.2 ≤ maxLen := by
  have hv := h.vlen
  rcases h.wt.2 with ⟨h0, h1⟩ | ⟨g, cap, cur, hw, _⟩
  · exact absurd (List.length_eq_zero_iff.1 h1) hne
  · unfold Gm.sl at hw
    injection hw with e1 e2 e3
    have h2 := h.wt
    unfold Gm.sl at h2
    rw [e1, hv] at h2
    obtain ⟨r1, r2, r3, r4, r5⟩ := IR.of_own h2
    exact ⟨g, e1, r1, hv, r5, r4⟩
set_option maxHeartbeats 4000000 in
set_option maxRecDepth 100000 in
theorem makeRoom_any (h : MA lo ow n m W) (ho : Ok lo ow W) (hlo : lo ≤ W.heap.size) {t : ByteArray} {x : Gs} (hx : m.f t = some x) (hl : m.lost + 1 ≤ 1000000) :
    Calls Try.prog 51 #[ptr m.b, ptr x.b, .string t] W fun e w' => e = .returned (.bool (fullB m.pt t x.m)) ∧ MP lo n ow W m (fullP m.pt t x.m) w' := by
  obtain ⟨hxb, hxo, hxm⟩ := h.sb t x hx
  have hB1 := below_lay W (.cells #[.string t] 9)
  have h1 := h.step hB1
  have ho1 := ho.step hB1.size
  have hxb1 : (W.alloc (.cells #[.string t] 9)).heap[x.b]? = some (.cells #[.int .i64 x.m, .bool x.fl] 81 (0, 0)) := (hB1.block _ (h.lts hx)).trans hxb
  have c0 := upd_cell hxb1 0 _ rfl
  have c1 := upd_cell hxb1 1 _ rfl
  have fx := upd_fz hxb1 1
  have hP1 := Part.of_below (Of ow n) hB1
  by_cases hm0 : x.m = 0
  · have e1 : fullB m.pt t x.m = false := by unfold fullB; rw [if_pos hm0]
    rw [e1]
    obtain ⟨r1, r2, r3⟩ := h1.fail ho1 hx
    have HF := keep (show MP lo n ow W m (fullP m.pt t x.m) ((W.alloc (.cells #[.string t] 9)).setCell ⟨x.b, 1, none⟩ (.bool true)) from ⟨ow, _, r1, r2, Ext.refl W ow, hP1.trans r3 fun i hi => .inl hi, rfl, by
      unfold fullP Gm.pt
      rw [if_pos hm0]
      congr 1
      funext s
      unfold putF
      by_cases e : s = t
      · simp only [if_pos e]
        rfl
      · simp only [if_neg e]⟩)
    rw [hm0] at c0
    obtain ⟨xb, xm, xf⟩ := x
    dsimp only at c0 c1 fx HF ⊢
    clear e1 r1 r2 r3 hP1 h1 h ho ho1 hxb hxb1 hB1 hx hxo hxm hm0
    unfold ptr
    go_enter Try.func51, Try.ntmps51
    go_wp2_with fail
    go_ret
    exact ⟨rfl, HF.out⟩
  have hz0 : (x.m == 0) = false := by simpa using hm0
  obtain ⟨r1, r2, r3⟩ := h1.lose ho1 hl
  obtain ⟨d0, d1, d2⟩ := h1.c0
  have fm := h1.fz 2
  have hw1 : IntKind.i64.wrap ((m.lost : Int) + 1) = (m.lost : Int) + 1 := IntWalk.i64_in _ (by omega)
  by_cases hm1 : x.m = 1
  · have e1 : fullB m.pt t x.m = false := by unfold fullB; rw [if_neg hm0, if_pos hm1]
    rw [e1]
    have HF := keep (show MP lo n ow W m (fullP m.pt t x.m) ((W.alloc (.cells #[.string t] 9)).setCell ⟨m.b, 2, none⟩ (.int .i64 ((m.lost : Int) + 1))) from ⟨ow, _, r1, r2, Ext.refl W ow, hP1.trans r3 fun i hi => .inl hi, rfl, by
      unfold fullP Gm.pt
      rw [if_neg hm0, if_pos hm1]⟩)
    have hne := tag_ne hxo h.ob (by simp)
    have hlost : (m.lost : Int) + 1 ≤ 1000000 := by omega
    obtain ⟨xb, xm, xf⟩ := x
    obtain ⟨mb, mk, mc, mf, ⟨A, vn, vc⟩, ws, lost⟩ := m
    unfold Gm.sl at d1
    dsimp only at c0 c1 d0 d1 d2 fm HF hm1 hlost hne hw1 ⊢
    rw [hm1] at c0
    clear e1 r1 r2 r3 hP1 h1 h ho ho1 hxb hxb1 hB1 hx hxo hxm hm0 hz0 hl hm1
    unfold ptr
    go_enter Try.func51, Try.ntmps51
    go_wp2_with fail
    go_ret
    exact ⟨rfl, HF.out⟩
  have hz1 : (x.m == 1) = false := by simpa using hm1
  have hne := tag_ne hxo h.ob (by simp)
  have hlost : (m.lost : Int) + 1 ≤ 1000000 := by omega
  obtain ⟨W2, hW2⟩ : ∃ W2, W2 = (W.alloc (.cells #[.string t] 9)).setCell ⟨m.b, 2, none⟩ (.int .i64 ((m.lost : Int) + 1)) := ⟨_, rfl⟩
  rw [← hW2] at r1 r2 r3
  have hB2 : W.heap.size < W2.heap.size := Nat.lt_of_lt_of_le (by simp) r3.size
  have hBo : ow W.heap.size = none := ho.free (Nat.le_refl _)
  have hcB : W2.cell? ⟨W.heap.size, 0, none⟩ = some (.string t) := by
    rw [World.cell?_of_block (w := W.alloc (.cells #[.string t] 9)) (a := ⟨W.heap.size, 0, none⟩) (r3.block W.heap.size (by simp) fun ⟨u, hu, _⟩ => by rw [hBo] at hu; cases hu)]
    simp
  have hwl := h.wl
  have hvl := h.vlen
  have KI := keep (indexM_any m.v.1 m.v.2.1 m.v.2.2 m.ws t W.heap.size W2 (IS.of_own (e := 49) (base := lo) (c := m.v.2.2) (by have := r1.wt; unfold Gm.sl at this; dsimp only at this; rw [← hvl] at this; exact this)) hB2 hcB (by omega))
  by_cases hf : m.ws.findIdx (ofT t) < m.ws.length
  case neg =>
    have e1 : fullB m.pt t x.m = false := by
      unfold fullB
      rw [if_neg hm0, if_neg hm1]
      apply decide_eq_false
      unfold Gm.pt
      dsimp only
      rw [ix_it, List.length_map]
      exact hf
    have e2 : ixT t m.ws = -1 := by unfold ixT; rw [if_neg hf]
    rw [e1]
    have KI2 := KI.out
    rw [e2] at KI2
    clear KI
    have KI := keep KI2
    have HF := keep (show ∀ W3, Below W2.heap.size W2 W3 → MP lo n ow W m (fullP m.pt t x.m) W3 from fun W3 hb => ⟨ow, _, r1.step hb, r2.step hb.size, Ext.refl W ow, (hP1.trans r3 fun i hi => .inl hi).trans (Part.of_below (Of ow n) hb) fun i hi => .inl hi, rfl, by
      unfold fullP Gm.pt
      rw [if_neg hm0, if_neg hm1]
      dsimp only
      rw [ix_it, List.eraseIdx_of_length_le (by rw [List.length_map]; omega)]⟩)
    have d1' : W2.cell? ⟨m.b, 1, none⟩ = some m.sl := r1.c0.2.1
    have c0' : W2.cell? ⟨x.b, 0, none⟩ = some (.int .i64 x.m) := by rw [hW2, World.cell?_setCell_other _ _ _ _ (by intro e; injection e with e; exact hne e.symm)]; exact c0
    have HW2 := keep hW2
    obtain ⟨xb, xm, xf⟩ := x
    obtain ⟨mb, mk, mc, mf, ⟨A, vn, vc⟩, ws, lost⟩ := m
    unfold Gm.sl at d1 d1'
    dsimp only at c0 c1 c0' d0 d1 d1' d2 fm HF KI hz0 hz1 HW2 hlost hne hw1 hW2 ⊢
    clear e1 e2 r1 r2 r3 hP1 h1 h ho ho1 hxb hxb1 hB1 hx hxo hxm hm0 hl hm1 KI2 hf hwl hvl hcB hBo hW2
    unfold ptr
    go_enter Try.func51, Try.ntmps51
    go_wp2_with fail
    rw [← HW2.out]
    refine KI.out.mono ?_
    rintro e w3 ⟨rfl, hb⟩
    have HF3 := keep (HF.out _ hb)
    clear hb
    go_wp2
    go_ret
    exact ⟨rfl, HF3.out⟩
  have hwne : m.ws ≠ [] := by intro e; rw [e] at hf; simp at hf
  obtain ⟨i, hi⟩ : ∃ i, m.ws.findIdx (ofT t) = i := ⟨_, rfl⟩
  have e1 : fullB m.pt t x.m = true := by
    unfold fullB
    rw [if_neg hm0, if_neg hm1]
    apply decide_eq_true
    unfold Gm.pt
    dsimp only
    rw [ix_it, List.length_map]
    exact hf
  have e2 : ixT t m.ws = (i : Int) := by unfold ixT; rw [if_pos hf, hi]
  rw [e1]
  have KI2 := KI.out
  rw [e2] at KI2
  clear KI
  have KI := keep KI2
  obtain ⟨g, hg, hir, hgn, hgl, hgm⟩ := r1.ir hwne
  dsimp only at hg hir hgn hgm
  rw [hi] at hf
  have hil : i < m.v.2.1 := by omega
  have hgo : ow g = some (.wt n) := r1.ov ⟨g, 0, none⟩ hg
  have HD := keep fun W3 (hb : Below W2.heap.size W2 W3) => Delete_one g m.v.2.1 m.v.2.2 i m.ws W3 (hir.of (hb.block g hir.lt)) hgn hil (by omega)
  have HC := keep fun W3 (hb : Below W2.heap.size W2 W3) => (r1.step hb).c0.2.1
  have HF := keep (show ∀ W3 W4, Below W2.heap.size W2 W3 → IR g m.v.2.2 (m.ws.eraseIdx i) W4 → Part (fun k => k = g) W3 W4 → (W4.cell? ⟨m.b, 1, none⟩ = some m.sl ∧ W4.frozen? ⟨m.b, 1, none⟩ = false) ∧ MP lo n ow W m (fullP m.pt t x.m) (W4.setCell ⟨m.b, 1, none⟩ (.slice (some ⟨g, 0, none⟩) (m.v.2.1 - 1) m.v.2.2)) from fun W3 W4 hb hr hp => by
    have q1 := r1.step hb
    have q2 := r2.step hb.size
    have hel : (m.ws.eraseIdx i).length = m.v.2.1 - 1 := by rw [List.length_eraseIdx, if_pos (by omega), ← hgn]
    have hgb : m.b ≠ g := tag_ne h.ob hgo (by simp)
    obtain ⟨s1, s2, s3, s4⟩ := q1.wait q2 (W1 := W4) (A := some ⟨g, 0, none⟩) (k := m.v.2.1 - 1) (c := m.v.2.2) (ws := m.ws.eraseIdx i) hel.symm (hp.mono fun k hk => ⟨⟨g, 0, none⟩, hg, hk⟩) (hr.own hel.symm hgl hgm) (fun a ha => by injection ha with ha; subst ha; exact .inl hg) (fun y hy => q1.iv y (List.mem_of_mem_eraseIdx hy)) (by omega)
    have hh4 : W4.heap[m.b]? = some (.cells #[.map (some m.k), m.sl, .int .i64 ((m.lost + 1 : Nat) : Int)] 79 (0, 0)) := (hp.block m.b q1.lt hgb).trans q1.hd
    refine ⟨⟨upd_cell hh4 1 _ rfl, upd_fz hh4 1⟩, _, _, s1, s2, fun k hk => s3 k (Nat.lt_of_lt_of_le (Nat.lt_of_lt_of_le hk (Nat.le_of_lt hB2)) hb.size), ((hP1.trans r3 fun i hi => .inl hi).trans (Part.of_below (Of ow n) hb) fun i hi => .inl hi).trans s4 fun i hi => .inl hi, rfl, ?_⟩
    unfold fullP Gm.pt
    rw [if_neg hm0, if_neg hm1]
    dsimp only
    rw [ix_it, hi, er_it])
  have d1' : W2.cell? ⟨m.b, 1, none⟩ = some m.sl := r1.c0.2.1
  have c0' : W2.cell? ⟨x.b, 0, none⟩ = some (.int .i64 x.m) := by rw [hW2, World.cell?_setCell_other _ _ _ _ (by intro e; injection e with e; exact hne e.symm)]; exact c0
  have HW2 := keep hW2
  have hiI : ¬ ((i : Int) < 0) := by omega
  have hwi : IntKind.i64.wrap ((i : Int) + 1) = (i : Int) + 1 := IntWalk.i64_in _ (by omega)
  have hi9 : (i : Int) ≤ 64 := by omega
  obtain ⟨xb, xm, xf⟩ := x
  obtain ⟨mb, mk, mc, mf, ⟨A, vn, vc⟩, ws, lost⟩ := m
  dsimp only at hg
  subst hg
  unfold Gm.sl at d1 d1'
  dsimp only [Gm.sl] at c0 c1 c0' d0 d1 d1' d2 fm HF KI hz0 hz1 HW2 hlost hne hw1 hW2 HD HC ⊢
  clear e1 e2 r1 r2 r3 hP1 h1 h ho ho1 hxb hxb1 hB1 hx hxo hxm hm0 hl hm1 KI2 hf hwl hvl hcB hBo hW2 hwi hi hil hgo hgl hgm hgn hir hwne hw1
  unfold ptr
  go_enter Try.func51, Try.ntmps51
  go_wp2_with fail
  rw [← HW2.out]
  refine KI.out.mono ?_
  rintro e w3 ⟨rfl, hb⟩
  have HD3 := keep (HD.out _ hb)
  have c3 := HC.out _ hb
  have HF3 := keep fun W4 => HF.out _ W4 hb
  clear hb HD HC HF hlost c0 c1 c0' d0 d1 d1' d2 fm hne
  go_wp2_with fail
  refine HD3.out.mono ?_
  rintro e w4 ⟨rfl, hr4, hp4⟩
  obtain ⟨⟨c4, f4⟩, HM⟩ := HF3.out _ hr4 hp4
  have HM4 := keep HM
  clear HM hr4 hp4 HF3 c3
  go_wp2
  go_ret
  exact ⟨rfl, HM4.out⟩
end
end Go.Proofs.Ytnbicbnighpkjaa
