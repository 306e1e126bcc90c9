/- Package topic: a party drops a subscription. -/
import Derived.Test.YtnbicbnighpkjaaY9
namespace Go.Proofs.Ytnbicbnighpkjaa
open Go.RowKit Go.Maps
set_option linter.unusedVariables false
set_option linter.unusedSimpArgs false
section
variable {lo n : Nat} {ow : Ow} {m : Gm} {W : World}

/-- Nothing waits: nothing goes away. -/
theorem DeleteFunc_nil (B : Nat) (s : ByteArray) (w : World) (hB : B < w.heap.size) (hc : w.cell? ⟨B, 0, none⟩ = some (.string s)) :
    Calls Try.prog 46 #[.slice none 0 0, .func (.func 47) #[] #[.pointer (some ⟨B, 0, none⟩)]] w fun e w' => e = .returned (.slice none 0 0) ∧ Below w.heap.size w w' := by
  have K1 := keep (indexD_any none 0 0 [] s B w ⟨rfl, SR.nil _ _⟩ hB hc (by omega))
  have e1 : ixT s [] = -1 := rfl
  rw [e1] at K1
  clear e1
  go_enter Try.func46, Try.ntmps46
  go_wp2_with (go_at_call 50; refine K1.out.mono ?_; rintro e w2 ⟨rfl, hb⟩)
  go_ret
  exact ⟨rfl, hb⟩
def dropE (x : Pt) (s : ByteArray) : Int := if (x.sub s).isSome = true then 0 else 12
theorem dropFin (h : MA lo ow n m W) (ho : Ok lo ow W) (s : ByteArray) {g : Nat} (e1 : m.v.1 = some ⟨g, 0, none⟩) (r5 : lo ≤ g) (r4 : m.v.2.2 ≤ maxLen) {w' : World} (hr : IR g m.v.2.2 (keepT s m.ws) w') (hp : Part (fun i => i = g) W w') :
    ∃ k, Ending.returned (.slice (some ⟨g, 0, none⟩) (keepT s m.ws).length m.v.2.2) = Ending.returned (.slice (some ⟨g, 0, none⟩) k m.v.2.2) ∧ (w'.cell? ⟨m.b, 1, none⟩ = some m.sl ∧ w'.frozen? ⟨m.b, 1, none⟩ = false) ∧
      MP lo n ow W m { m.pt with ws := m.pt.ws.filter fun y => !sq y.tp s } (w'.setCell ⟨m.b, 1, none⟩ (.slice (some ⟨g, 0, none⟩) k m.v.2.2)) := by
  have hgo : ow g = some (.wt n) := h.ov ⟨g, 0, none⟩ e1
  obtain ⟨s1, s2, s3, s4⟩ := h.wait ho (W1 := w') (A := some ⟨g, 0, none⟩) (k := (keepT s m.ws).length) (c := m.v.2.2) (ws := keepT s m.ws) rfl (hp.mono fun k hk => ⟨_, e1, hk⟩) (hr.own rfl r5 r4) (fun a ha => .inl (e1.trans ha)) (fun x hx => h.iv x (List.mem_filter.1 hx).1) (Nat.le_trans (keepT_len s m.ws) h.wl)
  have hb5 : w'.heap[m.b]? = some (.cells #[.map (some m.k), m.sl, .int .i64 m.lost] 79 (0, 0)) := (hp.block m.b h.lt (tag_ne h.ob hgo (by simp))).trans h.hd
  refine ⟨_, rfl, ⟨upd_cell hb5 1 _ rfl, upd_fz hb5 1⟩, _, _, s1, s2, s3, s4, rfl, ?_⟩
  unfold Gm.pt
  dsimp only
  rw [fl_it]
/-- What is left of what waits, as a slice: the same block. -/
theorem DeleteFunc_m (h : MA lo ow n m W) (ho : Ok lo ow W) (s : ByteArray) (B : Nat) (hB : B < W.heap.size) (hBo : ow B = none) (hc : W.cell? ⟨B, 0, none⟩ = some (.string s)) :
    Calls Try.prog 46 #[.slice m.v.1 m.v.2.1 m.v.2.2, .func (.func 47) #[] #[.pointer (some ⟨B, 0, none⟩)]] W fun e w' => ∃ k, e = .returned (.slice m.v.1 k m.v.2.2) ∧ (w'.cell? ⟨m.b, 1, none⟩ = some m.sl ∧ w'.frozen? ⟨m.b, 1, none⟩ = false) ∧
      MP lo n ow W m { m.pt with ws := m.pt.ws.filter fun y => !sq y.tp s } (w'.setCell ⟨m.b, 1, none⟩ (.slice m.v.1 k m.v.2.2)) := by
  have hvl := h.vlen
  have hwl := h.wl
  by_cases hne : m.ws = []
  · have hv2 : m.v.2.1 = 0 := by rw [hvl, hne]; rfl
    rcases h.wt.2 with ⟨h0, _⟩ | ⟨g, cap, cur, hw, _⟩
    · unfold Gm.sl at h0
      injection h0 with e1 e2 e3
      rw [e1, e2, e3]
      refine (DeleteFunc_nil B s W hB hc).mono ?_
      rintro e w' ⟨rfl, hb⟩
      have h1 := h.step hb
      obtain ⟨s1, s2, s3, s4⟩ := h1.wait (ho.step hb.size) (W1 := w') (A := none) (k := 0) (c := 0) (ws := []) rfl (Part.refl _ _) ⟨rfl, .inl ⟨rfl, rfl⟩⟩ (fun a ha => by cases ha) (fun x hx => by simp at hx) (by simp)
      refine ⟨0, rfl, ⟨h1.c0.2.1, h1.fz 1⟩, _, _, s1, s2, fun k hk => s3 k (Nat.lt_of_lt_of_le hk hb.size), (Part.of_below (Of ow n) hb).trans s4 fun i hi => .inl hi, rfl, ?_⟩
      unfold Gm.pt
      dsimp only
      rw [hne]
      rfl
    · have h2 := h.wt
      unfold Gm.sl at hw h2
      injection hw with e1 e2 e3
      rw [e1, ← hvl] at h2
      obtain ⟨r1, r2, r3, r4, r5⟩ := IR.of_own h2
      have hgo : ow g = some (.wt n) := h.ov ⟨g, 0, none⟩ e1
      rw [e1]
      refine (DeleteFunc_any g m.v.2.1 m.v.2.2 m.ws s B W r1 r2 hB (fun e => by rw [e, hgo] at hBo; cases hBo) hc (by omega)).mono ?_
      rintro e w' ⟨rfl, hr, hp⟩
      exact dropFin h ho s e1 r5 r4 hr hp
  · obtain ⟨g, e1, r1, r2, r5, r4⟩ := h.ir hne
    have hgo : ow g = some (.wt n) := h.ov ⟨g, 0, none⟩ e1
    rw [e1]
    refine (DeleteFunc_any g m.v.2.1 m.v.2.2 m.ws s B W r1 r2 hB (fun e => by rw [e, hgo] at hBo; cases hBo) hc (by omega)).mono ?_
    rintro e w' ⟨rfl, hr, hp⟩
    exact dropFin h ho s e1 r5 r4 hr hp
set_option maxHeartbeats 4000000 in
set_option maxRecDepth 1000000 in
theorem drop_any (h : MA lo ow n m W) (ho : Ok lo ow W) (hlo : lo ≤ W.heap.size) {t : ByteArray} (ht : t.size ≤ 300) :
    Calls Try.prog 40 #[ptr m.b, .string t] W fun e w' => e = .returned (.int .i64 (dropE m.pt t)) ∧ MP lo n ow W m (if (m.pt.sub t).isSome = true then dropP m.pt t else m.pt) w' := by
  have hB1 := below_lay W (.cells #[.string t] 9)
  have h1 := h.step hB1
  have ho1 := ho.step hB1.size
  have hP1 := Part.of_below (Of ow n) hB1
  obtain ⟨d0, d1, d2⟩ := h1.c0
  have L := h1.look t ht
  have hbx : (W.alloc (.cells #[.string t] 9)).heap[W.heap.size]? = some (.cells #[.string t] 9) := heap_alloc_new W _
  have hBo : ow W.heap.size = none := ho.free (Nat.le_refl _)
  cases hf : m.f t with
  | none =>
    have e4 : m.pt.sub t = none := by unfold Gm.pt; dsimp only; rw [hf]; rfl
    have e1 : dropE m.pt t = 12 := by unfold dropE; rw [e4]; rfl
    rw [e1, e4]
    rw [vs_none hf] at L
    dsimp only [Option.getD] at L
    have HS := keep (show ∀ W', W'.heap = (W.alloc (.cells #[.string t] 9)).heap → W'.cell? ⟨m.b, 0, none⟩ = some (.map (some m.k)) ∧ W'.cell? ⟨W.heap.size, 0, none⟩ = some (.string t) ∧ (Instr.lookup 76 (.map (some m.k)) (.string t) false).run Try.prog W' = .ok (.pointer none) W' from fun W' hW => ⟨(World.cell?_of_block (a := ⟨m.b, 0, none⟩) (by rw [hW])).trans d0, upd_cell ((by rw [hW] : W'.heap[W.heap.size]? = _).trans hbx) 0 _ rfl, L W' hW⟩)
    have HF := keep (show ∀ k, MP lo n ow W m m.pt ((W.alloc (.cells #[.string t] 9)).drewN k) from fun k => ⟨ow, m, h1.step (below_drewN (Below.refl _ _) k), ho1.step (Nat.le_refl _), Ext.refl W ow, (hP1.trans (Part.of_below (Of ow n) (below_drewN (Below.refl _ _) k)) fun i hi => .inl hi), rfl, rfl⟩)
    clear h h1 ho ho1 hP1 hB1 e1 e4 hf L d0 d1 d2 hbx hBo
    unfold ptr
    go_enter Try.func40, Try.ntmps40
    go_wp2
    go_region_held3 (fun w' => w'.cell? ⟨m.b, 0, none⟩ = some (.map (some m.k)) ∧ w'.cell? ⟨W.heap.size, 0, none⟩ = some (.string t) ∧ (Instr.lookup 76 (.map (some m.k)) (.string t) false).run Try.prog w' = .ok (.pointer none) w')
      (first | exact HS.out _ rfl) (first | fail)
    all_goals go_wp2
    all_goals (go_ret; exact ⟨rfl, HF.out _⟩)
  | some x =>
    have e4 : m.pt.sub t = some (x.m, x.fl) := by unfold Gm.pt; dsimp only; rw [hf]; rfl
    have e1 : dropE m.pt t = 0 := by unfold dropE; rw [e4]; rfl
    rw [e1, e4]
    rw [vs_some hf] at L
    dsimp only [Option.getD] at L
    have HS := keep (show ∀ W', W'.heap = (W.alloc (.cells #[.string t] 9)).heap → W'.cell? ⟨m.b, 0, none⟩ = some (.map (some m.k)) ∧ W'.cell? ⟨W.heap.size, 0, none⟩ = some (.string t) ∧ (Instr.lookup 76 (.map (some m.k)) (.string t) false).run Try.prog W' = .ok (ptr x.b) W' from fun W' hW => ⟨(World.cell?_of_block (a := ⟨m.b, 0, none⟩) (by rw [hW])).trans d0, upd_cell ((by rw [hW] : W'.heap[W.heap.size]? = _).trans hbx) 0 _ rfl, L W' hW⟩)
    have B2 := below_drewN (Below.refl (W.alloc (.cells #[.string t] 9)).heap.size (W.alloc (.cells #[.string t] 9))) 2
    have h2 : MA lo ow n m (World.drew (World.drew (W.alloc (.cells #[.string t] 9)))) := h1.step B2
    have ho2 : Ok lo ow (World.drew (World.drew (W.alloc (.cells #[.string t] 9)))) := ho1.step B2.size
    have hP2 : Part (Of ow n) W (World.drew (World.drew (W.alloc (.cells #[.string t] 9)))) := hP1.trans (Part.of_below (Of ow n) B2) fun i hi => .inl hi
    obtain ⟨w4, hrun4, hM4, hgr4, hsz4⟩ := h2.sm.drop (e := 75) Try.underlying9 Try.underlying76 (n := t) (by unfold maxLen; omega) 0
    rw [vs_some hf] at hM4
    have hp4 : Part (fun i => i = m.k) (World.drew (World.drew (W.alloc (.cells #[.string t] 9)))) w4 := Part.of_grown hgr4 fun k hk => by injection hk with hk; exact hk.symm
    obtain ⟨q1, q2, q3⟩ := h2.drop ho2 hp4 hM4 (by have := h.cl; omega)
    have hB4 : W.heap.size < w4.heap.size := Nat.lt_of_lt_of_le (by show W.heap.size < (W.alloc _).heap.size; simp) hp4.size
    have hbx4 : w4.heap[W.heap.size]? = some (.cells #[.string t] 9) := (hp4.block W.heap.size (by show W.heap.size < (W.alloc _).heap.size; simp) (fun e => by have h3 := h.ok; rw [← e, hBo] at h3; cases h3)).trans hbx
    have KD := keep (DeleteFunc_m q1 q2 t W.heap.size hB4 hBo (upd_cell hbx4 0 _ rfl))
    have HFIN := keep (show ∀ w5, MP lo n ow w4 { m with f := putF m.f t none, c := m.c - 1 } { Gm.pt { m with f := putF m.f t none, c := m.c - 1 } with ws := (Gm.pt { m with f := putF m.f t none, c := m.c - 1 }).ws.filter fun y => !sq y.tp t } w5 → MP lo n ow W m (dropP m.pt t) w5 from fun w5 ⟨ow5, m5, z1, z2, z3, z4, z5, z6⟩ => ⟨ow5, m5, z1, z2, fun k hk => z3 k (Nat.lt_trans hk hB4), (hP2.trans q3 fun i hi => .inl hi).trans z4 fun i hi => .inl hi, z5, by
      rw [z6]
      unfold dropP Gm.pt
      dsimp only
      congr 1
      funext s
      unfold putF
      by_cases e : s = t
      · simp only [if_pos e]; rfl
      · simp only [if_neg e]⟩)
    have c04 := q1.c0.2.1
    dsimp only [Gm.sl] at c04 KD
    have HS2 := keep (show ∀ W' : World, W'.heap = (W.alloc (.cells #[.string t] 9)).heap → W'.cell? ⟨m.b, 0, none⟩ = some (.map (some m.k)) ∧ W'.cell? ⟨W.heap.size, 0, none⟩ = some (.string t) from fun W' hW => ⟨(HS.out W' hW).1, (HS.out W' hW).2.1⟩)
    have HS4 := keep (show w4.cell? ⟨m.b, 0, none⟩ = some (.map (some m.k)) ∧ w4.cell? ⟨W.heap.size, 0, none⟩ = some (.string t) from ⟨q1.c0.1, upd_cell hbx4 0 _ rfl⟩)
    obtain ⟨xb, xm, xf⟩ := x
    unfold ptr at HS ⊢
    dsimp only at HS
    clear h h1 h2 ho ho1 ho2 hP1 hP2 hB1 B2 e1 e4 hf L d0 d1 d2 hbx hBo hM4 hgr4 hsz4 hp4 q1 q2 q3 hB4 hbx4
    go_enter Try.func40, Try.ntmps40
    go_wp2
    go_region_held3 (fun w' => w'.cell? ⟨m.b, 0, none⟩ = some (.map (some m.k)) ∧ w'.cell? ⟨W.heap.size, 0, none⟩ = some (.string t) ∧ (Instr.lookup 76 (.map (some m.k)) (.string t) false).run Try.prog w' = .ok (.pointer (some ⟨xb, 0, none⟩)) w')
      (first | exact HS.out _ rfl) (first | fail)
    go_wp2_with fail
    refine wp_region_held_drew (S := (fun w' => w'.cell? ⟨m.b, 0, none⟩ = some (.map (some m.k)) ∧ w'.cell? ⟨W.heap.size, 0, none⟩ = some (.string t))) (by kernel_rfl) (HS2.out _ rfl) (fun hHeld => ?_)
    refine wpAnyH_take (i := 0) (oi := ⟨some 12, _, _, _, _, _⟩) (v := ?vz1x0) rfl (by kernel_rfl) (by kernel_rfl) (by kernel_rfl) (fun _ _ _ h => h) (Or.inl ⟨by rfl, ?hyz1x0⟩) (by assumption) ?restz1x0
    case hyz1x0 => (intro wz hSw; (try dsimp only at hSw); go_simp <;> (try with_reducible rfl))
    try simp only [Act.put, List.setIfInBounds_toArray, List.set_cons_zero, List.set_cons_succ]
    refine wpAnyH_take (i := 1) (oi := ⟨some 13, _, _, _, _, _⟩) (v := ?vz2x1) rfl (by kernel_rfl) (by kernel_rfl) (by kernel_rfl) (fun _ _ _ h => h) (Or.inl ⟨by rfl, ?hyz2x1⟩) (by assumption) ?restz2x1
    case hyz2x1 => (intro wz hSw; (try dsimp only at hSw); go_simp <;> (try with_reducible rfl))
    try simp only [Act.put, List.setIfInBounds_toArray, List.set_cons_zero, List.set_cons_succ]
    refine wpAnyH_take (i := 2) (oi := ⟨some 14, _, _, _, _, _⟩) (v := ?vz3x2) rfl (by kernel_rfl) (by kernel_rfl) (by kernel_rfl) (fun _ _ _ h => h) (Or.inl ⟨by rfl, ?hyz3x2⟩) (by assumption) ?restz3x2
    case hyz3x2 => (intro wz hSw; (try dsimp only at hSw); go_simp <;> (try with_reducible rfl))
    try simp only [Act.put, List.setIfInBounds_toArray, List.set_cons_zero, List.set_cons_succ]
    refine wpAnyH_take (i := 3) (oi := ⟨some 15, _, _, _, _, _⟩) (v := ?vz4x3) rfl (by kernel_rfl) (by kernel_rfl) (by kernel_rfl) (fun _ _ _ h => h) (Or.inl ⟨by rfl, ?hyz4x3⟩) (by assumption) ?restz4x3
    case hyz4x3 => (intro wz hSw; (try dsimp only at hSw); go_simp <;> (try with_reducible rfl))
    try simp only [Act.put, List.setIfInBounds_toArray, List.set_cons_zero, List.set_cons_succ]
    refine wpAnyH_take (i := 4) (oi := ⟨some 16, _, _, _, _, _⟩) (v := ?vz5x4) rfl (by kernel_rfl) (by kernel_rfl) (by kernel_rfl) (fun _ _ _ h => h) (Or.inl ⟨by rfl, ?hyz5x4⟩) (by assumption) ?restz5x4
    case hyz5x4 => (intro wz hSw; (try dsimp only at hSw); go_simp <;> (try with_reducible rfl))
    try simp only [Act.put, List.setIfInBounds_toArray, List.set_cons_zero, List.set_cons_succ]
    refine wpAnyH_ready (rs := [5]) (by kernel_rfl) (by simp) (AllReadyH.cons (o := ⟨none, _, _, _, _, _⟩) rfl (fun K hK => ?_) AllReadyH.nil)
    go_simp
    refine hK.out _ _ HS4.out (fun hHeld => ?_)
    clear hK K
    try simp only [Act.put, List.setIfInBounds_toArray, List.set_cons_zero, List.set_cons_succ]
    refine wpAnyH_done (by kernel_rfl) ?_ _
    clear hrun4
    go_wp2_with fail
    refine KD.out.mono ?_
    rintro e w5 ⟨k5, rfl, ⟨c5, f5⟩, hM5⟩
    have HF5 := keep (HFIN.out _ hM5)
    clear hM5 c04
    go_wp2
    go_ret
    exact ⟨rfl, HF5.out⟩
end
end Go.Proofs.Ytnbicbnighpkjaa
