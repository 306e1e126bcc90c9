/- Package topic: what a party is behind each kind of writing. -/
import Derived.Test.YtnbicbnighpkjaaY5
namespace Go.Proofs.Ytnbicbnighpkjaa
open Go.RowKit Go.Maps
set_option linter.unusedVariables false

theorem tag_ne {ow : Ow} {a b : Nat} {s t : Tag} (ha : ow a = some s) (hb : ow b = some t) (h : s ≠ t) : a ≠ b := fun e => by
  rw [e, hb] at ha
  injection ha with ha
  exact h ha.symm
theorem put_other {ow : Ow} {k g : Nat} {u : Tag} (hg : k ≠ g) : ow.put g u k = ow k := if_neg hg
theorem put_same {ow : Ow} {g : Nat} {u : Tag} : ow.put g u g = some u := if_pos rfl
theorem part_one {S : Nat → Prop} (W : World) (b o : Nat) (u : Value) (hb : S b) : Part S W (W.setCell ⟨b, o, none⟩ u) :=
  Part.of_grown (grown_set W ⟨b, o, none⟩ u) fun k hk => by injection hk with hk; rw [← hk]; exact hb
section
variable {lo n : Nat} {ow ow' : Ow} {m : Gm} {W W' : World}
theorem MA.lts (h : MA lo ow n m W) {s : ByteArray} {x : Gs} (hx : m.f s = some x) : x.b < W.heap.size := (Array.getElem?_eq_some_iff.1 (h.sb s x hx).1).1
theorem MA.ltv (h : MA lo ow n m W) {a : Addr} (ha : m.v.1 = some a) : a.block < W.heap.size ∧ lo ≤ a.block ∧ a = ⟨a.block, 0, none⟩ := by
  rcases h.wt.2 with ⟨h0, _⟩ | ⟨g, cap, cur, hv, hl, hg, _⟩
  · unfold Gm.sl at h0
    rw [ha] at h0
    cases h0
  · unfold Gm.sl at hv
    rw [ha] at hv
    injection hv with hv
    injection hv with hv
    rw [hv]
    exact ⟨(Array.getElem?_eq_some_iff.1 hg).1, hl, rfl⟩
/-- A subscription is laid. -/
theorem MA.putSub (h : MA lo ow n m W) (ho : Ok lo ow W) (hlo : lo ≤ W.heap.size) {g c' : Nat} {mode : Int} {s : ByteArray} (hp : Part (fun i => i = m.k) W W') (hM : MapS W' 9 m.k c' (putS m.vs s (ptr g))) (hg : W'.heap[g]? = some (.cells #[.int .i64 mode, .bool false] 81 (0, 0)))
    (hgs : W.heap.size ≤ g) (hm : 0 ≤ mode ∧ mode ≤ 2) (hc : c' ≤ 64) :
    MA lo (ow.put g (.sub n s)) n { m with f := putF m.f s (some ⟨g, mode, false⟩), c := c' } W' ∧ Ok lo (ow.put g (.sub n s)) W' ∧ Ext W ow (ow.put g (.sub n s)) ∧ Part (Of ow n) W W' := by
  have he : Ext W ow (ow.put g (.sub n s)) := (Ext.refl W ow).put hgs _
  have hgl : g < W'.heap.size := (Array.getElem?_eq_some_iff.1 hg).1
  have hP : Part (Of ow n) W W' := hp.mono fun k hk => by rw [hk]; exact ⟨_, h.ok, rfl⟩
  refine ⟨⟨(hp.block _ h.lt (tag_ne h.ob h.ok (by simp))).trans h.hd, (he _ h.lt).trans h.ob, ?_, (he _ h.sm.lt).trans h.ok, fun t x hx => ?_, ?_, fun a ha => (he _ (h.ltv ha).1).trans (h.ov a ha), fun x hx => (h.iv x hx).step hP (fun k hk => hk.nd) he, hc, h.wl, h.ll⟩, ho.put _ (Nat.le_trans hlo hgs) hgl hp.size, he, hP⟩
  · have : Gm.vs { m with f := putF m.f s (some ⟨g, mode, false⟩), c := c' } = putS m.vs s (ptr g) := by
      funext t
      unfold Gm.vs putS putF
      by_cases e : t = s
      · simp only [if_pos e]; rfl
      · simp only [if_neg e]
    rw [this]
    exact hM
  · unfold putF at hx
    dsimp only at hx
    by_cases e : t = s
    · rw [if_pos e] at hx
      injection hx with hx
      subst hx e
      exact ⟨hg, put_same, hm⟩
    · rw [if_neg e] at hx
      obtain ⟨h1, h2, h3⟩ := h.sb t x hx
      exact ⟨(hp.block _ (h.lts hx) (tag_ne h2 h.ok (by simp))).trans h1, (he _ (h.lts hx)).trans h2, h3⟩
  · refine hp.own h.wt fun b hb => ?_
    unfold Gm.sl Value.ownBlock at hb
    split at hb
    · rename_i a _ _ e
      injection e with e1
      injection hb with hb
      rw [← hb]
      exact tag_ne (h.ov a e1) h.ok (by simp)
    · cases hb
/-- A subscription fails. -/
theorem MA.fail (h : MA lo ow n m W) (ho : Ok lo ow W) {s : ByteArray} {x : Gs} (hx : m.f s = some x) :
    MA lo ow n { m with f := putF m.f s (some { x with fl := true }) } (W.setCell ⟨x.b, 1, none⟩ (.bool true)) ∧ Ok lo ow (W.setCell ⟨x.b, 1, none⟩ (.bool true)) ∧ Part (Of ow n) W (W.setCell ⟨x.b, 1, none⟩ (.bool true)) := by
  obtain ⟨hb, ob, hm⟩ := h.sb s x hx
  have hp : Part (fun i => i = x.b) W (W.setCell ⟨x.b, 1, none⟩ (.bool true)) := part_one W x.b 1 _ rfl
  have hP : Part (Of ow n) W (W.setCell ⟨x.b, 1, none⟩ (.bool true)) := hp.mono fun k hk => by rw [hk]; exact ⟨_, ob, rfl⟩
  have he := Ext.refl W ow
  refine ⟨⟨(hp.block _ h.lt (tag_ne h.ob ob (by simp))).trans h.hd, h.ob, ?_, h.ok, fun t y hy => ?_, ?_, h.ov, fun y hy => (h.iv y hy).step hP (fun k hk => hk.nd) he, h.cl, h.wl, h.ll⟩, ho.step hp.size, hP⟩
  · have : Gm.vs { m with f := putF m.f s (some { x with fl := true }) } = m.vs := by
      funext t
      unfold Gm.vs putF
      by_cases e : t = s
      · simp only [if_pos e]; rw [e, hx]; rfl
      · simp only [if_neg e]
    rw [this]
    exact h.sm.kept hp (tag_ne h.ok ob (by simp))
  · unfold putF at hy
    dsimp only at hy
    by_cases e : t = s
    · rw [if_pos e] at hy
      injection hy with hy
      subst hy e
      exact ⟨heap_setCell_same W x.b 1 _ _ _ hb, ob, hm⟩
    · rw [if_neg e] at hy
      obtain ⟨h1, h2, h3⟩ := h.sb t y hy
      exact ⟨(hp.block _ (h.lts hy) (tag_ne h2 ob (by simpa using e))).trans h1, h2, h3⟩
  · refine hp.own h.wt fun b hb => ?_
    unfold Gm.sl Value.ownBlock at hb
    split at hb
    · rename_i a _ _ e
      injection e with e1
      injection hb with hb
      rw [← hb]
      exact tag_ne (h.ov a e1) ob (by simp)
    · cases hb
/-- One more is lost. -/
theorem MA.lose (h : MA lo ow n m W) (ho : Ok lo ow W) (hl : m.lost + 1 ≤ 1000000) :
    MA lo ow n { m with lost := m.lost + 1 } (W.setCell ⟨m.b, 2, none⟩ (.int .i64 ((m.lost : Int) + 1))) ∧ Ok lo ow (W.setCell ⟨m.b, 2, none⟩ (.int .i64 ((m.lost : Int) + 1))) ∧ Part (Of ow n) W (W.setCell ⟨m.b, 2, none⟩ (.int .i64 ((m.lost : Int) + 1))) := by
  have hp : Part (fun i => i = m.b) W (W.setCell ⟨m.b, 2, none⟩ (.int .i64 ((m.lost : Int) + 1))) := part_one W m.b 2 _ rfl
  have hP : Part (Of ow n) W (W.setCell ⟨m.b, 2, none⟩ (.int .i64 ((m.lost : Int) + 1))) := hp.mono fun k hk => by rw [hk]; exact ⟨_, h.ob, rfl⟩
  refine ⟨⟨heap_setCell_same W m.b 2 _ _ _ h.hd, h.ob, h.sm.kept hp (tag_ne h.ok h.ob (by simp)), h.ok, fun t y hy => ?_, ?_, h.ov, fun y hy => (h.iv y hy).step hP (fun k hk => hk.nd) (Ext.refl W ow), h.cl, h.wl, hl⟩, ho.step hp.size, hP⟩
  · obtain ⟨h1, h2, h3⟩ := h.sb t y hy
    exact ⟨(hp.block _ (h.lts hy) (tag_ne h2 h.ob (by simp))).trans h1, h2, h3⟩
  · refine hp.own h.wt fun b hb => ?_
    unfold Gm.sl Value.ownBlock at hb
    split at hb
    · rename_i a _ _ e
      injection e with e1
      injection hb with hb
      rw [← hb]
      exact tag_ne (h.ov a e1) h.ob (by simp)
    · cases hb
def owA (ow : Ow) (n : Nat) : Option Addr → Ow
  | some a => ow.put a.block (.wt n)
  | none => ow
/-- Another row of what waits. -/
theorem MA.wait (h : MA lo ow n m W) (ho : Ok lo ow W) {W1 : World} {A : Option Addr} {k c : Nat} {ws : List Iv} (hk : k = ws.length) (hp : Part (fun i => ∃ a, m.v.1 = some a ∧ i = a.block) W W1) (hr : W1.ownsRow lo 49 5 (.slice A k c) k (flatF Iv.cells ws)) (hA : ∀ a, A = some a → m.v.1 = some a ∨ W.heap.size ≤ a.block)
    (hi : ∀ x ∈ ws, IV ow W x) (hl : ws.length ≤ 64) :
    MA lo (owA ow n A) n { m with v := (A, k, c), ws := ws } (W1.setCell ⟨m.b, 1, none⟩ (.slice A k c)) ∧ Ok lo (owA ow n A) (W1.setCell ⟨m.b, 1, none⟩ (.slice A k c)) ∧ Ext W ow (owA ow n A) ∧ Part (Of ow n) W (W1.setCell ⟨m.b, 1, none⟩ (.slice A k c)) := by
  subst hk
  have he : Ext W ow (owA ow n A) := by
    cases A with
    | none => exact Ext.refl W ow
    | some a =>
      intro i hi
      show ow.put a.block (.wt n) i = ow i
      by_cases e : i = a.block
      · rcases hA a rfl with h1 | h1
        · rw [e, put_same]
          exact (h.ov a h1).symm
        · omega
      · exact put_other e
  have hnb : ∀ i, (∃ a, m.v.1 = some a ∧ i = a.block) → Of ow n i := fun i ⟨a, ha, e⟩ => by subst e; exact ⟨_, h.ov a ha, rfl⟩
  have hq : Part (fun i => i = m.b) W1 (W1.setCell ⟨m.b, 1, none⟩ (.slice A ws.length c)) := part_one W1 m.b 1 _ rfl
  have hP : Part (Of ow n) W (W1.setCell ⟨m.b, 1, none⟩ (.slice A ws.length c)) := (hp.mono hnb).trans hq fun i hi => .inl (by rw [hi]; exact ⟨_, h.ob, rfl⟩)
  have keepB : ∀ {i : Nat} {t : Tag}, i < W.heap.size → ow i = some t → t ≠ .wt n → t ≠ .mem n → (W1.setCell ⟨m.b, 1, none⟩ (.slice A ws.length c)).heap[i]? = W.heap[i]? := fun {i t} hi ht h1 h2 => by
    rw [hq.block i (Nat.lt_of_lt_of_le hi hp.size) (tag_ne ht h.ob h2)]
    exact hp.block i hi fun ⟨a, ha, e⟩ => tag_ne ht (h.ov a ha) h1 e
  have hb1 : W1.heap[m.b]? = some (.cells #[.map (some m.k), m.sl, .int .i64 m.lost] 79 (0, 0)) := (hp.block m.b h.lt fun ⟨a, ha, e⟩ => tag_ne h.ob (h.ov a ha) (by simp) e).trans h.hd
  have hne : ∀ a, A = some a → a.block ≠ m.b := fun a ha => by
    rcases hA a ha with h1 | h1
    · exact tag_ne (h.ov a h1) h.ob (by simp)
    · have := h.lt; omega
  refine ⟨⟨heap_setCell_same W1 m.b 1 _ _ _ hb1, (he _ h.lt).trans h.ob, h.sm.same (keepB h.sm.lt h.ok (by simp) (by simp)), (he _ h.sm.lt).trans h.ok, fun t y hy => ?_, ?_, fun a ha => ?_, fun y hy => (hi y hy).step hP (fun k hk => hk.nd) he, h.cl, hl, h.ll⟩, ?_, he, hP⟩
  · obtain ⟨h1, h2, h3⟩ := h.sb t y hy
    exact ⟨(keepB (h.lts hy) h2 (by simp) (by simp)).trans h1, (he _ (h.lts hy)).trans h2, h3⟩
  · refine hq.own hr fun b hb => ?_
    cases A with
    | none => cases hb
    | some a =>
      injection hb with hb
      rw [← hb]
      exact hne a rfl
  · obtain rfl : A = some a := ha
    exact put_same
  · cases A with
    | none => exact ho.step hP.size
    | some a =>
      obtain ⟨h1, h2⟩ := hr.lt a.block rfl
      exact ho.put _ h1 (by have : W1.heap.size ≤ _ := hq.size; omega) hP.size
/-- A subscription goes away, and what waits of it. -/
theorem MA.drop (h : MA lo ow n m W) (ho : Ok lo ow W) {s : ByteArray} (hp : Part (fun i => i = m.k) W W') {c' : Nat} (hM : MapS W' 9 m.k c' (delS m.vs s)) (hc : c' ≤ 64) :
    MA lo ow n { m with f := putF m.f s none, c := c' } W' ∧ Ok lo ow W' ∧ Part (Of ow n) W W' := by
  have he := Ext.refl W ow
  have hP : Part (Of ow n) W W' := hp.mono fun k hk => by rw [hk]; exact ⟨_, h.ok, rfl⟩
  refine ⟨⟨(hp.block _ h.lt (tag_ne h.ob h.ok (by simp))).trans h.hd, h.ob, ?_, h.ok, fun t x hx => ?_, ?_, h.ov, fun x hx => (h.iv x hx).step hP (fun k hk => hk.nd) he, hc, h.wl, h.ll⟩, ho.step hp.size, hP⟩
  · have : Gm.vs { m with f := putF m.f s none, c := c' } = delS m.vs s := by
      funext t
      unfold Gm.vs delS putF
      by_cases e : t = s
      · simp only [if_pos e]; rfl
      · simp only [if_neg e]
    rw [this]
    exact hM
  · unfold putF at hx
    dsimp only at hx
    by_cases e : t = s
    · rw [if_pos e] at hx; cases hx
    · rw [if_neg e] at hx
      obtain ⟨h1, h2, h3⟩ := h.sb t x hx
      exact ⟨(hp.block _ (h.lts hx) (tag_ne h2 h.ok (by simp))).trans h1, h2, h3⟩
  · refine hp.own h.wt fun b hb => ?_
    unfold Gm.sl Value.ownBlock at hb
    split at hb
    · rename_i a _ _ e
      injection e with e1
      injection hb with hb
      rw [← hb]
      exact tag_ne (h.ov a e1) h.ok (by simp)
    · cases hb
end
end Go.Proofs.Ytnbicbnighpkjaa
