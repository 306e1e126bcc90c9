/- Package audio: a listener takes a packet. -/
import Derived.Test.YtacmfoljbjdcjaaU7
import Derived.StillTailTactics
namespace Go.Proofs.Ytacmfoljbjdcjaa
open Go.RowKit Go.Maps
set_option linter.unusedVariables false
set_option linter.unusedSimpArgs false

theorem step_append_at {P : Program} {w : World} {ops : Array Oper} {o : Oper} {a : Act} {Q : Exit → Act → World → Prop} {K : Act → World → Prop} {E : Prop} (hgd : o.guard = none) (s x : Operand) (t : TypeId) (ho : o.op = .call { callee := .builtin .append, args := #[s, x], argTypes := #[t, t] })
    (base : Nat) (e : TypeId) (i : TypeInfo) (z : Value) (size bytes : Nat) (ht : P.underlying t = some (.slice e)) (hi : P.info? e = some i) (hz : i.zero = some z) (hsize : i.size = size) (hby : i.bytes = bytes) (hzs : z.cells.size = size) (hsz : 0 < size)
    (v : Value) (n : Nat) (xs : List Value) (hs : a.eval s = v) (hown : w.ownsRow base e size v n xs) (ad : Addr) (m c : Nat) (news : List Value) (hx : a.eval x = .slice (some ad) m c) (hl : news.length = m * size) (hnews : ∀ j u, news[j]? = some u → w.cell? (ad.add j) = some u) (h1 : ∀ u ∈ news, u.oneCell' = true)
    (h63 : n + m ≤ maxLen) (hbytes : (n + m) * bytes ≤ 140737488355328) (hbase : base ≤ w.heap.size)
    (h : ∀ A' c' w', Hid (w'.ownsRow base e size (.slice A' (n + m) c') (n + m) (xs ++ news)) → Hid (w.grownBy w' v.ownBlock) → Hid ((Value.slice A' (n + m) c').ownBlock = v.ownBlock ∨ (Value.slice A' (n + m) c').ownBlock = some w.heap.size) → K (a.put o.dst (.slice A' (n + m) c')) w') : if Region.wanted o (yielded ops a.tmps) = true then Oper.wp P o a w K Q else E := by
  have hw : Region.wanted o (yielded ops a.tmps) = true := by simp [Region.wanted, hgd]
  rw [if_pos hw]
  obtain ⟨v', w', hrun, h2, h3, _, h5⟩ := run_append_own_at (P := P) w base t o.type e i z size bytes ht hi hz hsize hby hzs hsz v n xs hown ad m c news hl hnews h1 h63 hbytes hbase
  obtain ⟨A', c', rfl, _⟩ := own_shape2' h2
  unfold Oper.wp execOp
  simp only [ho, resolve, invoke, builtin, Sem.run_bind, Sem.run_pure, Result.andThen_ok, List.map_toArray, List.map_cons, List.map_nil, hs, hx, hrun]
  exact h A' c' w' (show _ from h2) (show _ from h3) (show _ from h5)

theorem step_store {P : Program} {ops : Array Oper} {o : Oper} {a : Act} {w : World} {K : Act → World → Prop} {Q : Exit → Act → World → Prop} {E : Prop} (hgd : o.guard = none) (ty : TypeId) (x y : Operand) (ho : o.op = .store ty x y)
    (b k : Nat) (cells : Array Value) (hx : a.eval x = .pointer (some ⟨b, k, none⟩)) (hy : a.eval y = .agg cells)
    (ht : w.there b k cells.size) (hi : (P.info? ty).map (·.size) = some cells.size) (h1 : cells.all (·.oneCell') = true)
    (h : K (a.put o.dst undef) (w.setCells b k cells.toList)) : if Region.wanted o (yielded ops a.tmps) = true then Oper.wp P o a w K Q else E := by
  rw [if_pos (by simp [Region.wanted, hgd])]
  exact wp_store_mid ty x y ho b k cells hx hy ht hi h1 h
theorem there_of {w : World} {b : Nat} {C : Array Value} {t : TypeId} (h : w.heap[b]? = some (.cells C t (0, 0))) (o n : Nat) (hn : o + n ≤ C.size) : w.there b o n := fun j hj =>
  ⟨by rw [upd_cell h (o + j) C[o + j] (Array.getElem?_eq_getElem (by omega))]; rfl, upd_fz h (o + j)⟩
theorem pkt_info2 : (Try.prog.info? 26).map (fun i => (i.zero, i.size, i.bytes)) = some (some (.agg #[.bool false, .int .u8 0, .int .u16 0, .int .u32 0, .int .u32 0, .slice none 0 0]), 6, 40) := by kernel_rfl
theorem lay_add {W : World} {cs : Array Value} {t : TypeId} : ∀ (j : Nat) (u : Value), cs.toList[j]? = some u → (W.alloc (.cells cs t)).cell? ((⟨W.heap.size, 0, none⟩ : Addr).add j) = some u := fun j u hu => by
  rw [Addr.add_lit, Nat.zero_add]
  exact upd_cell (heap_alloc_new W _) j u (by simpa using hu)
/-- What a party's turn leaves. -/
def MP (lo n : Nat) (ow : Ow) (W : World) (m : Gl) (y : Lm) (W' : World) : Prop := ∃ ow' m', LA lo ow' n m' W' ∧ Ok lo ow' W' ∧ Ext W ow ow' ∧ Part (Of ow n) W W' ∧ m'.b = m.b ∧ m'.lm = y
section
variable {lo n : Nat} {ow : Ow} {m : Gl} {W : World}
theorem own_sl (h : LA lo ow n m W) {k : Nat} (hk : m.sl.ownBlock = some k) : ∃ a, m.v.1 = some a ∧ k = a.block := by
  unfold Gl.sl Value.ownBlock at hk
  split at hk
  · rename_i a _ _ e
    injection e with e1
    injection hk with hk
    exact ⟨a, e1, hk.symm⟩
  · cases hk
theorem LA.app (h : LA lo ow n m W) (ho : Ok lo ow W) {y : Pv} (hy : IV ow W y) (hl : m.ws.length + 1 ≤ 64) {W1 w5 : World} (hb : Below W.heap.size W W1) {A : Option Addr} {c : Nat} (ho5 : w5.ownsRow lo 26 6 (.slice A (m.v.2.1 + 1) c) (m.v.2.1 + 1) (flatF Pv.cells m.ws ++ y.cells)) (hg : W1.grownBy w5 m.sl.ownBlock)
    (ha : (Value.slice A (m.v.2.1 + 1) c).ownBlock = m.sl.ownBlock ∨ (Value.slice A (m.v.2.1 + 1) c).ownBlock = some W1.heap.size) :
    (w5.cell? ⟨m.b, 64, none⟩ = some m.sl ∧ w5.frozen? ⟨m.b, 64, none⟩ = false) ∧ ∃ ow', LA lo ow' n { m with v := (A, m.v.2.1 + 1, c), ws := m.ws ++ [y] } (w5.setCell ⟨m.b, 64, none⟩ (.slice A (m.v.2.1 + 1) c)) ∧ Ok lo ow' (w5.setCell ⟨m.b, 64, none⟩ (.slice A (m.v.2.1 + 1) c)) ∧ Ext W ow ow' ∧ Part (Of ow n) W (w5.setCell ⟨m.b, 64, none⟩ (.slice A (m.v.2.1 + 1) c)) := by
  have hvl := h.vlen
  have hp : Part (fun i => ∃ a, m.v.1 = some a ∧ i = a.block) W w5 := (Part.of_below _ hb).trans (Part.of_grown (S := fun i => ∃ a, m.v.1 = some a ∧ i = a.block) hg (fun k hk => own_sl h hk)) fun i hi => .inl hi
  obtain ⟨cur, h1, h2⟩ := h.hd
  have hb5 : w5.heap[m.b]? = some (.cells cur 83 (0, 0)) := (hp.block m.b h.lt fun ⟨a, ha, e⟩ => tag_ne h.ob (h.ov a ha) (by simp) e).trans h1
  refine ⟨⟨upd_cell hb5 64 _ h2.sl, upd_fz hb5 64⟩, _, h.wait ho (W1 := w5) (A := A) (k := m.v.2.1 + 1) (c := c) (ws := m.ws ++ [y]) (by rw [List.length_append, hvl]; rfl) hp ?_ (fun a hA => ?_) (fun z hz => ?_) (by rw [List.length_append]; exact hl)⟩
  · rw [flatF_append, show flatF Pv.cells [y] = y.cells by simp [flatF]]
    exact ho5
  · subst hA
    have ha0 : a = ⟨a.block, 0, none⟩ := by
      rcases ho5.2 with ⟨h0, _⟩ | ⟨g, cap, cur, hv, _⟩
      · cases h0
      · injection hv with hv
        injection hv with hv
        rw [hv]
    rcases ha with h1 | h1
    · obtain ⟨a', h2, h3⟩ := own_sl h h1.symm
      refine .inl ?_
      rw [h2, (h.ltv h2).2.2, ha0, h3]
    · injection h1 with h1
      refine .inr ?_
      have := hb.size
      omega
  · rcases List.mem_append.1 hz with hz | hz
    · exact h.iv z hz
    · rw [List.mem_singleton.1 hz]; exact hy
theorem MP.of (h : LA lo ow n m W) (ho : Ok lo ow W) {W' : World} (hb : Below W.heap.size W W') : MP lo n ow W m m.lm W' := ⟨ow, m, h.step hb, ho.step hb.size, Ext.refl W ow, Part.of_below _ hb, rfl, rfl⟩
theorem Of.back {W : World} {ow ow1 : Ow} (he : Ext W ow ow1) {n k : Nat} (h : Of ow1 n k) : Of ow n k ∨ W.heap.size ≤ k := by
  rcases Nat.lt_or_ge k W.heap.size with h0 | h0
  · obtain ⟨t, h1, h2⟩ := h
    exact .inl ⟨t, (he k h0).symm.trans h1, h2⟩
  · exact .inr h0

set_option maxHeartbeats 4000000 in
set_option maxRecDepth 1000000 in
theorem take_any (h : LA lo ow n m W) (ho : Ok lo ow W) (hlo : lo ≤ W.heap.size) {y : Pv} (hy : IV ow W y) {k : Nat} (hk : k < 16) {room : Nat} (hr : 1 ≤ room ∧ room ≤ 64) (hl : m.lost + 1 ≤ 1000000) :
    Calls Try.prog 45 #[ptr m.b, .int .i64 (k : Int), .agg #[.bool y.mr, .int .u8 y.kd, .int .u16 y.sq, .int .u32 y.st, .int .u32 y.so, .slice y.da.1 y.da.2.1 y.da.2.2], .int .i64 (room : Int)] W fun e w' => e = .returned (.bool (takeB m.lm k room y.pk)) ∧ MP lo n ow W m (takeL m.lm k room y.pk) w' := by
  obtain ⟨ym, yk, yq, yt, yo, ⟨y1, y2, y3⟩, yb⟩ := y
  dsimp only
  obtain ⟨s, hs⟩ : ∃ s, m.sp k = s := ⟨_, rfl⟩
  obtain ⟨kn, so, ow0, nw⟩ := s
  have b1 := below_lay W (.cells #[.bool ym, .int .u8 yk, .int .u16 yq, .int .u32 yt, .int .u32 yo, .slice y1 y2 y3] 26)
  have b2 := below_lay (W.alloc (.cells #[.bool ym, .int .u8 yk, .int .u16 yq, .int .u32 yt, .int .u32 yo, .slice y1 y2 y3] 26)) (.cells #[.bool kn, .int .u32 so, .int .u16 ow0, .int .u16 nw] 79)
  have b12 := b1.trans (b2.mono b1.size)
  have h1 := h.step b1
  have h2 := h.step b12
  obtain ⟨c0, c1, c2, c3⟩ := h1.c4 hk
  rw [hs] at c0 c1 c2 c3
  dsimp only at c0 c1 c2 c3
  have hmb := h.lt
  have s2 : ((W.alloc (.cells #[.bool ym, .int .u8 yk, .int .u16 yq, .int .u32 yt, .int .u32 yo, .slice y1 y2 y3] 26)).alloc (.cells #[.bool kn, .int .u32 so, .int .u16 ow0, .int .u16 nw] 79)).heap.size = W.heap.size + 2 := by simp
  have HX := keep (show ∀ w, Below ((W.alloc (.cells #[.bool ym, .int .u8 yk, .int .u16 yq, .int .u32 yt, .int .u32 yo, .slice y1 y2 y3] 26)).alloc (.cells #[.bool kn, .int .u32 so, .int .u16 ow0, .int .u16 nw] 79)).heap.size ((W.alloc (.cells #[.bool ym, .int .u8 yk, .int .u16 yq, .int .u32 yt, .int .u32 yo, .slice y1 y2 y3] 26)).alloc (.cells #[.bool kn, .int .u32 so, .int .u16 ow0, .int .u16 nw] 79)) w → (w.cell? ⟨W.heap.size, 0, none⟩ = some (.bool ym) ∧ w.cell? ⟨W.heap.size, 1, none⟩ = some (.int .u8 yk) ∧ w.cell? ⟨W.heap.size, 2, none⟩ = some (.int .u16 yq) ∧ w.cell? ⟨W.heap.size, 3, none⟩ = some (.int .u32 yt) ∧ w.cell? ⟨W.heap.size, 4, none⟩ = some (.int .u32 yo) ∧ w.cell? ⟨W.heap.size, 5, none⟩ = some (.slice y1 y2 y3)) ∧ (w.cell? ⟨W.heap.size + 1, 0, none⟩ = some (.bool kn) ∧ w.cell? ⟨W.heap.size + 1, 1, none⟩ = some (.int .u32 so) ∧ w.cell? ⟨W.heap.size + 1, 2, none⟩ = some (.int .u16 ow0) ∧ w.cell? ⟨W.heap.size + 1, 3, none⟩ = some (.int .u16 nw)) ∧ w.heap[W.heap.size]? = some (.cells #[.bool ym, .int .u8 yk, .int .u16 yq, .int .u32 yt, .int .u32 yo, .slice y1 y2 y3] 26) ∧ LA lo ow n m w ∧ Ok lo ow w ∧ IV ow w ⟨ym, yk, yq, yt, yo, (y1, y2, y3), yb⟩ ∧ Part (Of ow n) W w ∧ lo ≤ w.heap.size from fun w hb => by
    have g1 : w.heap[W.heap.size]? = some (.cells #[.bool ym, .int .u8 yk, .int .u16 yq, .int .u32 yt, .int .u32 yo, .slice y1 y2 y3] 26) := (hb.block _ (by rw [s2]; omega)).trans ((b2.block _ (by simp)).trans (heap_alloc_new W _))
    have e1 : (W.alloc (.cells #[.bool ym, .int .u8 yk, .int .u16 yq, .int .u32 yt, .int .u32 yo, .slice y1 y2 y3] 26)).heap.size = W.heap.size + 1 := by simp
    have g2 : w.heap[W.heap.size + 1]? = some (.cells #[.bool kn, .int .u32 so, .int .u16 ow0, .int .u16 nw] 79) := by
      have := heap_alloc_new (W.alloc (.cells #[.bool ym, .int .u8 yk, .int .u16 yq, .int .u32 yt, .int .u32 yo, .slice y1 y2 y3] 26)) (.cells #[.bool kn, .int .u32 so, .int .u16 ow0, .int .u16 nw] 79)
      rw [e1] at this
      exact (hb.block _ (by rw [s2]; omega)).trans this
    have hbb := b12.trans (hb.mono b12.size)
    exact ⟨⟨upd_cell g1 0 _ rfl, upd_cell g1 1 _ rfl, upd_cell g1 2 _ rfl, upd_cell g1 3 _ rfl, upd_cell g1 4 _ rfl, upd_cell g1 5 _ rfl⟩, ⟨upd_cell g2 0 _ rfl, upd_cell g2 1 _ rfl, upd_cell g2 2 _ rfl, upd_cell g2 3 _ rfl⟩, g1, h.step hbb, ho.step hbb.size, ⟨hy.bs.step hbb, hy.ut.step (Ext.refl W ow) hbb.size, hy.le⟩, Part.of_below _ hbb, Nat.le_trans hlo hbb.size⟩)
  have HBo := keep (show ow W.heap.size = none from ho.free (Nat.le_refl _))
  have HMP := keep (show ∀ w, Below ((W.alloc (.cells #[.bool ym, .int .u8 yk, .int .u16 yq, .int .u32 yt, .int .u32 yo, .slice y1 y2 y3] 26)).alloc (.cells #[.bool kn, .int .u32 so, .int .u16 ow0, .int .u16 nw] 79)).heap.size ((W.alloc (.cells #[.bool ym, .int .u8 yk, .int .u16 yq, .int .u32 yt, .int .u32 yo, .slice y1 y2 y3] 26)).alloc (.cells #[.bool kn, .int .u32 so, .int .u16 ow0, .int .u16 nw] 79)) w → MP lo n ow W m m.lm w from fun w hb => MP.of h ho (b12.trans (hb.mono b12.size)))
  have KB := keep fun w => before_any ⟨kn, so, ow0, nw⟩ ym yk yq yt yo y1 y2 y3 yb w
  have KF := keep fun w => follow_any ⟨kn, so, ow0, nw⟩ ym yk yq yt yo y1 y2 y3 yb w
  obtain ⟨q, hq⟩ : ∃ q, befB ⟨kn, so, ow0, nw⟩ (Pv.pk ⟨ym, yk, yq, yt, yo, (y1, y2, y3), yb⟩) = q := ⟨_, rfl⟩
  have etk : takeB m.lm k room (Pv.pk ⟨ym, yk, yq, yt, yo, (y1, y2, y3), yb⟩) = (q && decide (m.ws.length < room)) := by
    unfold takeB
    rw [show m.lm.sp k = ⟨kn, so, ow0, nw⟩ from hs, hq, show m.lm.ws.length = m.ws.length by unfold Gl.lm; dsimp only; rw [List.length_map]]
  have etl : takeL m.lm k room (Pv.pk ⟨ym, yk, yq, yt, yo, (y1, y2, y3), yb⟩) = if q = true then (if m.ws.length < room then { m.lm with sp := putN m.sp k (nxtS ⟨kn, so, ow0, nw⟩ (Pv.pk ⟨ym, yk, yq, yt, yo, (y1, y2, y3), yb⟩)), ws := m.lm.ws ++ [newP ⟨kn, so, ow0, nw⟩ (Pv.pk ⟨ym, yk, yq, yt, yo, (y1, y2, y3), yb⟩) k] } else { m.lm with sp := putN m.sp k (nxtS ⟨kn, so, ow0, nw⟩ (Pv.pk ⟨ym, yk, yq, yt, yo, (y1, y2, y3), yb⟩)), lost := m.lm.lost + 1 }) else m.lm := by
    unfold takeL
    rw [show m.lm.sp k = ⟨kn, so, ow0, nw⟩ from hs, hq, show m.lm.ws.length = m.ws.length by unfold Gl.lm; dsimp only; rw [List.length_map]]
    rfl
  have hkI : (k : Int) < 16 := by omega
  have hvl := h.vlen
  have HN := keep (And.intro hr (And.intro hl (And.intro hk (And.intro hvl h.wl))))
  dsimp only [Pv.pk] at hq etk etl ⊢
  dsimp only at KB KF
  rw [etk, etl]
  rw [hq] at KB
  cases q with
  | false =>
    rw [if_neg (by decide), Bool.false_and]
    clear s2 h h1 h2 ho hy b1 b2 b12 hs etk etl hq hr hl hvl hlo KF
    unfold ptr
    go_enter Try.func45, Try.ntmps45
    go_wp2_with (go_at_call 46; refine (KB.out _).mono ?_; rintro e w2 ⟨rfl, hb2⟩; have HB2 := keep hb2; clear hb2)
    go_ret
    exact ⟨rfl, HMP.out _ HB2.out⟩
  | true =>
    rw [if_pos rfl, Bool.true_and]
    obtain ⟨F, hF⟩ : ∃ F, folI ⟨kn, so, ow0, nw⟩ ⟨ym, yk, yq, yt, yo, yb⟩ = F := ⟨_, rfl⟩
    unfold nxtS newP
    dsimp only
    rw [hF] at KF
    rw [hF]
    clear s2 h h1 h2 ho hy b1 b2 b12 hs etk etl hq hF hr hl hvl hlo HMP hk
    by_cases hlt : m.ws.length < room
    · rw [if_pos hlt, decide_eq_true hlt]
      unfold ptr
      go_enter Try.func45, Try.ntmps45
      go_wp2_with (first | (go_at_call 46; have _ := KB; refine (KB.out _).mono ?_; clear KB; rintro e w2 ⟨rfl, hb2⟩; have HB2 := keep hb2; obtain ⟨⟨p0, p1, p2, p3, p4, p5⟩, ⟨q0, q1, q2, q3⟩, _⟩ := HX.out w2 hb2; clear hb2) | (go_at_call 47; refine (KF.out _).mono ?_; rintro e w3 ⟨rfl, hb3⟩; have HB3 := keep (HB2.out.trans (hb3.mono HB2.out.size)); clear hb3 p0 p1 p2 p3 p4 p5 q0 q1 q2 q3))
      have HA := keep (HX.out w3 HB3.out)
      clear HX HB2 HB3 KF c0 c1 c2 c3
      have HSX := keep (show ∀ w : World, w.heap[W.heap.size]? = some (.cells #[.bool ym, .int .u8 yk, .int .u16 yq, .int .u32 yt, .int .u32 yo, .slice y1 y2 y3] 26) → w.cell? ⟨W.heap.size, 4, none⟩ = some (.int .u32 yo) ∧ w.cell? ⟨W.heap.size, 2, none⟩ = some (.int .u16 yq) from fun w g => ⟨upd_cell g 4 _ rfl, upd_cell g 2 _ rfl⟩)
      obtain ⟨cur, HC1, HC2⟩ := HA.out.2.2.2.1.hd
      have HSZ := keep (HC2.sz)
      clear HC2
      refine wp_region_held_drew (S := (fun w' => w'.cell? ⟨W.heap.size, 4, none⟩ = some (.int .u32 yo) ∧ w'.cell? ⟨W.heap.size, 2, none⟩ = some (.int .u16 yq))) (by kernel_rfl) (HSX.out _ HA.out.2.2.1) (fun hHeld => ?_)
      refine wpAnyH_take (i := 0) (oi := ⟨some 24, _, _, _, _, _⟩) (v := ?vra1x0) rfl (by kernel_rfl) (by kernel_rfl) (by kernel_rfl) (fun _ _ _ h => h) (Or.inl ⟨by rfl, ?hyra1x0⟩) (by assumption) ?restra1x0
      case hyra1x0 => (intro wz hSw; (try dsimp only at hSw); go_simp <;> (try with_reducible rfl))
      try simp only [Act.put, List.setIfInBounds_toArray, List.set_cons_zero, List.set_cons_succ]
      refine wpAnyH_take (i := 1) (oi := ⟨some 25, _, _, _, _, _⟩) (v := ?vra2x1) rfl (by kernel_rfl) (by kernel_rfl) (by kernel_rfl) (fun _ _ _ h => h) (Or.inl ⟨by rfl, ?hyra2x1⟩) (by assumption) ?restra2x1
      case hyra2x1 => (intro wz hSw; (try dsimp only at hSw); go_simp <;> (try with_reducible rfl))
      try simp only [Act.put, List.setIfInBounds_toArray, List.set_cons_zero, List.set_cons_succ]
      refine wpAnyH_take (i := 2) (oi := ⟨some 26, _, _, _, _, _⟩) (v := ?vra3x2) rfl (by kernel_rfl) (by kernel_rfl) (by kernel_rfl) (fun _ _ _ h => h) (Or.inl ⟨by rfl, ?hyra3x2⟩) (by assumption) ?restra3x2
      case hyra3x2 => (intro wz hSw; (try dsimp only at hSw); go_simp <;> (try with_reducible rfl))
      try simp only [Act.put, List.setIfInBounds_toArray, List.set_cons_zero, List.set_cons_succ]
      refine wpAnyH_take (i := 3) (oi := ⟨some 27, _, _, _, _, _⟩) (v := ?vra4x3) rfl (by kernel_rfl) (by kernel_rfl) (by kernel_rfl) (fun _ _ _ h => h) (Or.inl ⟨by rfl, ?hyra4x3⟩) (by assumption) ?restra4x3
      case hyra4x3 => (intro wz hSw; (try dsimp only at hSw); go_simp <;> (try with_reducible rfl))
      try simp only [Act.put, List.setIfInBounds_toArray, List.set_cons_zero, List.set_cons_succ]
      refine wpAnyH_take (i := 4) (oi := ⟨some 28, _, _, _, _, _⟩) (v := ?vra5x4) rfl (by kernel_rfl) (by kernel_rfl) (by kernel_rfl) (fun _ _ _ h => h) (Or.inl ⟨by rfl, ?hyra5x4⟩) (by assumption) ?restra5x4
      case hyra5x4 => (intro wz hSw; (try dsimp only at hSw); go_simp <;> (try with_reducible rfl))
      try simp only [Act.put, List.setIfInBounds_toArray, List.set_cons_zero, List.set_cons_succ]
      refine wpAnyH_take (i := 5) (oi := ⟨some 29, _, _, _, _, _⟩) (v := ?vra6x5) rfl (by kernel_rfl) (by kernel_rfl) (by kernel_rfl) (fun _ _ _ h => h) (Or.inl ⟨by rfl, ?hyra6x5⟩) (by assumption) ?restra6x5
      case hyra6x5 => (intro wz hSw; (try dsimp only at hSw); go_simp <;> (try with_reducible rfl))
      try simp only [Act.put, List.setIfInBounds_toArray, List.set_cons_zero, List.set_cons_succ]
      refine wpAnyH_take (i := 6) (oi := ⟨some 30, _, _, _, _, _⟩) (v := ?vra7x6) rfl (by kernel_rfl) (by kernel_rfl) (by kernel_rfl) (fun _ _ _ h => h) (Or.inl ⟨by rfl, ?hyra7x6⟩) (by assumption) ?restra7x6
      case hyra7x6 => (intro wz hSw; (try dsimp only at hSw); go_simp <;> (try with_reducible rfl))
      try simp only [Act.put, List.setIfInBounds_toArray, List.set_cons_zero, List.set_cons_succ]
      refine wpAnyH_take (i := 7) (oi := ⟨some 31, _, _, _, _, _⟩) (v := ?vra8x7) rfl (by kernel_rfl) (by kernel_rfl) (by kernel_rfl) (fun _ _ _ h => h) (Or.inl ⟨by rfl, ?hyra8x7⟩) (by assumption) ?restra8x7
      case hyra8x7 => (intro wz hSw; (try dsimp only at hSw); go_simp <;> (try with_reducible rfl))
      try simp only [Act.put, List.setIfInBounds_toArray, List.set_cons_zero, List.set_cons_succ]
      refine wpAnyH_take (i := 8) (oi := ⟨some 32, _, _, _, _, _⟩) (v := ?vra9x8) rfl (by kernel_rfl) (by kernel_rfl) (by kernel_rfl) (fun _ _ _ h => h) (Or.inl ⟨by rfl, ?hyra9x8⟩) (by assumption) ?restra9x8
      case hyra9x8 => (intro wz hSw; (try dsimp only at hSw); go_simp <;> (try with_reducible rfl))
      try simp only [Act.put, List.setIfInBounds_toArray, List.set_cons_zero, List.set_cons_succ]
      refine wpAnyH_take (i := 9) (oi := ⟨some 33, _, _, _, _, _⟩) (v := ?vra10x9) rfl (by kernel_rfl) (by kernel_rfl) (by kernel_rfl) (fun _ _ _ h => h) (Or.inl ⟨by rfl, ?hyra10x9⟩) (by assumption) ?restra10x9
      case hyra10x9 => (intro wz hSw; (try dsimp only at hSw); go_simp <;> (try with_reducible rfl))
      try simp only [Act.put, List.setIfInBounds_toArray, List.set_cons_zero, List.set_cons_succ]
      refine wpAnyH_take (i := 10) (oi := ⟨some 34, _, _, _, _, _⟩) (v := ?vra11x10) rfl (by kernel_rfl) (by kernel_rfl) (by kernel_rfl) (fun _ _ _ h => h) (Or.inl ⟨by rfl, ?hyra11x10⟩) (by assumption) ?restra11x10
      case hyra11x10 => (intro wz hSw; (try dsimp only at hSw); go_simp <;> (try with_reducible rfl))
      try simp only [Act.put, List.setIfInBounds_toArray, List.set_cons_zero, List.set_cons_succ]
      refine wpAnyH_ready (rs := [11]) (by kernel_rfl) (by simp) (AllReadyH.cons (o := ⟨none, _, _, _, _, _⟩) rfl (fun K hK => ?_) AllReadyH.nil)
      refine step_store rfl 79 (.tmp 34) (.tmp 31) rfl m.b (k * 4) #[.bool true, .int .u32 yo, .int .u16 yq, .int .u16 F] rfl rfl (there_of (show (World.drew w3).heap[m.b]? = _ from HC1) (k * 4) 4 (by have := HSZ.out; have := HN.out.2.2.1; omega)) (by kernel_rfl) (by simp [Value.oneCell']) ?_
      have HST := keep (show ((World.drew w3).setCells m.b (k * 4) [.bool true, .int .u32 yo, .int .u16 yq, .int .u16 F]).heap[W.heap.size]? = some (.cells #[.bool ym, .int .u8 yk, .int .u16 yq, .int .u32 yt, .int .u32 yo, .slice y1 y2 y3] 26) from ((part_setCells m.b [.bool true, .int .u32 yo, .int .u16 yq, .int .u16 F] (k * 4) (World.drew w3)).block _ ((Array.getElem?_eq_some_iff.1 HA.out.2.2.1).1) (fun e => by have h3 := HA.out.2.2.2.1.ob; have e' : W.heap.size = m.b := e; rw [← e', HBo.out] at h3; cases h3)).trans HA.out.2.2.1)
      refine hK.out _ _ (HSX.out _ HST.out) (fun hHeld => ?_)
      clear hK K
      try simp only [Act.put, List.setIfInBounds_toArray, List.set_cons_zero, List.set_cons_succ]
      refine wpAnyH_done (by kernel_rfl) ?_ _
      obtain ⟨k1, k2, k3⟩ := HA.out.2.2.2.1.learn HA.out.2.2.2.2.1 (k := k) HN.out.2.2.1 ⟨true, yo, yq, F⟩
      have k3' := part_setCells m.b (Sp.cells ⟨true, yo, yq, F⟩) (k * 4) w3
      have k4 : (w3.setCells m.b (k * 4) (Sp.cells ⟨true, yo, yq, F⟩)).heap[W.heap.size]? = some (.cells #[.bool ym, .int .u8 yk, .int .u16 yq, .int .u32 yt, .int .u32 yo, .slice y1 y2 y3] 26) := (k3'.block _ ((Array.getElem?_eq_some_iff.1 HA.out.2.2.1).1) (fun e => by have h3 := HA.out.2.2.2.1.ob; have e' : W.heap.size = m.b := e; rw [← e', HBo.out] at h3; cases h3)).trans HA.out.2.2.1
      have k5 := HA.out.2.2.2.2.2.1.step k3 (fun k hk => hk.nd) (Ext.refl w3 ow)
      have k6 := HA.out.2.2.2.2.2.2.1.trans k3 fun k hk => .inl hk
      have k7 := Nat.le_trans HA.out.2.2.2.2.2.2.2 k3.size
      have HL := keep (And.intro k1 (And.intro k2 (And.intro k4 (And.intro k5 (And.intro k6 k7)))))
      clear k1 k2 k3 k3' k4 k5 k6 k7
      obtain ⟨W5, hW5⟩ : ∃ W5, w3.setCells m.b (k * 4) (Sp.cells ⟨true, yo, yq, F⟩) = W5 := ⟨_, rfl⟩
      have hW5' : (World.drew w3).setCells m.b (k * 4) [.bool true, .int .u32 yo, .int .u16 yq, .int .u16 F] = World.drew W5 := by rw [← hW5]; rfl
      rw [hW5] at HL
      rw [hW5']
      clear hW5 hW5' HA HC1 HSZ
      have HL := keep (show LA lo ow n { m with sp := putN m.sp k ⟨true, yo, yq, F⟩ } (World.drew W5) ∧ Ok lo ow (World.drew W5) ∧ (World.drew W5).heap[W.heap.size]? = some (.cells #[.bool ym, .int .u8 yk, .int .u16 yq, .int .u32 yt, .int .u32 yo, .slice y1 y2 y3] 26) ∧ IV ow (World.drew W5) ⟨ym, yk, yq, yt, yo, (y1, y2, y3), yb⟩ ∧ Part (Of ow n) W (World.drew W5) ∧ lo ≤ (World.drew W5).heap.size from ⟨HL.out.1.step (Below.refl _ W5).drew, HL.out.2.1.step (Nat.le_refl _), HL.out.2.2.1, HL.out.2.2.2.1.step (Part.of_below (fun _ => False) (Below.refl _ W5).drew) (fun _ h => h.elim) (Ext.refl W5 ow), HL.out.2.2.2.2.1.drew, HL.out.2.2.2.2.2⟩)
      generalize World.drew W5 = W6 at *
      obtain ⟨d0, d1⟩ := HL.out.1.c64
      have d2 := HL.out.1.fz 65
      dsimp only [Gl.sl] at d0 d1 d2
      have hge : ((room : Int) ≤ (m.v.2.1 : Int)) = False := by apply eq_false; have := HN.out.2.2.2.1; omega
      have hgeI : ¬ ((room : Int) ≤ (m.v.2.1 : Int)) := by have := HN.out.2.2.2.1; omega
      have hw1 : IntKind.u32.wrap (k : Int) = (k : Int) := by rw [wrap_u32]; omega
      have hw2 : IntKind.u32.wrap ((k : Int) + 1) = (k : Int) + 1 := by rw [wrap_u32]; omega
      have z2 := upd_fz HL.out.2.2.1 2
      have z4 := upd_fz HL.out.2.2.1 4
      have p2 := upd_cell HL.out.2.2.1 2 _ rfl
      have p4 := upd_cell HL.out.2.2.1 4 _ rfl
      have HLW := keep (show m.ws.length + 1 ≤ 64 by have := HN.out.1; omega)
      clear hlt hge HSX
      go_wp2_with fail
      obtain ⟨Wc, hWc⟩ : ∃ Wc, (W6.setCell ⟨W.heap.size, 2, none⟩ (.int .u16 F)).setCell ⟨W.heap.size, 4, none⟩ (.int .u32 ((k : Int) + 1)) = Wc := ⟨_, rfl⟩
      have hpp : Part (fun i => i = W.heap.size) W6 Wc := by rw [← hWc]; exact (part_one (S := fun i => i = W.heap.size) W6 W.heap.size 2 _ rfl).trans (part_one (S := fun i => i = W.heap.size) _ W.heap.size 4 _ rfl) fun i hi => .inl hi
      have hSS : ∀ i, i = W.heap.size → ow i ≠ some Tag.dat ∧ ¬ Of ow n i := fun i hi => by subst hi; exact ⟨by rw [HBo.out]; simp, fun ⟨t, h1, _⟩ => by rw [HBo.out] at h1; cases h1⟩
      have hrow : Wc.heap[W.heap.size]? = some (.cells #[.bool ym, .int .u8 yk, .int .u16 F, .int .u32 yt, .int .u32 ((k : Int) + 1), .slice y1 y2 y3] 26) := by rw [← hWc]; exact heap_setCell_same _ W.heap.size 4 _ _ _ (heap_setCell_same W6 W.heap.size 2 _ _ _ HL.out.2.2.1)
      have hiv : IV ow Wc ⟨ym, yk, F, yt, (k : Int) + 1, (y1, y2, y3), yb⟩ := by have h9 := HL.out.2.2.2.1.step hpp (fun i hi => (hSS i hi).1) (Ext.refl W6 ow); exact ⟨h9.bs, h9.ut, h9.le⟩
      have HAA := keep (show LA lo ow n { m with sp := putN m.sp k ⟨true, yo, yq, F⟩ } Wc ∧ Ok lo ow Wc ∧ IV ow Wc ⟨ym, yk, F, yt, (k : Int) + 1, (y1, y2, y3), yb⟩ ∧ m.ws.length + 1 ≤ 64 ∧ Wc.heap[W.heap.size]? = some (.cells #[.bool ym, .int .u8 yk, .int .u16 F, .int .u32 yt, .int .u32 ((k : Int) + 1), .slice y1 y2 y3] 26) ∧ ow W.heap.size = none from ⟨HL.out.1.keep hpp hSS (Ext.refl W6 ow), HL.out.2.1.step hpp.size, hiv, HLW.out, hrow, HBo.out⟩)
      have HEE := keep (show Part (Of ow n) W Wc from HL.out.2.2.2.2.1.trans (hpp.mono (S' := fun i => i = W.heap.size) fun i hi => hi) fun i hi => .inr (by omega))
      have HLL := keep (show lo ≤ Wc.heap.size from Nat.le_trans HL.out.2.2.2.2.2 hpp.size)
      rw [hWc]
      clear hWc hpp hSS hrow hiv HL HLW d0 d1 d2 z2 z4 p2 p4
      obtain ⟨B, hBe⟩ : ∃ B, W.heap.size = B := ⟨_, rfl⟩
      simp only [hBe] at HAA ⊢
      replace hBe := keep hBe
      obtain ⟨m0, hm0⟩ : ∃ m0 : Gl, m0 = { m with sp := putN m.sp k ⟨true, yo, yq, F⟩ } := ⟨_, rfl⟩
      have hmb0 : m.b = m0.b := by rw [hm0]
      have HM0 := keep (show m0.v = m.v ∧ m0.ws = m.ws ∧ m0.lm = { m.lm with sp := putN m.sp k ⟨true, yo, yq, F⟩ } ∧ m0.b = m.b by rw [hm0]; exact ⟨rfl, rfl, rfl, rfl⟩)
      rw [← hm0, ← HM0.out.2.1] at HAA
      rw [hmb0]
      clear hm0 hmb0
      obtain ⟨e0, he0, ez0, ez1, ez2⟩ := info_parts pkt_info2
      have HSX := keep (show ∀ W' : World, W'.heap[B]? = Wc.heap[B]? → W'.cell? ⟨B, 0, none⟩ = some (.bool ym) ∧ W'.cell? ⟨B, 1, none⟩ = some (.int .u8 yk) ∧ W'.cell? ⟨B, 2, none⟩ = some (.int .u16 F) ∧ W'.cell? ⟨B, 3, none⟩ = some (.int .u32 yt) ∧ W'.cell? ⟨B, 4, none⟩ = some (.int .u32 ((k : Int) + 1)) ∧ W'.cell? ⟨B, 5, none⟩ = some (.slice y1 y2 y3) from fun W' g2 => ⟨upd_cell (g2.trans HAA.out.2.2.2.2.1) 0 _ rfl, upd_cell (g2.trans HAA.out.2.2.2.2.1) 1 _ rfl, upd_cell (g2.trans HAA.out.2.2.2.2.1) 2 _ rfl, upd_cell (g2.trans HAA.out.2.2.2.2.1) 3 _ rfl, upd_cell (g2.trans HAA.out.2.2.2.2.1) 4 _ rfl, upd_cell (g2.trans HAA.out.2.2.2.2.1) 5 _ rfl⟩)
      have HBL := keep (show m0.b < Wc.heap.size ∧ B < Wc.heap.size from ⟨HAA.out.1.lt, (Array.getElem?_eq_some_iff.1 HAA.out.2.2.2.2.1).1⟩)
      have AL := keep (below_lay (World.drew Wc) (.cells #[.bool ym, .int .u8 yk, .int .u16 F, .int .u32 yt, .int .u32 ((k : Int) + 1), .slice y1 y2 y3] 26))
      have HMX := keep (show m0.v.2.1 + 1 ≤ maxLen ∧ (m0.v.2.1 + 1) * 40 ≤ 140737488355328 from by have h8 := HAA.out.1.vlen; have h7 := HAA.out.2.2.2.1; unfold maxLen; omega)
      have HRW := keep (show (World.drew Wc).ownsRow lo 26 6 (.slice m0.v.1 m0.v.2.1 m0.v.2.2) m0.v.2.1 (flatF Pv.cells m0.ws) from by have h9 := HAA.out.1.wt; have h8 := HAA.out.1.vlen; unfold Gl.sl at h9; rw [← h8] at h9; exact h9)
      have c1a : (World.drew Wc).cell? ⟨m0.b, 64, none⟩ = some (.slice m0.v.1 m0.v.2.1 m0.v.2.2) := HAA.out.1.c64.1
      have c1b : (Wc.alloc (.cells #[.bool ym, .int .u8 yk, .int .u16 F, .int .u32 yt, .int .u32 ((k : Int) + 1), .slice y1 y2 y3] 26)).cell? ⟨m0.b, 64, none⟩ = some (.slice m0.v.1 m0.v.2.1 m0.v.2.2) := ((AL.out).cell (p := ⟨m0.b, 64, none⟩) HBL.out.1).trans c1a
      refine wp_region_held_drew (S := (fun w' => w'.cell? ⟨B, 0, none⟩ = some (.bool ym) ∧ w'.cell? ⟨B, 1, none⟩ = some (.int .u8 yk) ∧ w'.cell? ⟨B, 2, none⟩ = some (.int .u16 F) ∧ w'.cell? ⟨B, 3, none⟩ = some (.int .u32 yt) ∧ w'.cell? ⟨B, 4, none⟩ = some (.int .u32 ((k : Int) + 1)) ∧ w'.cell? ⟨B, 5, none⟩ = some (.slice y1 y2 y3))) (by kernel_rfl) (HSX.out _ rfl) (fun hHeld => ?_)
      refine wpAnyH_take (i := 0) (oi := ⟨some 55, _, _, _, _, _⟩) (v := ?vp1x0) rfl (by kernel_rfl) (by kernel_rfl) (by kernel_rfl) (fun _ _ _ h => h) (Or.inl ⟨by rfl, ?hyp1x0⟩) (by assumption) ?restp1x0
      case hyp1x0 => (intro wz hSw; (try dsimp only at hSw); go_simp <;> (try with_reducible rfl))
      try simp only [Act.put, List.setIfInBounds_toArray, List.set_cons_zero, List.set_cons_succ]
      refine wpAnyH_take (i := 1) (oi := ⟨some 56, _, _, _, _, _⟩) (v := ?vp2x1) rfl (by kernel_rfl) (by kernel_rfl) (by kernel_rfl) (fun _ _ _ h => h) (Or.inl ⟨by rfl, ?hyp2x1⟩) (by assumption) ?restp2x1
      case hyp2x1 => (intro wz hSw; (try dsimp only at hSw); go_simp <;> (try with_reducible rfl))
      try simp only [Act.put, List.setIfInBounds_toArray, List.set_cons_zero, List.set_cons_succ]
      refine wpAnyH_take (i := 2) (oi := ⟨some 57, _, _, _, _, _⟩) (v := ?vp3x2) rfl (by kernel_rfl) (by kernel_rfl) (by kernel_rfl) (fun _ _ _ h => h) (Or.inl ⟨by rfl, ?hyp3x2⟩) (by assumption) ?restp3x2
      case hyp3x2 => (intro wz hSw; (try dsimp only at hSw); go_simp <;> (try with_reducible rfl))
      try simp only [Act.put, List.setIfInBounds_toArray, List.set_cons_zero, List.set_cons_succ]
      refine wpAnyH_take (i := 3) (oi := ⟨some 58, _, _, _, _, _⟩) (v := ?vp4x3) rfl (by kernel_rfl) (by kernel_rfl) (by kernel_rfl) (fun _ _ _ h => h) (Or.inl ⟨by rfl, ?hyp4x3⟩) (by assumption) ?restp4x3
      case hyp4x3 => (intro wz hSw; (try dsimp only at hSw); go_simp <;> (try with_reducible rfl))
      try simp only [Act.put, List.setIfInBounds_toArray, List.set_cons_zero, List.set_cons_succ]
      refine wpAnyH_take (i := 5) (oi := ⟨some 60, _, _, _, _, _⟩) (v := ?vp5x5) rfl (by kernel_rfl) (by kernel_rfl) (by kernel_rfl) (fun _ _ _ h => h) (Or.inl ⟨by rfl, ?hyp5x5⟩) (by assumption) ?restp5x5
      case hyp5x5 => (intro wz hSw; (try dsimp only at hSw); go_simp <;> (try with_reducible rfl))
      try simp only [Act.put, List.setIfInBounds_toArray, List.set_cons_zero, List.set_cons_succ]
      refine wpAnyH_ready (rs := [4, 6]) (by kernel_rfl) (by simp) (AllReadyH.cons (o := ⟨some 59, _, _, _, _, _⟩) rfl (fun K hK => ?pa) (AllReadyH.cons (o := ⟨some 61, _, _, _, _, _⟩) rfl (fun K hK => ?pb) AllReadyH.nil))
      case pa =>
        go_simp
        refine hK.out _ _ (HSX.out _ rfl) (fun hHeld => ?_)
        clear hK K
        try simp only [Act.put, List.setIfInBounds_toArray, List.set_cons_zero, List.set_cons_succ]
        refine wpAnyH_ready (rs := [6]) (by kernel_rfl) (by simp) (AllReadyH.cons (o := ⟨some 61, _, _, _, _, _⟩) rfl (fun K hK => ?_) AllReadyH.nil)
        go_simp
        refine hK.out _ _ (HSX.out _ (AL.out.block _ HBL.out.2)) (fun hHeld => ?_)
        clear hK K
        try simp only [Act.put, List.setIfInBounds_toArray, List.set_cons_zero, List.set_cons_succ]
        refine wpAnyH_ready (rs := [7]) (by kernel_rfl) (by simp) (AllReadyH.cons (o := ⟨some 62, _, _, _, _, _⟩) rfl (fun K hK => ?_) AllReadyH.nil)
        refine step_append_at rfl (.tmp 59) (.tmp 61) 81 rfl lo 26 e0 _ 6 40 Try.underlying81 he0 ez0 ez1 ez2 rfl (by decide) (.slice m0.v.1 m0.v.2.1 m0.v.2.2) m0.v.2.1 (flatF Pv.cells m0.ws) rfl (HRW.out.alloc _) ⟨Wc.heap.size, 0, none⟩ 1 1 [.bool ym, .int .u8 yk, .int .u16 F, .int .u32 yt, .int .u32 ((k : Int) + 1), .slice y1 y2 y3] rfl rfl (lay_add (W := World.drew Wc)) (by simp [Value.oneCell']) HMX.out.1 HMX.out.2 (Nat.le_trans HLL.out AL.out.size) ?_
        intro A5 c5 w5 ho5 hg5 hl5
        obtain ⟨⟨c15, f15⟩, ow6, k1, k2, k3, k4⟩ := LA.app (W1 := ((World.drew Wc).alloc (.cells #[.bool ym, .int .u8 yk, .int .u16 F, .int .u32 yt, .int .u32 ((k : Int) + 1), .slice y1 y2 y3] 26))) HAA.out.1 HAA.out.2.1 HAA.out.2.2.1 HAA.out.2.2.2.1 (((Below.refl _ Wc).drew).trans (AL.out.mono (Nat.le_refl _))) ho5.out hg5.out hl5.out
        have HF := keep (show MP lo n ow W m { m0.lm with ws := m0.lm.ws ++ [⟨ym, yk, F, yt, (k : Int) + 1, yb⟩] } (w5.setCell ⟨m0.b, 64, none⟩ (.slice A5 (m0.v.2.1 + 1) c5)) from ⟨ow6, _, k1, k2, fun i hi => k3 i (Nat.lt_of_lt_of_le hi HEE.out.size), HEE.out.trans k4 fun i hi => .inl hi, HM0.out.2.2.2, by unfold Gl.lm; dsimp only; rw [List.map_append]; rfl⟩)
        have HS5h := keep (show w5.heap[B]? = Wc.heap[B]? from (hg5.out.block B (Nat.lt_of_lt_of_le HBL.out.2 AL.out.size) (fun e => by obtain ⟨a, ha, hk⟩ := own_sl HAA.out.1 e.symm; have h3 := HAA.out.1.ov a ha; rw [← hk, HAA.out.2.2.2.2.2] at h3; cases h3)).trans (AL.out.block _ HBL.out.2))
        have HS5 := keep (HSX.out w5 HS5h.out)
        have HS6 := keep (HSX.out (w5.setCell ⟨m0.b, 64, none⟩ (.slice A5 (m0.v.2.1 + 1) c5)) ((Below.heap_setCell w5 _ _ _ (fun e => by have e' : B = m0.b := e; have h3 := HAA.out.1.ob; rw [← e', HAA.out.2.2.2.2.2] at h3; cases h3)).trans HS5h.out))
        clear ho5 hg5 hl5 k1 k2 k3 k4 c1a c1b
        refine hK.out _ _ HS5.out (fun hHeld => ?_)
        clear hK K
        try simp only [Act.put, List.setIfInBounds_toArray, List.set_cons_zero, List.set_cons_succ]
        refine wpAnyH_take (i := 8) (oi := ⟨some 63, _, _, _, _, _⟩) (v := ?vqa1x8) rfl (by kernel_rfl) (by kernel_rfl) (by kernel_rfl) (fun _ _ _ h => h) (Or.inl ⟨by rfl, ?hyqa1x8⟩) (by assumption) ?restqa1x8
        case hyqa1x8 => (intro wz hSw; (try dsimp only at hSw); go_simp <;> (try with_reducible rfl))
        try simp only [Act.put, List.setIfInBounds_toArray, List.set_cons_zero, List.set_cons_succ]
        refine wpAnyH_take (i := 9) (oi := ⟨some 64, _, _, _, _, _⟩) (v := ?vqa2x9) rfl (by kernel_rfl) (by kernel_rfl) (by kernel_rfl) (fun _ _ _ h => h) (Or.inl ⟨by rfl, ?hyqa2x9⟩) (by assumption) ?restqa2x9
        case hyqa2x9 => (intro wz hSw; (try dsimp only at hSw); go_simp <;> (try with_reducible rfl))
        try simp only [Act.put, List.setIfInBounds_toArray, List.set_cons_zero, List.set_cons_succ]
        refine wpAnyH_ready (rs := [10]) (by kernel_rfl) (by simp) (AllReadyH.cons (o := ⟨none, _, _, _, _, _⟩) rfl (fun K hK => ?_) AllReadyH.nil)
        go_simp
        refine hK.out _ _ HS6.out (fun hHeld => ?_)
        clear hK K
        try simp only [Act.put, List.setIfInBounds_toArray, List.set_cons_zero, List.set_cons_succ]
        refine wpAnyH_done (by kernel_rfl) ?_ _
        go_wp2
        go_ret
        exact ⟨rfl, by have h9 := HF.out; rw [HM0.out.2.2.1] at h9; exact h9⟩
      case pb =>
        go_simp
        refine hK.out _ _ (HSX.out _ (AL.out.block _ HBL.out.2)) (fun hHeld => ?_)
        clear hK K
        try simp only [Act.put, List.setIfInBounds_toArray, List.set_cons_zero, List.set_cons_succ]
        refine wpAnyH_ready (rs := [4]) (by kernel_rfl) (by simp) (AllReadyH.cons (o := ⟨some 59, _, _, _, _, _⟩) rfl (fun K hK => ?_) AllReadyH.nil)
        go_simp
        refine hK.out _ _ (HSX.out _ (AL.out.block _ HBL.out.2)) (fun hHeld => ?_)
        clear hK K
        try simp only [Act.put, List.setIfInBounds_toArray, List.set_cons_zero, List.set_cons_succ]
        refine wpAnyH_ready (rs := [7]) (by kernel_rfl) (by simp) (AllReadyH.cons (o := ⟨some 62, _, _, _, _, _⟩) rfl (fun K hK => ?_) AllReadyH.nil)
        refine step_append_at rfl (.tmp 59) (.tmp 61) 81 rfl lo 26 e0 _ 6 40 Try.underlying81 he0 ez0 ez1 ez2 rfl (by decide) (.slice m0.v.1 m0.v.2.1 m0.v.2.2) m0.v.2.1 (flatF Pv.cells m0.ws) rfl (HRW.out.alloc _) ⟨Wc.heap.size, 0, none⟩ 1 1 [.bool ym, .int .u8 yk, .int .u16 F, .int .u32 yt, .int .u32 ((k : Int) + 1), .slice y1 y2 y3] rfl rfl (lay_add (W := World.drew Wc)) (by simp [Value.oneCell']) HMX.out.1 HMX.out.2 (Nat.le_trans HLL.out AL.out.size) ?_
        intro A5 c5 w5 ho5 hg5 hl5
        obtain ⟨⟨c15, f15⟩, ow6, k1, k2, k3, k4⟩ := LA.app (W1 := ((World.drew Wc).alloc (.cells #[.bool ym, .int .u8 yk, .int .u16 F, .int .u32 yt, .int .u32 ((k : Int) + 1), .slice y1 y2 y3] 26))) HAA.out.1 HAA.out.2.1 HAA.out.2.2.1 HAA.out.2.2.2.1 (((Below.refl _ Wc).drew).trans (AL.out.mono (Nat.le_refl _))) ho5.out hg5.out hl5.out
        have HF := keep (show MP lo n ow W m { m0.lm with ws := m0.lm.ws ++ [⟨ym, yk, F, yt, (k : Int) + 1, yb⟩] } (w5.setCell ⟨m0.b, 64, none⟩ (.slice A5 (m0.v.2.1 + 1) c5)) from ⟨ow6, _, k1, k2, fun i hi => k3 i (Nat.lt_of_lt_of_le hi HEE.out.size), HEE.out.trans k4 fun i hi => .inl hi, HM0.out.2.2.2, by unfold Gl.lm; dsimp only; rw [List.map_append]; rfl⟩)
        have HS5h := keep (show w5.heap[B]? = Wc.heap[B]? from (hg5.out.block B (Nat.lt_of_lt_of_le HBL.out.2 AL.out.size) (fun e => by obtain ⟨a, ha, hk⟩ := own_sl HAA.out.1 e.symm; have h3 := HAA.out.1.ov a ha; rw [← hk, HAA.out.2.2.2.2.2] at h3; cases h3)).trans (AL.out.block _ HBL.out.2))
        have HS5 := keep (HSX.out w5 HS5h.out)
        have HS6 := keep (HSX.out (w5.setCell ⟨m0.b, 64, none⟩ (.slice A5 (m0.v.2.1 + 1) c5)) ((Below.heap_setCell w5 _ _ _ (fun e => by have e' : B = m0.b := e; have h3 := HAA.out.1.ob; rw [← e', HAA.out.2.2.2.2.2] at h3; cases h3)).trans HS5h.out))
        clear ho5 hg5 hl5 k1 k2 k3 k4 c1a c1b
        refine hK.out _ _ HS5.out (fun hHeld => ?_)
        clear hK K
        try simp only [Act.put, List.setIfInBounds_toArray, List.set_cons_zero, List.set_cons_succ]
        refine wpAnyH_take (i := 8) (oi := ⟨some 63, _, _, _, _, _⟩) (v := ?vqb1x8) rfl (by kernel_rfl) (by kernel_rfl) (by kernel_rfl) (fun _ _ _ h => h) (Or.inl ⟨by rfl, ?hyqb1x8⟩) (by assumption) ?restqb1x8
        case hyqb1x8 => (intro wz hSw; (try dsimp only at hSw); go_simp <;> (try with_reducible rfl))
        try simp only [Act.put, List.setIfInBounds_toArray, List.set_cons_zero, List.set_cons_succ]
        refine wpAnyH_take (i := 9) (oi := ⟨some 64, _, _, _, _, _⟩) (v := ?vqb2x9) rfl (by kernel_rfl) (by kernel_rfl) (by kernel_rfl) (fun _ _ _ h => h) (Or.inl ⟨by rfl, ?hyqb2x9⟩) (by assumption) ?restqb2x9
        case hyqb2x9 => (intro wz hSw; (try dsimp only at hSw); go_simp <;> (try with_reducible rfl))
        try simp only [Act.put, List.setIfInBounds_toArray, List.set_cons_zero, List.set_cons_succ]
        refine wpAnyH_ready (rs := [10]) (by kernel_rfl) (by simp) (AllReadyH.cons (o := ⟨none, _, _, _, _, _⟩) rfl (fun K hK => ?_) AllReadyH.nil)
        go_simp
        refine hK.out _ _ HS6.out (fun hHeld => ?_)
        clear hK K
        try simp only [Act.put, List.setIfInBounds_toArray, List.set_cons_zero, List.set_cons_succ]
        refine wpAnyH_done (by kernel_rfl) ?_ _
        go_wp2
        go_ret
        exact ⟨rfl, by have h9 := HF.out; rw [HM0.out.2.2.1] at h9; exact h9⟩
    · rw [if_neg hlt, decide_eq_false hlt]
      unfold ptr
      go_enter Try.func45, Try.ntmps45
      go_wp2_with (first | (go_at_call 46; have _ := KB; refine (KB.out _).mono ?_; clear KB; rintro e w2 ⟨rfl, hb2⟩; have HB2 := keep hb2; obtain ⟨⟨p0, p1, p2, p3, p4, p5⟩, ⟨q0, q1, q2, q3⟩, _⟩ := HX.out w2 hb2; clear hb2) | (go_at_call 47; refine (KF.out _).mono ?_; rintro e w3 ⟨rfl, hb3⟩; have HB3 := keep (HB2.out.trans (hb3.mono HB2.out.size)); clear hb3 p0 p1 p2 p3 p4 p5 q0 q1 q2 q3))
      have HA := keep (HX.out w3 HB3.out)
      clear HX HB2 HB3 KF c0 c1 c2 c3
      have HSX := keep (show ∀ w : World, w.heap[W.heap.size]? = some (.cells #[.bool ym, .int .u8 yk, .int .u16 yq, .int .u32 yt, .int .u32 yo, .slice y1 y2 y3] 26) → w.cell? ⟨W.heap.size, 4, none⟩ = some (.int .u32 yo) ∧ w.cell? ⟨W.heap.size, 2, none⟩ = some (.int .u16 yq) from fun w g => ⟨upd_cell g 4 _ rfl, upd_cell g 2 _ rfl⟩)
      obtain ⟨cur, HC1, HC2⟩ := HA.out.2.2.2.1.hd
      have HSZ := keep (HC2.sz)
      clear HC2
      refine wp_region_held_drew (S := (fun w' => w'.cell? ⟨W.heap.size, 4, none⟩ = some (.int .u32 yo) ∧ w'.cell? ⟨W.heap.size, 2, none⟩ = some (.int .u16 yq))) (by kernel_rfl) (HSX.out _ HA.out.2.2.1) (fun hHeld => ?_)
      refine wpAnyH_take (i := 0) (oi := ⟨some 24, _, _, _, _, _⟩) (v := ?vrb1x0) rfl (by kernel_rfl) (by kernel_rfl) (by kernel_rfl) (fun _ _ _ h => h) (Or.inl ⟨by rfl, ?hyrb1x0⟩) (by assumption) ?restrb1x0
      case hyrb1x0 => (intro wz hSw; (try dsimp only at hSw); go_simp <;> (try with_reducible rfl))
      try simp only [Act.put, List.setIfInBounds_toArray, List.set_cons_zero, List.set_cons_succ]
      refine wpAnyH_take (i := 1) (oi := ⟨some 25, _, _, _, _, _⟩) (v := ?vrb2x1) rfl (by kernel_rfl) (by kernel_rfl) (by kernel_rfl) (fun _ _ _ h => h) (Or.inl ⟨by rfl, ?hyrb2x1⟩) (by assumption) ?restrb2x1
      case hyrb2x1 => (intro wz hSw; (try dsimp only at hSw); go_simp <;> (try with_reducible rfl))
      try simp only [Act.put, List.setIfInBounds_toArray, List.set_cons_zero, List.set_cons_succ]
      refine wpAnyH_take (i := 2) (oi := ⟨some 26, _, _, _, _, _⟩) (v := ?vrb3x2) rfl (by kernel_rfl) (by kernel_rfl) (by kernel_rfl) (fun _ _ _ h => h) (Or.inl ⟨by rfl, ?hyrb3x2⟩) (by assumption) ?restrb3x2
      case hyrb3x2 => (intro wz hSw; (try dsimp only at hSw); go_simp <;> (try with_reducible rfl))
      try simp only [Act.put, List.setIfInBounds_toArray, List.set_cons_zero, List.set_cons_succ]
      refine wpAnyH_take (i := 3) (oi := ⟨some 27, _, _, _, _, _⟩) (v := ?vrb4x3) rfl (by kernel_rfl) (by kernel_rfl) (by kernel_rfl) (fun _ _ _ h => h) (Or.inl ⟨by rfl, ?hyrb4x3⟩) (by assumption) ?restrb4x3
      case hyrb4x3 => (intro wz hSw; (try dsimp only at hSw); go_simp <;> (try with_reducible rfl))
      try simp only [Act.put, List.setIfInBounds_toArray, List.set_cons_zero, List.set_cons_succ]
      refine wpAnyH_take (i := 4) (oi := ⟨some 28, _, _, _, _, _⟩) (v := ?vrb5x4) rfl (by kernel_rfl) (by kernel_rfl) (by kernel_rfl) (fun _ _ _ h => h) (Or.inl ⟨by rfl, ?hyrb5x4⟩) (by assumption) ?restrb5x4
      case hyrb5x4 => (intro wz hSw; (try dsimp only at hSw); go_simp <;> (try with_reducible rfl))
      try simp only [Act.put, List.setIfInBounds_toArray, List.set_cons_zero, List.set_cons_succ]
      refine wpAnyH_take (i := 5) (oi := ⟨some 29, _, _, _, _, _⟩) (v := ?vrb6x5) rfl (by kernel_rfl) (by kernel_rfl) (by kernel_rfl) (fun _ _ _ h => h) (Or.inl ⟨by rfl, ?hyrb6x5⟩) (by assumption) ?restrb6x5
      case hyrb6x5 => (intro wz hSw; (try dsimp only at hSw); go_simp <;> (try with_reducible rfl))
      try simp only [Act.put, List.setIfInBounds_toArray, List.set_cons_zero, List.set_cons_succ]
      refine wpAnyH_take (i := 6) (oi := ⟨some 30, _, _, _, _, _⟩) (v := ?vrb7x6) rfl (by kernel_rfl) (by kernel_rfl) (by kernel_rfl) (fun _ _ _ h => h) (Or.inl ⟨by rfl, ?hyrb7x6⟩) (by assumption) ?restrb7x6
      case hyrb7x6 => (intro wz hSw; (try dsimp only at hSw); go_simp <;> (try with_reducible rfl))
      try simp only [Act.put, List.setIfInBounds_toArray, List.set_cons_zero, List.set_cons_succ]
      refine wpAnyH_take (i := 7) (oi := ⟨some 31, _, _, _, _, _⟩) (v := ?vrb8x7) rfl (by kernel_rfl) (by kernel_rfl) (by kernel_rfl) (fun _ _ _ h => h) (Or.inl ⟨by rfl, ?hyrb8x7⟩) (by assumption) ?restrb8x7
      case hyrb8x7 => (intro wz hSw; (try dsimp only at hSw); go_simp <;> (try with_reducible rfl))
      try simp only [Act.put, List.setIfInBounds_toArray, List.set_cons_zero, List.set_cons_succ]
      refine wpAnyH_take (i := 8) (oi := ⟨some 32, _, _, _, _, _⟩) (v := ?vrb9x8) rfl (by kernel_rfl) (by kernel_rfl) (by kernel_rfl) (fun _ _ _ h => h) (Or.inl ⟨by rfl, ?hyrb9x8⟩) (by assumption) ?restrb9x8
      case hyrb9x8 => (intro wz hSw; (try dsimp only at hSw); go_simp <;> (try with_reducible rfl))
      try simp only [Act.put, List.setIfInBounds_toArray, List.set_cons_zero, List.set_cons_succ]
      refine wpAnyH_take (i := 9) (oi := ⟨some 33, _, _, _, _, _⟩) (v := ?vrb10x9) rfl (by kernel_rfl) (by kernel_rfl) (by kernel_rfl) (fun _ _ _ h => h) (Or.inl ⟨by rfl, ?hyrb10x9⟩) (by assumption) ?restrb10x9
      case hyrb10x9 => (intro wz hSw; (try dsimp only at hSw); go_simp <;> (try with_reducible rfl))
      try simp only [Act.put, List.setIfInBounds_toArray, List.set_cons_zero, List.set_cons_succ]
      refine wpAnyH_take (i := 10) (oi := ⟨some 34, _, _, _, _, _⟩) (v := ?vrb11x10) rfl (by kernel_rfl) (by kernel_rfl) (by kernel_rfl) (fun _ _ _ h => h) (Or.inl ⟨by rfl, ?hyrb11x10⟩) (by assumption) ?restrb11x10
      case hyrb11x10 => (intro wz hSw; (try dsimp only at hSw); go_simp <;> (try with_reducible rfl))
      try simp only [Act.put, List.setIfInBounds_toArray, List.set_cons_zero, List.set_cons_succ]
      refine wpAnyH_ready (rs := [11]) (by kernel_rfl) (by simp) (AllReadyH.cons (o := ⟨none, _, _, _, _, _⟩) rfl (fun K hK => ?_) AllReadyH.nil)
      refine step_store rfl 79 (.tmp 34) (.tmp 31) rfl m.b (k * 4) #[.bool true, .int .u32 yo, .int .u16 yq, .int .u16 F] rfl rfl (there_of (show (World.drew w3).heap[m.b]? = _ from HC1) (k * 4) 4 (by have := HSZ.out; have := HN.out.2.2.1; omega)) (by kernel_rfl) (by simp [Value.oneCell']) ?_
      have HST := keep (show ((World.drew w3).setCells m.b (k * 4) [.bool true, .int .u32 yo, .int .u16 yq, .int .u16 F]).heap[W.heap.size]? = some (.cells #[.bool ym, .int .u8 yk, .int .u16 yq, .int .u32 yt, .int .u32 yo, .slice y1 y2 y3] 26) from ((part_setCells m.b [.bool true, .int .u32 yo, .int .u16 yq, .int .u16 F] (k * 4) (World.drew w3)).block _ ((Array.getElem?_eq_some_iff.1 HA.out.2.2.1).1) (fun e => by have h3 := HA.out.2.2.2.1.ob; have e' : W.heap.size = m.b := e; rw [← e', HBo.out] at h3; cases h3)).trans HA.out.2.2.1)
      refine hK.out _ _ (HSX.out _ HST.out) (fun hHeld => ?_)
      clear hK K
      try simp only [Act.put, List.setIfInBounds_toArray, List.set_cons_zero, List.set_cons_succ]
      refine wpAnyH_done (by kernel_rfl) ?_ _
      obtain ⟨k1, k2, k3⟩ := HA.out.2.2.2.1.learn HA.out.2.2.2.2.1 (k := k) HN.out.2.2.1 ⟨true, yo, yq, F⟩
      have k3' := part_setCells m.b (Sp.cells ⟨true, yo, yq, F⟩) (k * 4) w3
      have k4 : (w3.setCells m.b (k * 4) (Sp.cells ⟨true, yo, yq, F⟩)).heap[W.heap.size]? = some (.cells #[.bool ym, .int .u8 yk, .int .u16 yq, .int .u32 yt, .int .u32 yo, .slice y1 y2 y3] 26) := (k3'.block _ ((Array.getElem?_eq_some_iff.1 HA.out.2.2.1).1) (fun e => by have h3 := HA.out.2.2.2.1.ob; have e' : W.heap.size = m.b := e; rw [← e', HBo.out] at h3; cases h3)).trans HA.out.2.2.1
      have k5 := HA.out.2.2.2.2.2.1.step k3 (fun k hk => hk.nd) (Ext.refl w3 ow)
      have k6 := HA.out.2.2.2.2.2.2.1.trans k3 fun k hk => .inl hk
      have k7 := Nat.le_trans HA.out.2.2.2.2.2.2.2 k3.size
      have HL := keep (And.intro k1 (And.intro k2 (And.intro k4 (And.intro k5 (And.intro k6 k7)))))
      clear k1 k2 k3 k3' k4 k5 k6 k7
      obtain ⟨W5, hW5⟩ : ∃ W5, w3.setCells m.b (k * 4) (Sp.cells ⟨true, yo, yq, F⟩) = W5 := ⟨_, rfl⟩
      have hW5' : (World.drew w3).setCells m.b (k * 4) [.bool true, .int .u32 yo, .int .u16 yq, .int .u16 F] = World.drew W5 := by rw [← hW5]; rfl
      rw [hW5] at HL
      rw [hW5']
      clear hW5 hW5' HA HC1 HSZ
      have HL := keep (show LA lo ow n { m with sp := putN m.sp k ⟨true, yo, yq, F⟩ } (World.drew W5) ∧ Ok lo ow (World.drew W5) ∧ (World.drew W5).heap[W.heap.size]? = some (.cells #[.bool ym, .int .u8 yk, .int .u16 yq, .int .u32 yt, .int .u32 yo, .slice y1 y2 y3] 26) ∧ IV ow (World.drew W5) ⟨ym, yk, yq, yt, yo, (y1, y2, y3), yb⟩ ∧ Part (Of ow n) W (World.drew W5) ∧ lo ≤ (World.drew W5).heap.size from ⟨HL.out.1.step (Below.refl _ W5).drew, HL.out.2.1.step (Nat.le_refl _), HL.out.2.2.1, HL.out.2.2.2.1.step (Part.of_below (fun _ => False) (Below.refl _ W5).drew) (fun _ h => h.elim) (Ext.refl W5 ow), HL.out.2.2.2.2.1.drew, HL.out.2.2.2.2.2⟩)
      generalize World.drew W5 = W6 at *
      obtain ⟨d0, d1⟩ := HL.out.1.c64
      have d2 := HL.out.1.fz 65
      dsimp only [Gl.sl] at d0 d1 d2
      have hgeI : (room : Int) ≤ (m.v.2.1 : Int) := by have := HN.out.2.2.2.1; omega
      have hlI : (m.lost : Int) ≤ 1000000 := by have := HN.out.2.1; omega
      have hw5 : IntKind.i64.wrap ((m.lost : Int) + 1) = (m.lost : Int) + 1 := IntWalk.i64_in _ (by omega)
      obtain ⟨g1, g2, g3⟩ := HL.out.1.lose HL.out.2.1 (by exact HN.out.2.1)
      have HF := keep (show MP lo n ow W m { m.lm with sp := putN m.sp k ⟨true, yo, yq, F⟩, lost := m.lm.lost + 1 } (W6.setCell ⟨m.b, 65, none⟩ (.int .i64 ((m.lost : Int) + 1))) from ⟨ow, _, g1, g2, Ext.refl W ow, HL.out.2.2.2.2.1.trans g3 fun k hk => .inl hk, rfl, rfl⟩)
      clear hlt HSX g1 g2 g3
      go_wp2
      go_ret
      exact ⟨rfl, HF.out⟩
end
end Go.Proofs.Ytacmfoljbjdcjaa
