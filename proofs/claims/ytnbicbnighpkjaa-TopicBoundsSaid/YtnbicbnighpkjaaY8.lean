/- Package topic: a party takes an item. -/
import Derived.Test.YtnbicbnighpkjaaY7
import Derived.Maps.AppendAt
import Derived.BigQuiet
import Derived.Deep.QuietTactic
import Derived.Deep.RegionHeld3
import Derived.StillTailTactics
namespace Go.Proofs.Ytnbicbnighpkjaa
open Go.RowKit Go.Maps
set_option linter.unusedVariables false
set_option linter.unusedSimpArgs false

theorem step_append_at {P : Program} {w : World} {ops : Array Oper} {o : Oper} {a : Act} {Q : Exit → Act → World → Prop} {K : Act → World → Prop} {E : Prop} (hgd : o.guard = none) (s x : Operand) (t : TypeId) (ho : o.op = .call { callee := .builtin .append, args := #[s, x], argTypes := #[t, t] })
    (base : Nat) (e : TypeId) (i : TypeInfo) (z : Value) (size bytes : Nat) (ht : P.underlying t = some (.slice e)) (hi : P.info? e = some i) (hz : i.zero = some z) (hsize : i.size = size) (hby : i.bytes = bytes) (hzs : z.cells.size = size) (hsz : 0 < size)
    (v : Value) (n : Nat) (xs : List Value) (hs : a.eval s = v) (hown : w.ownsRow base e size v n xs) (ad : Addr) (m c : Nat) (news : List Value) (hx : a.eval x = .slice (some ad) m c) (hl : news.length = m * size) (hnews : ∀ j u, news[j]? = some u → w.cell? (ad.add j) = some u) (h1 : ∀ u ∈ news, u.oneCell' = true)
    (h63 : n + m ≤ maxLen) (hbytes : (n + m) * bytes ≤ 140737488355328) (hbase : base ≤ w.heap.size)
    (h : ∀ A' c' w', Hid (w'.ownsRow base e size (.slice A' (n + m) c') (n + m) (xs ++ news)) → Hid (w.grownBy w' v.ownBlock) → Hid ((Value.slice A' (n + m) c').ownBlock = v.ownBlock ∨ (Value.slice A' (n + m) c').ownBlock = some w.heap.size) → K (a.put o.dst (.slice A' (n + m) c')) w') : if Region.wanted o (yielded ops a.tmps) = true then Oper.wp P o a w K Q else E := by
  have hw : Region.wanted o (yielded ops a.tmps) = true := by simp [Region.wanted, hgd]
  rw [if_pos hw]
  obtain ⟨v', w', hrun, h2, h3, _, h5⟩ := run_append_own_at (P := P) w base t o.type e i z size bytes ht hi hz hsize hby hzs hsz v n xs hown ad m c news hl hnews h1 h63 hbytes hbase
  obtain ⟨A', c', rfl, _⟩ := own_shape2' h2
  unfold Oper.wp execOp
  simp only [ho, resolve, invoke, builtin, Sem.run_bind, Sem.run_pure, Result.andThen_ok, List.map_toArray, List.map_cons, List.map_nil, hs, hx, hrun]
  exact h A' c' w' (show _ from h2) (show _ from h3) (show _ from h5)

theorem item_info2 : (Try.prog.info? 49).map (fun i => (i.zero, i.size, i.bytes)) = some (some (.agg #[.string ⟨#[]⟩, .int .i64 0, .int .i64 0, .bool false, .slice none 0 0]), 5, 64) := by kernel_rfl
theorem lay_add {W : World} {cs : Array Value} {t : TypeId} : ∀ (j : Nat) (u : Value), cs.toList[j]? = some u → (W.alloc (.cells cs t)).cell? ((⟨W.heap.size, 0, none⟩ : Addr).add j) = some u := fun j u hu => by
  rw [Addr.add_lit, Nat.zero_add]
  exact upd_cell (heap_alloc_new W _) j u (by simpa using hu)
theorem below_drewN {B : Nat} {W w : World} (h : Below B W w) (n : Nat) : Below B W (w.drewN n) := ⟨h.os, h.tape, h.output, h.size, h.block⟩
section
variable {lo n : Nat} {ow : Ow} {m : Gm} {W : World}
theorem MA.app (h : MA lo ow n m W) (ho : Ok lo ow W) {y : Iv} (hy : IV ow W y) (hl : m.ws.length + 1 ≤ 64) {W1 w5 : World} (hb : Below W.heap.size W W1) {A : Option Addr} {c : Nat} (ho5 : w5.ownsRow lo 49 5 (.slice A (m.v.2.1 + 1) c) (m.v.2.1 + 1) (flatF Iv.cells m.ws ++ y.cells)) (hg : W1.grownBy w5 m.sl.ownBlock)
    (ha : (Value.slice A (m.v.2.1 + 1) c).ownBlock = m.sl.ownBlock ∨ (Value.slice A (m.v.2.1 + 1) c).ownBlock = some W1.heap.size) :
    (w5.cell? ⟨m.b, 1, none⟩ = some m.sl ∧ w5.frozen? ⟨m.b, 1, none⟩ = false) ∧ ∃ ow', MA lo ow' n { m with v := (A, m.v.2.1 + 1, c), ws := m.ws ++ [y] } (w5.setCell ⟨m.b, 1, none⟩ (.slice A (m.v.2.1 + 1) c)) ∧ Ok lo ow' (w5.setCell ⟨m.b, 1, none⟩ (.slice A (m.v.2.1 + 1) c)) ∧ Ext W ow ow' ∧ Part (Of ow n) W (w5.setCell ⟨m.b, 1, none⟩ (.slice A (m.v.2.1 + 1) c)) := by
  have hvl := h.vlen
  have hsb : ∀ k, m.sl.ownBlock = some k → ∃ a, m.v.1 = some a ∧ k = a.block := fun k hk => by
    unfold Gm.sl Value.ownBlock at hk
    split at hk
    · rename_i a _ _ e
      injection e with e1
      injection hk with hk
      exact ⟨a, e1, hk.symm⟩
    · cases hk
  have hp : Part (fun i => ∃ a, m.v.1 = some a ∧ i = a.block) W w5 := (Part.of_below _ hb).trans (Part.of_grown (S := fun i => ∃ a, m.v.1 = some a ∧ i = a.block) hg hsb) fun i hi => .inl hi
  have hb5 : w5.heap[m.b]? = some (.cells #[.map (some m.k), m.sl, .int .i64 m.lost] 79 (0, 0)) := (hp.block m.b h.lt fun ⟨a, ha, e⟩ => tag_ne h.ob (h.ov a ha) (by simp) e).trans h.hd
  refine ⟨⟨upd_cell hb5 1 _ rfl, upd_fz hb5 1⟩, _, h.wait ho (W1 := w5) (A := A) (k := m.v.2.1 + 1) (c := c) (ws := m.ws ++ [y]) (by rw [List.length_append, hvl]; rfl) hp ?_ (fun a hA => ?_) (fun z hz => ?_) (by rw [List.length_append]; exact hl)⟩
  · rw [flatF_append, show flatF Iv.cells [y] = y.cells by simp [flatF]]
    exact ho5
  · subst hA
    have ha0 : a = ⟨a.block, 0, none⟩ := by
      rcases ho5.2 with ⟨h0, _⟩ | ⟨g, cap, cur, hv, _⟩
      · cases h0
      · injection hv with hv
        injection hv with hv
        rw [hv]
    rcases ha with h1 | h1
    · obtain ⟨a', h2, h3⟩ := hsb a.block h1.symm
      refine .inl ?_
      rw [h2, (h.ltv h2).2.2, ha0, h3]
    · injection h1 with h1
      refine .inr ?_
      have := hb.size
      omega
  · rcases List.mem_append.1 hz with hz | hz
    · exact h.iv z hz
    · rw [List.mem_singleton.1 hz]; exact hy
theorem own_sl (h : MA lo ow n m W) {k : Nat} (hk : m.sl.ownBlock = some k) : ∃ a, m.v.1 = some a ∧ k = a.block := by
  unfold Gm.sl Value.ownBlock at hk
  split at hk
  · rename_i a _ _ e
    injection e with e1
    injection hk with hk
    exact ⟨a, e1, hk.symm⟩
  · cases hk
theorem MP.of (h : MA lo ow n m W) (ho : Ok lo ow W) : MP lo n ow W m m.pt W := ⟨ow, m, h, ho, Ext.refl W ow, Part.refl _ _, rfl, rfl⟩
/-- One call behind another. -/
theorem MP.then {W1 W2 : World} {ow1 : Ow} {m1 : Gm} {z : Pt} (he : Ext W ow ow1) (hp : Part (Of ow n) W W1) (hb : m1.b = m.b) (h : MP lo n ow1 W1 m1 z W2) (hof : ∀ k, Of ow1 n k → Of ow n k ∨ W.heap.size ≤ k) : MP lo n ow W m z W2 := by
  obtain ⟨ow2, m2, h1, h2, h3, h4, h5, h6⟩ := h
  exact ⟨ow2, m2, h1, h2, he.trans h3 hp.size, hp.trans h4 hof, h5.trans hb, h6⟩
theorem Of.back {W : World} {ow ow1 : Ow} (he : Ext W ow ow1) {n k : Nat} (h : Of ow1 n k) : Of ow n k ∨ W.heap.size ≤ k := by
  rcases Nat.lt_or_ge k W.heap.size with h0 | h0
  · obtain ⟨t, h1, h2⟩ := h
    exact .inl ⟨t, (he k h0).symm.trans h1, h2⟩
  · exact .inr h0
/-- What a lookup among the subscriptions answers, whatever was drawn. -/
theorem MA.look (h : MA lo ow n m W) (t : ByteArray) (ht : t.size ≤ 300) : ∀ W', W'.heap = W.heap → (Instr.lookup 76 (.map (some m.k)) (.string t) false).run Try.prog W' = .ok ((m.vs t).getD (.pointer none)) W' := fun W' hW => by
  exact (h.sm.same (w' := W') (by rw [hW])).look (e := 75) Try.underlying9 Try.underlying76 (by first | kernel_rfl | rfl) (by unfold maxLen; omega)

set_option maxHeartbeats 4000000 in
set_option maxRecDepth 1000000 in
theorem take_any (h : MA lo ow n m W) (ho : Ok lo ow W) (hlo : lo ≤ W.heap.size) {y : Iv} (hy : IV ow W y) {room : Nat} (hr : 1 ≤ room ∧ room ≤ 64) (hl : m.lost + 1 ≤ 1000000) (hrm : m.ws.length ≤ room) :
    Calls Try.prog 49 #[ptr m.b, .agg #[.string y.tp, .int .i64 y.fr, .int .i64 y.nu, .bool y.tx, .slice y.da.1 y.da.2.1 y.da.2.2], .int .i64 (room : Int)] W fun e w' => e = .returned (.bool (takeB m.pt room y.it)) ∧ MP lo n ow W m (takeP m.pt room y.it) w' := by
  obtain ⟨yt, yf, yn, yx, ⟨y1, y2, y3⟩, yb⟩ := y
  have htl := hy.tl
  dsimp only at htl ⊢
  have hB1 := below_lay W (.cells #[.string yt, .int .i64 yf, .int .i64 yn, .bool yx, .slice y1 y2 y3] 49)
  have h1 := h.step hB1
  have ho1 := ho.step hB1.size
  have hP1 := Part.of_below (Of ow n) hB1
  obtain ⟨d0, d1, d2⟩ := h1.c0
  have L := h1.look yt htl
  have HL := keep L
  have HV := keep hr
  have hvl := h.vlen
  cases hf : m.f yt with
  | none =>
    have e1 : takeB m.pt room (Iv.it ⟨yt, yf, yn, yx, (y1, y2, y3), yb⟩) = false := by
      have : m.pt.sub yt = none := by unfold Gm.pt; dsimp only; rw [hf]; rfl
      unfold takeB Iv.it
      dsimp only
      rw [this]
    have e2 : takeP m.pt room (Iv.it ⟨yt, yf, yn, yx, (y1, y2, y3), yb⟩) = m.pt := by
      have : m.pt.sub yt = none := by unfold Gm.pt; dsimp only; rw [hf]; rfl
      unfold takeP Iv.it
      dsimp only
      rw [this]
    rw [e1, e2]
    have e3 : m.vs yt = none := by unfold Gm.vs; rw [hf]; rfl
    rw [e3] at L
    dsimp only [Option.getD] at L
    have HF := keep (show ∀ k, MP lo n ow W m m.pt ((W.alloc (.cells #[.string yt, .int .i64 yf, .int .i64 yn, .bool yx, .slice y1 y2 y3] 49)).drewN k) from fun k => ⟨ow, m, h1.step (below_drewN (Below.refl _ _) k), ho1.step (Nat.le_refl _), Ext.refl W ow, (hP1.trans (Part.of_below (Of ow n) (below_drewN (Below.refl _ _) k)) fun i hi => .inl hi), rfl, rfl⟩)
    obtain ⟨mb, mk, mc, mf, ⟨A, vn, vc⟩, ws, lost⟩ := m
    dsimp only [Gm.sl] at d0 d1 d2 L ⊢
    have HS := keep (show ∀ W', W'.heap = (W.alloc (.cells #[.string yt, .int .i64 yf, .int .i64 yn, .bool yx, .slice y1 y2 y3] 49)).heap → W'.cell? ⟨mb, 0, none⟩ = some (.map (some mk)) ∧ W'.cell? ⟨W.heap.size, 0, none⟩ = some (.string yt) ∧ (Instr.lookup 76 (.map (some mk)) (.string yt) false).run Try.prog W' = .ok (.pointer none) W' from fun W' hW => ⟨(World.cell?_of_block (a := ⟨mb, 0, none⟩) (by rw [hW])).trans d0, (World.cell?_of_block (w := W.alloc (.cells #[.string yt, .int .i64 yf, .int .i64 yn, .bool yx, .slice y1 y2 y3] 49)) (a := ⟨W.heap.size, 0, none⟩) (by rw [hW])).trans (by simp), L W' hW⟩)
    clear h h1 ho ho1 hP1 hB1 hy e1 e2 e3 hf hvl L HL
    unfold ptr
    go_enter Try.func49, Try.ntmps49
    go_wp2
    go_region_held3 (fun w' => w'.cell? ⟨mb, 0, none⟩ = some (.map (some mk)) ∧ w'.cell? ⟨W.heap.size, 0, none⟩ = some (.string yt) ∧ (Instr.lookup 76 (.map (some mk)) (.string yt) false).run Try.prog w' = .ok (.pointer none) w')
      (first | exact HS.out _ rfl) (first | fail)
    all_goals go_wp2
    all_goals trace_state
    all_goals (go_ret; exact ⟨rfl, HF.out _⟩)
  | some x =>
    obtain ⟨hxb, hxo, hxm⟩ := h1.sb yt x hf
    have x1 := upd_cell hxb 1 _ rfl
    have e3 : m.vs yt = some (ptr x.b) := by unfold Gm.vs; rw [hf]; rfl
    have e4 : m.pt.sub yt = some (x.m, x.fl) := by unfold Gm.pt; dsimp only; rw [hf]; rfl
    rw [e3] at L
    dsimp only [Option.getD] at L
    have HS := keep (show ∀ W', W'.heap = (W.alloc (.cells #[.string yt, .int .i64 yf, .int .i64 yn, .bool yx, .slice y1 y2 y3] 49)).heap → W'.cell? ⟨m.b, 0, none⟩ = some (.map (some m.k)) ∧ W'.cell? ⟨W.heap.size, 0, none⟩ = some (.string yt) ∧ (Instr.lookup 76 (.map (some m.k)) (.string yt) false).run Try.prog W' = .ok (ptr x.b) W' from fun W' hW => ⟨(World.cell?_of_block (a := ⟨m.b, 0, none⟩) (by rw [hW])).trans d0, (World.cell?_of_block (w := W.alloc (.cells #[.string yt, .int .i64 yf, .int .i64 yn, .bool yx, .slice y1 y2 y3] 49)) (a := ⟨W.heap.size, 0, none⟩) (by rw [hW])).trans (by simp), L W' hW⟩)
    replace d1 : (W.alloc (.cells #[.string yt, .int .i64 yf, .int .i64 yn, .bool yx, .slice y1 y2 y3] 49)).cell? ⟨m.b, 1, none⟩ = some (.slice m.v.1 m.v.2.1 m.v.2.2) := d1
    have B2 := below_drewN (Below.refl (W.alloc (.cells #[.string yt, .int .i64 yf, .int .i64 yn, .bool yx, .slice y1 y2 y3] 49)).heap.size (W.alloc (.cells #[.string yt, .int .i64 yf, .int .i64 yn, .bool yx, .slice y1 y2 y3] 49))) 1
    have h2 := h1.step B2
    have ho2 := ho1.step B2.size
    have hP2 := hP1.trans (Part.of_below (Of ow n) B2) fun i hi => .inl hi
    have hBo : ow W.heap.size = none := ho.free (Nat.le_refl _)
    have hy2 : IV ow ((W.alloc (.cells #[.string yt, .int .i64 yf, .int .i64 yn, .bool yx, .slice y1 y2 y3] 49)).drewN 1) ⟨yt, yf, yn, yx, (y1, y2, y3), yb⟩ := ⟨hy.bs.step (hB1.trans (B2.mono hB1.size)), hy.ut.step (Ext.refl W ow) (hB1.trans (B2.mono hB1.size)).size, hy.le, hy.tl⟩
    have hbx : ((W.alloc (.cells #[.string yt, .int .i64 yf, .int .i64 yn, .bool yx, .slice y1 y2 y3] 49)).drewN 1).heap[W.heap.size]? = some (.cells #[.string yt, .int .i64 yf, .int .i64 yn, .bool yx, .slice y1 y2 y3] 49) := heap_alloc_new W _
    cases hfl : x.fl with
    | true =>
      have e1 : takeB m.pt room (Iv.it ⟨yt, yf, yn, yx, (y1, y2, y3), yb⟩) = false := by
        unfold takeB Iv.it
        dsimp only
        rw [e4, hfl]
        rfl
      have e2 : takeP m.pt room (Iv.it ⟨yt, yf, yn, yx, (y1, y2, y3), yb⟩) = m.pt := by
        unfold takeP Iv.it
        dsimp only
        rw [e4, hfl]
        rfl
      rw [e1, e2]
      have HF := keep (show MP lo n ow W m m.pt ((W.alloc (.cells #[.string yt, .int .i64 yf, .int .i64 yn, .bool yx, .slice y1 y2 y3] 49)).drewN 1) from ⟨ow, m, h2, ho2, Ext.refl W ow, hP2, rfl, rfl⟩)
      rw [hfl] at x1
      obtain ⟨xb, xm, xf⟩ := x
      obtain ⟨mb, mk, mc, mf, ⟨A, vn, vc⟩, ws, lost⟩ := m
      dsimp only [Gm.sl] at d0 d1 d2 x1 HS ⊢
      clear h h1 h2 ho ho1 ho2 hP1 hP2 hB1 B2 hy hy2 e1 e2 e3 e4 hf hfl hvl L HL hxb hxo hxm hbx hBo
      unfold ptr at HS ⊢
      go_enter Try.func49, Try.ntmps49
      go_wp2
      go_region_held3 (fun w' => w'.cell? ⟨mb, 0, none⟩ = some (.map (some mk)) ∧ w'.cell? ⟨W.heap.size, 0, none⟩ = some (.string yt) ∧ (Instr.lookup 76 (.map (some mk)) (.string yt) false).run Try.prog w' = .ok (.pointer (some ⟨xb, 0, none⟩)) w')
        (first | exact HS.out _ rfl) (first | fail)
      all_goals go_wp2
      all_goals (go_ret; exact ⟨rfl, HF.out⟩)
    | false =>
      by_cases hlt : m.ws.length < room
      · have e1 : takeB m.pt room (Iv.it ⟨yt, yf, yn, yx, (y1, y2, y3), yb⟩) = true := by
          unfold takeB Iv.it
          dsimp only
          rw [e4, hfl]
          dsimp only
          rw [if_neg (by decide), if_pos (by unfold Gm.pt; dsimp only; rw [List.length_map]; exact hlt)]
        have e2 : takeP m.pt room (Iv.it ⟨yt, yf, yn, yx, (y1, y2, y3), yb⟩) = { m.pt with ws := m.pt.ws ++ [Iv.it ⟨yt, yf, yn, yx, (y1, y2, y3), yb⟩] } := by
          unfold takeP Iv.it
          dsimp only
          rw [e4, hfl]
          dsimp only
          rw [if_neg (by decide), if_pos (by unfold Gm.pt; dsimp only; rw [List.length_map]; exact hlt)]
        rw [e1, e2]
        rw [hfl] at x1
        have hge : ((room : Int) ≤ (m.v.2.1 : Int)) = False := by apply eq_false; omega
        have hgeI : ¬ ((room : Int) ≤ (m.v.2.1 : Int)) := by omega
        have hwl : m.ws.length + 1 ≤ 64 := by omega
        have hof : ∀ k, Of ow n k → Of ow n k ∨ W.heap.size ≤ k := fun k hk => .inl hk
        have HA := keep (And.intro h2 (And.intro ho2 (And.intro hy2 (And.intro hwl (And.intro hbx hBo)))))
        have HE := keep (And.intro (Ext.refl W ow) (And.intro hP2 (And.intro (rfl : m.b = m.b) hof)))
        have HLO := keep (show lo ≤ ((W.alloc (.cells #[.string yt, .int .i64 yf, .int .i64 yn, .bool yx, .slice y1 y2 y3] 49)).drewN 1).heap.size by have := hB1.size; have := B2.size; omega)
        clear h h1 h2 ho ho1 ho2 hP1 hP2 hB1 B2 hy hy2 e1 e2 e3 e4 hf hfl L HL hxb hxo hxm hbx hBo hge hof hlt hwl hvl
        obtain ⟨xb, xm, xf⟩ := x
        dsimp only at x1 HS ⊢
        unfold ptr at HS ⊢
        go_enter Try.func49, Try.ntmps49
        go_wp2
        go_region_held3 (fun w' => w'.cell? ⟨m.b, 0, none⟩ = some (.map (some m.k)) ∧ w'.cell? ⟨W.heap.size, 0, none⟩ = some (.string yt) ∧ (Instr.lookup 76 (.map (some m.k)) (.string yt) false).run Try.prog w' = .ok (.pointer (some ⟨xb, 0, none⟩)) w')
          (first | exact HS.out _ rfl) (first | fail)
        go_wp2_with fail
        have HAA := keep (show MA lo ow n m (World.drew (W.alloc (.cells #[.string yt, .int .i64 yf, .int .i64 yn, .bool yx, .slice y1 y2 y3] 49))) ∧ Ok lo ow (World.drew (W.alloc (.cells #[.string yt, .int .i64 yf, .int .i64 yn, .bool yx, .slice y1 y2 y3] 49))) ∧ IV ow (World.drew (W.alloc (.cells #[.string yt, .int .i64 yf, .int .i64 yn, .bool yx, .slice y1 y2 y3] 49))) ⟨yt, yf, yn, yx, (y1, y2, y3), yb⟩ ∧ m.ws.length + 1 ≤ 64 ∧ (World.drew (W.alloc (.cells #[.string yt, .int .i64 yf, .int .i64 yn, .bool yx, .slice y1 y2 y3] 49))).heap[W.heap.size]? = some (.cells #[.string yt, .int .i64 yf, .int .i64 yn, .bool yx, .slice y1 y2 y3] 49) ∧ ow W.heap.size = none from HA.out)
        have HEE := keep (show Ext W ow ow ∧ Part (Of ow n) W (World.drew (W.alloc (.cells #[.string yt, .int .i64 yf, .int .i64 yn, .bool yx, .slice y1 y2 y3] 49))) ∧ m.b = m.b ∧ (∀ k, Of ow n k → Of ow n k ∨ W.heap.size ≤ k) from ⟨HE.out.1, HE.out.2.1, rfl, HE.out.2.2.2⟩)
        have HLL := keep (show lo ≤ (World.drew (W.alloc (.cells #[.string yt, .int .i64 yf, .int .i64 yn, .bool yx, .slice y1 y2 y3] 49))).heap.size from HLO.out)
        clear HA HE HLO HS d0 d1 d2 x1
        generalize World.drew (W.alloc (.cells #[.string yt, .int .i64 yf, .int .i64 yn, .bool yx, .slice y1 y2 y3] 49)) = Wc at *
        obtain ⟨B, hBe⟩ : ∃ B, W.heap.size = B := ⟨_, rfl⟩
        simp only [hBe] at HAA ⊢
        replace hBe := keep hBe
        obtain ⟨e0, he0, ez0, ez1, ez2⟩ := info_parts item_info2
        have HSX := keep (show ∀ W' : World, W'.heap[B]? = Wc.heap[B]? → W'.cell? ⟨B, 0, none⟩ = some (.string yt) ∧ W'.cell? ⟨B, 1, none⟩ = some (.int .i64 yf) ∧ W'.cell? ⟨B, 2, none⟩ = some (.int .i64 yn) ∧ W'.cell? ⟨B, 3, none⟩ = some (.bool yx) ∧ W'.cell? ⟨B, 4, none⟩ = some (.slice y1 y2 y3) from fun W' g2 => ⟨upd_cell (g2.trans HAA.out.2.2.2.2.1) 0 _ rfl, upd_cell (g2.trans HAA.out.2.2.2.2.1) 1 _ rfl, upd_cell (g2.trans HAA.out.2.2.2.2.1) 2 _ rfl, upd_cell (g2.trans HAA.out.2.2.2.2.1) 3 _ rfl, upd_cell (g2.trans HAA.out.2.2.2.2.1) 4 _ rfl⟩)
        have HBL := keep (show m.b < Wc.heap.size ∧ B < Wc.heap.size from ⟨HAA.out.1.lt, (Array.getElem?_eq_some_iff.1 HAA.out.2.2.2.2.1).1⟩)
        have AL := keep (below_lay (World.drew Wc) (.cells #[.string yt, .int .i64 yf, .int .i64 yn, .bool yx, .slice y1 y2 y3] 49))
        have HMX := keep (show m.v.2.1 + 1 ≤ maxLen ∧ (m.v.2.1 + 1) * 64 ≤ 140737488355328 from by have h8 := HAA.out.1.vlen; have h7 := HAA.out.2.2.2.1; unfold maxLen; omega)
        have HRW := keep (show (World.drew Wc).ownsRow lo 49 5 (.slice m.v.1 m.v.2.1 m.v.2.2) m.v.2.1 (flatF Iv.cells m.ws) from by have h9 := HAA.out.1.wt; have h8 := HAA.out.1.vlen; unfold Gm.sl at h9; rw [← h8] at h9; exact h9)
        have c1a : (World.drew Wc).cell? ⟨m.b, 1, none⟩ = some (.slice m.v.1 m.v.2.1 m.v.2.2) := HAA.out.1.c0.2.1
        have c1b : (Wc.alloc (.cells #[.string yt, .int .i64 yf, .int .i64 yn, .bool yx, .slice y1 y2 y3] 49)).cell? ⟨m.b, 1, none⟩ = some (.slice m.v.1 m.v.2.1 m.v.2.2) := ((AL.out).cell (p := ⟨m.b, 1, none⟩) HBL.out.1).trans c1a
        refine wp_region_held_drew (S := (fun w' => w'.cell? ⟨B, 0, none⟩ = some (.string yt) ∧ w'.cell? ⟨B, 1, none⟩ = some (.int .i64 yf) ∧ w'.cell? ⟨B, 2, none⟩ = some (.int .i64 yn) ∧ w'.cell? ⟨B, 3, none⟩ = some (.bool yx) ∧ w'.cell? ⟨B, 4, none⟩ = some (.slice y1 y2 y3))) (by kernel_rfl) (HSX.out _ rfl) (fun hHeld => ?_)
        refine wpAnyH_take (i := 0) (oi := ⟨some 38, _, _, _, _, _⟩) (v := ?vp11x0) rfl (by kernel_rfl) (by kernel_rfl) (by kernel_rfl) (fun _ _ _ h => h) (Or.inl ⟨by rfl, ?hyp11x0⟩) (by assumption) ?restp11x0
        case hyp11x0 => (intro wz hSw; (try dsimp only at hSw); go_simp <;> (try with_reducible rfl))
        try simp only [Act.put, List.setIfInBounds_toArray, List.set_cons_zero, List.set_cons_succ]
        refine wpAnyH_take (i := 1) (oi := ⟨some 39, _, _, _, _, _⟩) (v := ?vp12x1) rfl (by kernel_rfl) (by kernel_rfl) (by kernel_rfl) (fun _ _ _ h => h) (Or.inl ⟨by rfl, ?hyp12x1⟩) (by assumption) ?restp12x1
        case hyp12x1 => (intro wz hSw; (try dsimp only at hSw); go_simp <;> (try with_reducible rfl))
        try simp only [Act.put, List.setIfInBounds_toArray, List.set_cons_zero, List.set_cons_succ]
        refine wpAnyH_take (i := 2) (oi := ⟨some 40, _, _, _, _, _⟩) (v := ?vp13x2) rfl (by kernel_rfl) (by kernel_rfl) (by kernel_rfl) (fun _ _ _ h => h) (Or.inl ⟨by rfl, ?hyp13x2⟩) (by assumption) ?restp13x2
        case hyp13x2 => (intro wz hSw; (try dsimp only at hSw); go_simp <;> (try with_reducible rfl))
        try simp only [Act.put, List.setIfInBounds_toArray, List.set_cons_zero, List.set_cons_succ]
        refine wpAnyH_take (i := 3) (oi := ⟨some 41, _, _, _, _, _⟩) (v := ?vp14x3) rfl (by kernel_rfl) (by kernel_rfl) (by kernel_rfl) (fun _ _ _ h => h) (Or.inl ⟨by rfl, ?hyp14x3⟩) (by assumption) ?restp14x3
        case hyp14x3 => (intro wz hSw; (try dsimp only at hSw); go_simp <;> (try with_reducible rfl))
        try simp only [Act.put, List.setIfInBounds_toArray, List.set_cons_zero, List.set_cons_succ]
        refine wpAnyH_take (i := 5) (oi := ⟨some 43, _, _, _, _, _⟩) (v := ?vp15x5) rfl (by kernel_rfl) (by kernel_rfl) (by kernel_rfl) (fun _ _ _ h => h) (Or.inl ⟨by rfl, ?hyp15x5⟩) (by assumption) ?restp15x5
        case hyp15x5 => (intro wz hSw; (try dsimp only at hSw); go_simp <;> (try with_reducible rfl))
        try simp only [Act.put, List.setIfInBounds_toArray, List.set_cons_zero, List.set_cons_succ]
        refine wpAnyH_ready (rs := [4, 6]) (by kernel_rfl) (by simp) (AllReadyH.cons (o := ⟨some 42, _, _, _, _, _⟩) rfl (fun K hK => ?pa1) (AllReadyH.cons (o := ⟨some 44, _, _, _, _, _⟩) rfl (fun K hK => ?pb1) AllReadyH.nil))
        case pa1 =>
          go_simp
          refine hK.out _ _ (HSX.out _ rfl) (fun hHeld => ?_)
          clear hK K
          try simp only [Act.put, List.setIfInBounds_toArray, List.set_cons_zero, List.set_cons_succ]
          refine wpAnyH_ready (rs := [6]) (by kernel_rfl) (by simp) (AllReadyH.cons (o := ⟨some 44, _, _, _, _, _⟩) rfl (fun K hK => ?_) AllReadyH.nil)
          go_simp
          refine hK.out _ _ (HSX.out _ (AL.out.block _ HBL.out.2)) (fun hHeld => ?_)
          clear hK K
          try simp only [Act.put, List.setIfInBounds_toArray, List.set_cons_zero, List.set_cons_succ]
          refine wpAnyH_ready (rs := [7]) (by kernel_rfl) (by simp) (AllReadyH.cons (o := ⟨some 45, _, _, _, _, _⟩) rfl (fun K hK => ?_) AllReadyH.nil)
          refine step_append_at rfl (.tmp 42) (.tmp 44) 77 rfl lo 49 e0 _ 5 64 Try.underlying77 he0 ez0 ez1 ez2 rfl (by decide) (.slice m.v.1 m.v.2.1 m.v.2.2) m.v.2.1 (flatF Iv.cells m.ws) rfl (HRW.out.alloc _) ⟨Wc.heap.size, 0, none⟩ 1 1 [.string yt, .int .i64 yf, .int .i64 yn, .bool yx, .slice y1 y2 y3] rfl rfl (lay_add (W := World.drew Wc)) (by simp [Value.oneCell']) HMX.out.1 HMX.out.2 (Nat.le_trans HLL.out AL.out.size) ?_
          intro A5 c5 w5 ho5 hg5 hl5
          obtain ⟨⟨c15, f15⟩, ow6, k1, k2, k3, k4⟩ := MA.app (W1 := ((World.drew Wc).alloc (.cells #[.string yt, .int .i64 yf, .int .i64 yn, .bool yx, .slice y1 y2 y3] 49))) HAA.out.1 HAA.out.2.1 HAA.out.2.2.1 HAA.out.2.2.2.1 (((Below.refl _ Wc).drew).trans (AL.out.mono (Nat.le_refl _))) ho5.out hg5.out hl5.out
          have HF := keep (show MP lo n ow W m { m.pt with ws := m.pt.ws ++ [Iv.it ⟨yt, yf, yn, yx, (y1, y2, y3), yb⟩] } (w5.setCell ⟨m.b, 1, none⟩ (.slice A5 (m.v.2.1 + 1) c5)) from ⟨ow6, _, k1, k2, HEE.out.1.trans k3 HEE.out.2.1.size, HEE.out.2.1.trans k4 HEE.out.2.2.2, HEE.out.2.2.1, by unfold Gm.pt; dsimp only; rw [List.map_append]; rfl⟩)
          have HS5h := keep (show w5.heap[B]? = Wc.heap[B]? from (hg5.out.block B (Nat.lt_of_lt_of_le HBL.out.2 AL.out.size) (fun e => by obtain ⟨a, ha, hk⟩ := own_sl HAA.out.1 e.symm; have h3 := HAA.out.1.ov a ha; rw [← hk, HAA.out.2.2.2.2.2] at h3; cases h3)).trans (AL.out.block _ HBL.out.2))
          have HS5 := keep (HSX.out w5 HS5h.out)
          have HS6 := keep (HSX.out (w5.setCell ⟨m.b, 1, none⟩ (.slice A5 (m.v.2.1 + 1) c5)) ((Below.heap_setCell w5 _ _ _ (fun e => by have e' : B = m.b := e; have h3 := HAA.out.1.ob; rw [← e', HAA.out.2.2.2.2.2] at h3; cases h3)).trans HS5h.out))
          clear ho5 hg5 hl5 k1 k2 k3 k4 c1a c1b
          refine hK.out _ _ HS5.out (fun hHeld => ?_)
          clear hK K
          try simp only [Act.put, List.setIfInBounds_toArray, List.set_cons_zero, List.set_cons_succ]
          refine wpAnyH_take (i := 8) (oi := ⟨some 46, _, _, _, _, _⟩) (v := ?vqa11x8) rfl (by kernel_rfl) (by kernel_rfl) (by kernel_rfl) (fun _ _ _ h => h) (Or.inl ⟨by rfl, ?hyqa11x8⟩) (by assumption) ?restqa11x8
          case hyqa11x8 => (intro wz hSw; (try dsimp only at hSw); go_simp <;> (try with_reducible rfl))
          try simp only [Act.put, List.setIfInBounds_toArray, List.set_cons_zero, List.set_cons_succ]
          refine wpAnyH_take (i := 9) (oi := ⟨some 47, _, _, _, _, _⟩) (v := ?vqa12x9) rfl (by kernel_rfl) (by kernel_rfl) (by kernel_rfl) (fun _ _ _ h => h) (Or.inl ⟨by rfl, ?hyqa12x9⟩) (by assumption) ?restqa12x9
          case hyqa12x9 => (intro wz hSw; (try dsimp only at hSw); go_simp <;> (try with_reducible rfl))
          try simp only [Act.put, List.setIfInBounds_toArray, List.set_cons_zero, List.set_cons_succ]
          refine wpAnyH_ready (rs := [10]) (by kernel_rfl) (by simp) (AllReadyH.cons (o := ⟨none, _, _, _, _, _⟩) rfl (fun K hK => ?_) AllReadyH.nil)
          go_simp
          refine hK.out _ _ HS6.out (fun hHeld => ?_)
          clear hK K
          try simp only [Act.put, List.setIfInBounds_toArray, List.set_cons_zero, List.set_cons_succ]
          refine wpAnyH_done (by kernel_rfl) ?_ _
          go_wp2
          go_ret
          exact ⟨rfl, HF.out⟩
        case pb1 =>
          go_simp
          refine hK.out _ _ (HSX.out _ (AL.out.block _ HBL.out.2)) (fun hHeld => ?_)
          clear hK K
          try simp only [Act.put, List.setIfInBounds_toArray, List.set_cons_zero, List.set_cons_succ]
          refine wpAnyH_ready (rs := [4]) (by kernel_rfl) (by simp) (AllReadyH.cons (o := ⟨some 42, _, _, _, _, _⟩) rfl (fun K hK => ?_) AllReadyH.nil)
          go_simp
          refine hK.out _ _ (HSX.out _ (AL.out.block _ HBL.out.2)) (fun hHeld => ?_)
          clear hK K
          try simp only [Act.put, List.setIfInBounds_toArray, List.set_cons_zero, List.set_cons_succ]
          refine wpAnyH_ready (rs := [7]) (by kernel_rfl) (by simp) (AllReadyH.cons (o := ⟨some 45, _, _, _, _, _⟩) rfl (fun K hK => ?_) AllReadyH.nil)
          refine step_append_at rfl (.tmp 42) (.tmp 44) 77 rfl lo 49 e0 _ 5 64 Try.underlying77 he0 ez0 ez1 ez2 rfl (by decide) (.slice m.v.1 m.v.2.1 m.v.2.2) m.v.2.1 (flatF Iv.cells m.ws) rfl (HRW.out.alloc _) ⟨Wc.heap.size, 0, none⟩ 1 1 [.string yt, .int .i64 yf, .int .i64 yn, .bool yx, .slice y1 y2 y3] rfl rfl (lay_add (W := World.drew Wc)) (by simp [Value.oneCell']) HMX.out.1 HMX.out.2 (Nat.le_trans HLL.out AL.out.size) ?_
          intro A5 c5 w5 ho5 hg5 hl5
          obtain ⟨⟨c15, f15⟩, ow6, k1, k2, k3, k4⟩ := MA.app (W1 := ((World.drew Wc).alloc (.cells #[.string yt, .int .i64 yf, .int .i64 yn, .bool yx, .slice y1 y2 y3] 49))) HAA.out.1 HAA.out.2.1 HAA.out.2.2.1 HAA.out.2.2.2.1 (((Below.refl _ Wc).drew).trans (AL.out.mono (Nat.le_refl _))) ho5.out hg5.out hl5.out
          have HF := keep (show MP lo n ow W m { m.pt with ws := m.pt.ws ++ [Iv.it ⟨yt, yf, yn, yx, (y1, y2, y3), yb⟩] } (w5.setCell ⟨m.b, 1, none⟩ (.slice A5 (m.v.2.1 + 1) c5)) from ⟨ow6, _, k1, k2, HEE.out.1.trans k3 HEE.out.2.1.size, HEE.out.2.1.trans k4 HEE.out.2.2.2, HEE.out.2.2.1, by unfold Gm.pt; dsimp only; rw [List.map_append]; rfl⟩)
          have HS5h := keep (show w5.heap[B]? = Wc.heap[B]? from (hg5.out.block B (Nat.lt_of_lt_of_le HBL.out.2 AL.out.size) (fun e => by obtain ⟨a, ha, hk⟩ := own_sl HAA.out.1 e.symm; have h3 := HAA.out.1.ov a ha; rw [← hk, HAA.out.2.2.2.2.2] at h3; cases h3)).trans (AL.out.block _ HBL.out.2))
          have HS5 := keep (HSX.out w5 HS5h.out)
          have HS6 := keep (HSX.out (w5.setCell ⟨m.b, 1, none⟩ (.slice A5 (m.v.2.1 + 1) c5)) ((Below.heap_setCell w5 _ _ _ (fun e => by have e' : B = m.b := e; have h3 := HAA.out.1.ob; rw [← e', HAA.out.2.2.2.2.2] at h3; cases h3)).trans HS5h.out))
          clear ho5 hg5 hl5 k1 k2 k3 k4 c1a c1b
          refine hK.out _ _ HS5.out (fun hHeld => ?_)
          clear hK K
          try simp only [Act.put, List.setIfInBounds_toArray, List.set_cons_zero, List.set_cons_succ]
          refine wpAnyH_take (i := 8) (oi := ⟨some 46, _, _, _, _, _⟩) (v := ?vqb11x8) rfl (by kernel_rfl) (by kernel_rfl) (by kernel_rfl) (fun _ _ _ h => h) (Or.inl ⟨by rfl, ?hyqb11x8⟩) (by assumption) ?restqb11x8
          case hyqb11x8 => (intro wz hSw; (try dsimp only at hSw); go_simp <;> (try with_reducible rfl))
          try simp only [Act.put, List.setIfInBounds_toArray, List.set_cons_zero, List.set_cons_succ]
          refine wpAnyH_take (i := 9) (oi := ⟨some 47, _, _, _, _, _⟩) (v := ?vqb12x9) rfl (by kernel_rfl) (by kernel_rfl) (by kernel_rfl) (fun _ _ _ h => h) (Or.inl ⟨by rfl, ?hyqb12x9⟩) (by assumption) ?restqb12x9
          case hyqb12x9 => (intro wz hSw; (try dsimp only at hSw); go_simp <;> (try with_reducible rfl))
          try simp only [Act.put, List.setIfInBounds_toArray, List.set_cons_zero, List.set_cons_succ]
          refine wpAnyH_ready (rs := [10]) (by kernel_rfl) (by simp) (AllReadyH.cons (o := ⟨none, _, _, _, _, _⟩) rfl (fun K hK => ?_) AllReadyH.nil)
          go_simp
          refine hK.out _ _ HS6.out (fun hHeld => ?_)
          clear hK K
          try simp only [Act.put, List.setIfInBounds_toArray, List.set_cons_zero, List.set_cons_succ]
          refine wpAnyH_done (by kernel_rfl) ?_ _
          go_wp2
          go_ret
          exact ⟨rfl, HF.out⟩

      · have hz : m.ws.length = room := by omega
        have hwp : m.pt.ws.length = m.ws.length := by unfold Gm.pt; dsimp only; rw [List.length_map]
        have e1 : takeB m.pt room (Iv.it ⟨yt, yf, yn, yx, (y1, y2, y3), yb⟩) = fullB m.pt yt x.m := by
          unfold takeB Iv.it
          dsimp only
          rw [e4, hfl]
          dsimp only
          rw [if_neg (by decide), if_neg (by omega)]
        have e2 : takeP m.pt room (Iv.it ⟨yt, yf, yn, yx, (y1, y2, y3), yb⟩) = if fullB m.pt yt x.m = true then { fullP m.pt yt x.m with ws := (fullP m.pt yt x.m).ws ++ [Iv.it ⟨yt, yf, yn, yx, (y1, y2, y3), yb⟩] } else fullP m.pt yt x.m := by
          unfold takeP Iv.it
          dsimp only
          rw [e4, hfl]
          dsimp only
          rw [if_neg (by decide), if_neg (by omega)]
        rw [e1, e2]
        rw [hfl] at x1
        have hgeI : (room : Int) ≤ (m.v.2.1 : Int) := by omega
        have hrl : m.ws.length ≤ 64 := h.wl
        have KM := keep (makeRoom_any h2 ho2 (show lo ≤ ((W.alloc (.cells #[.string yt, .int .i64 yf, .int .i64 yn, .bool yx, .slice y1 y2 y3] 49)).drewN 1).heap.size by have := hB1.size; have := B2.size; omega) hf hl)
        have hof : ∀ k, Of ow n k → Of ow n k ∨ W.heap.size ≤ k := fun k hk => .inl hk
        have HE := keep (And.intro hP2 (And.intro hy2 (And.intro hbx hBo)))
        have HZ := keep (And.intro hz hrl)
        have HLO := keep (show lo ≤ ((W.alloc (.cells #[.string yt, .int .i64 yf, .int .i64 yn, .bool yx, .slice y1 y2 y3] 49)).drewN 1).heap.size ∧ W.heap.size < ((W.alloc (.cells #[.string yt, .int .i64 yf, .int .i64 yn, .bool yx, .slice y1 y2 y3] 49)).drewN 1).heap.size from ⟨by have := hB1.size; have := B2.size; omega, by show W.heap.size < (W.alloc (.cells #[.string yt, .int .i64 yf, .int .i64 yn, .bool yx, .slice y1 y2 y3] 49)).heap.size; simp⟩)
        have hsc : (fullB m.pt yt x.m = true → (fullP m.pt yt x.m).ws.length + 1 ≤ 64) := by
          intro hb
          unfold fullB at hb
          unfold fullP
          by_cases q0 : x.m = 0
          · rw [if_pos q0] at hb; cases hb
          · rw [if_neg q0] at hb ⊢
            by_cases q1 : x.m = 1
            · rw [if_pos q1] at hb; cases hb
            · rw [if_neg q1] at hb ⊢
              have := of_decide_eq_true hb
              dsimp only
              rw [List.length_eraseIdx, if_pos this]
              omega
        have HSC := keep hsc
        have KQ := keep (rfl : fullP m.pt yt x.m = fullP m.pt yt x.m)
        clear h h1 h2 ho ho1 ho2 hP1 hP2 hB1 B2 hy hy2 e1 e2 e3 e4 hf hfl L HL hxb hxo hxm hbx hBo hof hlt hz hrl hsc hwp KQ hvl
        obtain ⟨q, hq⟩ : ∃ q, fullB m.pt yt x.m = q := ⟨_, rfl⟩
        obtain ⟨z, hzz⟩ : ∃ z, fullP m.pt yt x.m = z := ⟨_, rfl⟩
        rw [hq, hzz] at KM HSC ⊢
        clear hq hzz
        obtain ⟨xb, xm, xf⟩ := x
        dsimp only at x1 HS KM ⊢
        have HG := keep (rfl : m.sl = m.sl)
        cases q with
        | false =>
          unfold ptr at HS ⊢
          go_enter Try.func49, Try.ntmps49
          go_wp2
          go_region_held3 (fun w' => w'.cell? ⟨m.b, 0, none⟩ = some (.map (some m.k)) ∧ w'.cell? ⟨W.heap.size, 0, none⟩ = some (.string yt) ∧ (Instr.lookup 76 (.map (some m.k)) (.string yt) false).run Try.prog w' = .ok (.pointer (some ⟨xb, 0, none⟩)) w')
            (first | exact HS.out _ rfl) (first | fail)
          go_wp2_with fail
          refine KM.out.mono ?_
          rintro e w3 ⟨rfl, hM⟩
          obtain ⟨ow3, m3, r1, r2, r3, r4, r5, r6⟩ := hM
          have HF := keep (show MP lo n ow W m z w3 from ⟨ow3, m3, r1, r2, fun k hk => r3 k (Nat.lt_trans hk HLO.out.2), HE.out.1.trans r4 fun k hk => .inl hk, r5, r6⟩)
          clear r1 r2 r3 r4 r5 r6
          go_wp2
          go_ret
          exact ⟨rfl, HF.out⟩
        | true =>
          unfold ptr at HS ⊢
          go_enter Try.func49, Try.ntmps49
          go_wp2
          go_region_held3 (fun w' => w'.cell? ⟨m.b, 0, none⟩ = some (.map (some m.k)) ∧ w'.cell? ⟨W.heap.size, 0, none⟩ = some (.string yt) ∧ (Instr.lookup 76 (.map (some m.k)) (.string yt) false).run Try.prog w' = .ok (.pointer (some ⟨xb, 0, none⟩)) w')
            (first | exact HS.out _ rfl) (first | fail)
          go_wp2_with fail
          refine KM.out.mono ?_
          rintro e w3 ⟨rfl, hM⟩
          obtain ⟨ow3, m3, r1, r2, r3, r4, r5, r6⟩ := hM
          have HAA := keep (show MA lo ow3 n m3 w3 ∧ Ok lo ow3 w3 ∧ IV ow3 w3 ⟨yt, yf, yn, yx, (y1, y2, y3), yb⟩ ∧ m3.ws.length + 1 ≤ 64 ∧ w3.heap[W.heap.size]? = some (.cells #[.string yt, .int .i64 yf, .int .i64 yn, .bool yx, .slice y1 y2 y3] 49) ∧ ow3 W.heap.size = none from ⟨r1, r2, HE.out.2.1.step r4 (fun k hk => hk.nd) r3, by have h9 := HSC.out trivial; have h8 := congrArg (fun p => p.ws.length) r6; unfold Gm.pt at h8; dsimp only at h8; rw [List.length_map] at h8; omega, (r4.block _ HLO.out.2 (fun ⟨u, hu, _⟩ => by rw [HE.out.2.2.2] at hu; cases hu)).trans HE.out.2.2.1, (r3 _ HLO.out.2).trans HE.out.2.2.2⟩)
          have HEE := keep (show Ext W ow ow3 ∧ Part (Of ow n) W w3 ∧ m3.b = m.b ∧ (∀ k, Of ow3 n k → Of ow n k ∨ W.heap.size ≤ k) from ⟨fun k hk => r3 k (Nat.lt_trans hk HLO.out.2), HE.out.1.trans r4 fun k hk => .inl hk, r5, fun k hk => by rcases Of.back (W := W) (fun k hk => r3 k (Nat.lt_trans hk HLO.out.2)) hk with h0 | h0; exact .inl h0; exact .inr h0⟩)
          have HLL := keep (show lo ≤ w3.heap.size from Nat.le_trans HLO.out.1 r4.size)
          have HPT := keep r6
          have hmb : m.b = m3.b := r5.symm
          clear r1 r2 r3 r4 r5 r6 HS d0 d1 d2 x1
          skip
          go_wp2_with fail
          obtain ⟨e0, he0, ez0, ez1, ez2⟩ := info_parts item_info2
          have HSX := keep (show ∀ W' : World, W'.heap[W.heap.size]? = w3.heap[W.heap.size]? → W'.cell? ⟨W.heap.size, 0, none⟩ = some (.string yt) ∧ W'.cell? ⟨W.heap.size, 1, none⟩ = some (.int .i64 yf) ∧ W'.cell? ⟨W.heap.size, 2, none⟩ = some (.int .i64 yn) ∧ W'.cell? ⟨W.heap.size, 3, none⟩ = some (.bool yx) ∧ W'.cell? ⟨W.heap.size, 4, none⟩ = some (.slice y1 y2 y3) from fun W' g2 => ⟨upd_cell (g2.trans HAA.out.2.2.2.2.1) 0 _ rfl, upd_cell (g2.trans HAA.out.2.2.2.2.1) 1 _ rfl, upd_cell (g2.trans HAA.out.2.2.2.2.1) 2 _ rfl, upd_cell (g2.trans HAA.out.2.2.2.2.1) 3 _ rfl, upd_cell (g2.trans HAA.out.2.2.2.2.1) 4 _ rfl⟩)
          have HBL := keep (show m3.b < w3.heap.size ∧ W.heap.size < w3.heap.size from ⟨HAA.out.1.lt, (Array.getElem?_eq_some_iff.1 HAA.out.2.2.2.2.1).1⟩)
          have AL := keep (below_lay (World.drew w3) (.cells #[.string yt, .int .i64 yf, .int .i64 yn, .bool yx, .slice y1 y2 y3] 49))
          have HMX := keep (show m3.v.2.1 + 1 ≤ maxLen ∧ (m3.v.2.1 + 1) * 64 ≤ 140737488355328 from by have h8 := HAA.out.1.vlen; have h7 := HAA.out.2.2.2.1; unfold maxLen; omega)
          have HRW := keep (show (World.drew w3).ownsRow lo 49 5 (.slice m3.v.1 m3.v.2.1 m3.v.2.2) m3.v.2.1 (flatF Iv.cells m3.ws) from by have h9 := HAA.out.1.wt; have h8 := HAA.out.1.vlen; unfold Gm.sl at h9; rw [← h8] at h9; exact h9)
          have c1a : (World.drew w3).cell? ⟨m3.b, 1, none⟩ = some (.slice m3.v.1 m3.v.2.1 m3.v.2.2) := HAA.out.1.c0.2.1
          have c1b : (w3.alloc (.cells #[.string yt, .int .i64 yf, .int .i64 yn, .bool yx, .slice y1 y2 y3] 49)).cell? ⟨m3.b, 1, none⟩ = some (.slice m3.v.1 m3.v.2.1 m3.v.2.2) := ((AL.out).cell (p := ⟨m3.b, 1, none⟩) HBL.out.1).trans c1a
          refine wp_region_held_drew (S := (fun w' => w'.cell? ⟨W.heap.size, 0, none⟩ = some (.string yt) ∧ w'.cell? ⟨W.heap.size, 1, none⟩ = some (.int .i64 yf) ∧ w'.cell? ⟨W.heap.size, 2, none⟩ = some (.int .i64 yn) ∧ w'.cell? ⟨W.heap.size, 3, none⟩ = some (.bool yx) ∧ w'.cell? ⟨W.heap.size, 4, none⟩ = some (.slice y1 y2 y3))) (by kernel_rfl) (HSX.out _ rfl) (fun hHeld => ?_)
          refine wpAnyH_take (i := 0) (oi := ⟨some 38, _, _, _, _, _⟩) (v := ?vp21x0) rfl (by kernel_rfl) (by kernel_rfl) (by kernel_rfl) (fun _ _ _ h => h) (Or.inl ⟨by rfl, ?hyp21x0⟩) (by assumption) ?restp21x0
          case hyp21x0 => (intro wz hSw; (try dsimp only at hSw); go_simp <;> (try with_reducible rfl))
          try simp only [Act.put, List.setIfInBounds_toArray, List.set_cons_zero, List.set_cons_succ]
          refine wpAnyH_take (i := 1) (oi := ⟨some 39, _, _, _, _, _⟩) (v := ?vp22x1) rfl (by kernel_rfl) (by kernel_rfl) (by kernel_rfl) (fun _ _ _ h => h) (Or.inl ⟨by rfl, ?hyp22x1⟩) (by assumption) ?restp22x1
          case hyp22x1 => (intro wz hSw; (try dsimp only at hSw); go_simp <;> (try with_reducible rfl))
          try simp only [Act.put, List.setIfInBounds_toArray, List.set_cons_zero, List.set_cons_succ]
          refine wpAnyH_take (i := 2) (oi := ⟨some 40, _, _, _, _, _⟩) (v := ?vp23x2) rfl (by kernel_rfl) (by kernel_rfl) (by kernel_rfl) (fun _ _ _ h => h) (Or.inl ⟨by rfl, ?hyp23x2⟩) (by assumption) ?restp23x2
          case hyp23x2 => (intro wz hSw; (try dsimp only at hSw); go_simp <;> (try with_reducible rfl))
          try simp only [Act.put, List.setIfInBounds_toArray, List.set_cons_zero, List.set_cons_succ]
          refine wpAnyH_take (i := 3) (oi := ⟨some 41, _, _, _, _, _⟩) (v := ?vp24x3) rfl (by kernel_rfl) (by kernel_rfl) (by kernel_rfl) (fun _ _ _ h => h) (Or.inl ⟨by rfl, ?hyp24x3⟩) (by assumption) ?restp24x3
          case hyp24x3 => (intro wz hSw; (try dsimp only at hSw); go_simp <;> (try with_reducible rfl))
          try simp only [Act.put, List.setIfInBounds_toArray, List.set_cons_zero, List.set_cons_succ]
          refine wpAnyH_take (i := 5) (oi := ⟨some 43, _, _, _, _, _⟩) (v := ?vp25x5) rfl (by kernel_rfl) (by kernel_rfl) (by kernel_rfl) (fun _ _ _ h => h) (Or.inl ⟨by rfl, ?hyp25x5⟩) (by assumption) ?restp25x5
          case hyp25x5 => (intro wz hSw; (try dsimp only at hSw); go_simp <;> (try with_reducible rfl))
          try simp only [Act.put, List.setIfInBounds_toArray, List.set_cons_zero, List.set_cons_succ]
          refine wpAnyH_ready (rs := [4, 6]) (by kernel_rfl) (by simp) (AllReadyH.cons (o := ⟨some 42, _, _, _, _, _⟩) rfl (fun K hK => ?pa2) (AllReadyH.cons (o := ⟨some 44, _, _, _, _, _⟩) rfl (fun K hK => ?pb2) AllReadyH.nil))
          case pa2 =>
            go_simp
            refine hK.out _ _ (HSX.out _ rfl) (fun hHeld => ?_)
            clear hK K
            try simp only [Act.put, List.setIfInBounds_toArray, List.set_cons_zero, List.set_cons_succ]
            refine wpAnyH_ready (rs := [6]) (by kernel_rfl) (by simp) (AllReadyH.cons (o := ⟨some 44, _, _, _, _, _⟩) rfl (fun K hK => ?_) AllReadyH.nil)
            go_simp
            refine hK.out _ _ (HSX.out _ (AL.out.block _ HBL.out.2)) (fun hHeld => ?_)
            clear hK K
            try simp only [Act.put, List.setIfInBounds_toArray, List.set_cons_zero, List.set_cons_succ]
            refine wpAnyH_ready (rs := [7]) (by kernel_rfl) (by simp) (AllReadyH.cons (o := ⟨some 45, _, _, _, _, _⟩) rfl (fun K hK => ?_) AllReadyH.nil)
            refine step_append_at rfl (.tmp 42) (.tmp 44) 77 rfl lo 49 e0 _ 5 64 Try.underlying77 he0 ez0 ez1 ez2 rfl (by decide) (.slice m3.v.1 m3.v.2.1 m3.v.2.2) m3.v.2.1 (flatF Iv.cells m3.ws) rfl (HRW.out.alloc _) ⟨w3.heap.size, 0, none⟩ 1 1 [.string yt, .int .i64 yf, .int .i64 yn, .bool yx, .slice y1 y2 y3] rfl rfl (lay_add (W := World.drew w3)) (by simp [Value.oneCell']) HMX.out.1 HMX.out.2 (Nat.le_trans HLL.out AL.out.size) ?_
            intro A5 c5 w5 ho5 hg5 hl5
            obtain ⟨⟨c15, f15⟩, ow6, k1, k2, k3, k4⟩ := MA.app (W1 := ((World.drew w3).alloc (.cells #[.string yt, .int .i64 yf, .int .i64 yn, .bool yx, .slice y1 y2 y3] 49))) HAA.out.1 HAA.out.2.1 HAA.out.2.2.1 HAA.out.2.2.2.1 (((Below.refl _ w3).drew).trans (AL.out.mono (Nat.le_refl _))) ho5.out hg5.out hl5.out
            have HF := keep (show MP lo n ow W m { m3.pt with ws := m3.pt.ws ++ [Iv.it ⟨yt, yf, yn, yx, (y1, y2, y3), yb⟩] } (w5.setCell ⟨m3.b, 1, none⟩ (.slice A5 (m3.v.2.1 + 1) c5)) from ⟨ow6, _, k1, k2, HEE.out.1.trans k3 HEE.out.2.1.size, HEE.out.2.1.trans k4 HEE.out.2.2.2, HEE.out.2.2.1, by unfold Gm.pt; dsimp only; rw [List.map_append]; rfl⟩)
            have HS5h := keep (show w5.heap[W.heap.size]? = w3.heap[W.heap.size]? from (hg5.out.block W.heap.size (Nat.lt_of_lt_of_le HBL.out.2 AL.out.size) (fun e => by obtain ⟨a, ha, hk⟩ := own_sl HAA.out.1 e.symm; have h3 := HAA.out.1.ov a ha; rw [← hk, HAA.out.2.2.2.2.2] at h3; cases h3)).trans (AL.out.block _ HBL.out.2))
            have HS5 := keep (HSX.out w5 HS5h.out)
            have HS6 := keep (HSX.out (w5.setCell ⟨m3.b, 1, none⟩ (.slice A5 (m3.v.2.1 + 1) c5)) ((Below.heap_setCell w5 _ _ _ (fun e => by have e' : W.heap.size = m3.b := e; have h3 := HAA.out.1.ob; rw [← e', HAA.out.2.2.2.2.2] at h3; cases h3)).trans HS5h.out))
            clear ho5 hg5 hl5 k1 k2 k3 k4 c1a c1b
            refine hK.out _ _ HS5.out (fun hHeld => ?_)
            clear hK K
            try simp only [Act.put, List.setIfInBounds_toArray, List.set_cons_zero, List.set_cons_succ]
            refine wpAnyH_take (i := 8) (oi := ⟨some 46, _, _, _, _, _⟩) (v := ?vqa21x8) rfl (by kernel_rfl) (by kernel_rfl) (by kernel_rfl) (fun _ _ _ h => h) (Or.inl ⟨by rfl, ?hyqa21x8⟩) (by assumption) ?restqa21x8
            case hyqa21x8 => (intro wz hSw; (try dsimp only at hSw); go_simp <;> (try with_reducible rfl))
            try simp only [Act.put, List.setIfInBounds_toArray, List.set_cons_zero, List.set_cons_succ]
            refine wpAnyH_take (i := 9) (oi := ⟨some 47, _, _, _, _, _⟩) (v := ?vqa22x9) rfl (by kernel_rfl) (by kernel_rfl) (by kernel_rfl) (fun _ _ _ h => h) (Or.inl ⟨by rfl, ?hyqa22x9⟩) (by assumption) ?restqa22x9
            case hyqa22x9 => (intro wz hSw; (try dsimp only at hSw); go_simp <;> (try with_reducible rfl))
            try simp only [Act.put, List.setIfInBounds_toArray, List.set_cons_zero, List.set_cons_succ]
            refine wpAnyH_ready (rs := [10]) (by kernel_rfl) (by simp) (AllReadyH.cons (o := ⟨none, _, _, _, _, _⟩) rfl (fun K hK => ?_) AllReadyH.nil)
            go_simp
            refine hK.out _ _ HS6.out (fun hHeld => ?_)
            clear hK K
            try simp only [Act.put, List.setIfInBounds_toArray, List.set_cons_zero, List.set_cons_succ]
            refine wpAnyH_done (by kernel_rfl) ?_ _
            go_wp2
            go_ret
            exact ⟨rfl, by have h9 := HF.out; rw [HPT.out] at h9; exact h9⟩
          case pb2 =>
            go_simp
            refine hK.out _ _ (HSX.out _ (AL.out.block _ HBL.out.2)) (fun hHeld => ?_)
            clear hK K
            try simp only [Act.put, List.setIfInBounds_toArray, List.set_cons_zero, List.set_cons_succ]
            refine wpAnyH_ready (rs := [4]) (by kernel_rfl) (by simp) (AllReadyH.cons (o := ⟨some 42, _, _, _, _, _⟩) rfl (fun K hK => ?_) AllReadyH.nil)
            go_simp
            refine hK.out _ _ (HSX.out _ (AL.out.block _ HBL.out.2)) (fun hHeld => ?_)
            clear hK K
            try simp only [Act.put, List.setIfInBounds_toArray, List.set_cons_zero, List.set_cons_succ]
            refine wpAnyH_ready (rs := [7]) (by kernel_rfl) (by simp) (AllReadyH.cons (o := ⟨some 45, _, _, _, _, _⟩) rfl (fun K hK => ?_) AllReadyH.nil)
            refine step_append_at rfl (.tmp 42) (.tmp 44) 77 rfl lo 49 e0 _ 5 64 Try.underlying77 he0 ez0 ez1 ez2 rfl (by decide) (.slice m3.v.1 m3.v.2.1 m3.v.2.2) m3.v.2.1 (flatF Iv.cells m3.ws) rfl (HRW.out.alloc _) ⟨w3.heap.size, 0, none⟩ 1 1 [.string yt, .int .i64 yf, .int .i64 yn, .bool yx, .slice y1 y2 y3] rfl rfl (lay_add (W := World.drew w3)) (by simp [Value.oneCell']) HMX.out.1 HMX.out.2 (Nat.le_trans HLL.out AL.out.size) ?_
            intro A5 c5 w5 ho5 hg5 hl5
            obtain ⟨⟨c15, f15⟩, ow6, k1, k2, k3, k4⟩ := MA.app (W1 := ((World.drew w3).alloc (.cells #[.string yt, .int .i64 yf, .int .i64 yn, .bool yx, .slice y1 y2 y3] 49))) HAA.out.1 HAA.out.2.1 HAA.out.2.2.1 HAA.out.2.2.2.1 (((Below.refl _ w3).drew).trans (AL.out.mono (Nat.le_refl _))) ho5.out hg5.out hl5.out
            have HF := keep (show MP lo n ow W m { m3.pt with ws := m3.pt.ws ++ [Iv.it ⟨yt, yf, yn, yx, (y1, y2, y3), yb⟩] } (w5.setCell ⟨m3.b, 1, none⟩ (.slice A5 (m3.v.2.1 + 1) c5)) from ⟨ow6, _, k1, k2, HEE.out.1.trans k3 HEE.out.2.1.size, HEE.out.2.1.trans k4 HEE.out.2.2.2, HEE.out.2.2.1, by unfold Gm.pt; dsimp only; rw [List.map_append]; rfl⟩)
            have HS5h := keep (show w5.heap[W.heap.size]? = w3.heap[W.heap.size]? from (hg5.out.block W.heap.size (Nat.lt_of_lt_of_le HBL.out.2 AL.out.size) (fun e => by obtain ⟨a, ha, hk⟩ := own_sl HAA.out.1 e.symm; have h3 := HAA.out.1.ov a ha; rw [← hk, HAA.out.2.2.2.2.2] at h3; cases h3)).trans (AL.out.block _ HBL.out.2))
            have HS5 := keep (HSX.out w5 HS5h.out)
            have HS6 := keep (HSX.out (w5.setCell ⟨m3.b, 1, none⟩ (.slice A5 (m3.v.2.1 + 1) c5)) ((Below.heap_setCell w5 _ _ _ (fun e => by have e' : W.heap.size = m3.b := e; have h3 := HAA.out.1.ob; rw [← e', HAA.out.2.2.2.2.2] at h3; cases h3)).trans HS5h.out))
            clear ho5 hg5 hl5 k1 k2 k3 k4 c1a c1b
            refine hK.out _ _ HS5.out (fun hHeld => ?_)
            clear hK K
            try simp only [Act.put, List.setIfInBounds_toArray, List.set_cons_zero, List.set_cons_succ]
            refine wpAnyH_take (i := 8) (oi := ⟨some 46, _, _, _, _, _⟩) (v := ?vqb21x8) rfl (by kernel_rfl) (by kernel_rfl) (by kernel_rfl) (fun _ _ _ h => h) (Or.inl ⟨by rfl, ?hyqb21x8⟩) (by assumption) ?restqb21x8
            case hyqb21x8 => (intro wz hSw; (try dsimp only at hSw); go_simp <;> (try with_reducible rfl))
            try simp only [Act.put, List.setIfInBounds_toArray, List.set_cons_zero, List.set_cons_succ]
            refine wpAnyH_take (i := 9) (oi := ⟨some 47, _, _, _, _, _⟩) (v := ?vqb22x9) rfl (by kernel_rfl) (by kernel_rfl) (by kernel_rfl) (fun _ _ _ h => h) (Or.inl ⟨by rfl, ?hyqb22x9⟩) (by assumption) ?restqb22x9
            case hyqb22x9 => (intro wz hSw; (try dsimp only at hSw); go_simp <;> (try with_reducible rfl))
            try simp only [Act.put, List.setIfInBounds_toArray, List.set_cons_zero, List.set_cons_succ]
            refine wpAnyH_ready (rs := [10]) (by kernel_rfl) (by simp) (AllReadyH.cons (o := ⟨none, _, _, _, _, _⟩) rfl (fun K hK => ?_) AllReadyH.nil)
            go_simp
            refine hK.out _ _ HS6.out (fun hHeld => ?_)
            clear hK K
            try simp only [Act.put, List.setIfInBounds_toArray, List.set_cons_zero, List.set_cons_succ]
            refine wpAnyH_done (by kernel_rfl) ?_ _
            go_wp2
            go_ret
            exact ⟨rfl, by have h9 := HF.out; rw [HPT.out] at h9; exact h9⟩

end
end Go.Proofs.Ytnbicbnighpkjaa
