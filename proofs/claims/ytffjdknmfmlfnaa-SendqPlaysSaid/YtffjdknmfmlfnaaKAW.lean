/- KAW of the stage: texts Q17, joined. -/
import Derived.Test.YtffjdknmfmlfnaaKAV
set_option linter.unusedSimpArgs false
set_option linter.unusedVariables false
namespace Go.Proofs.Ytffjdknmfmlfnaa
section
open Go.RowKit Go.Maps
attribute [local go_sem] Oper.semAt_some

/-- An append as a step of a region that draws its order, inside a fence; where the row lies then. -/
theorem step_appendI {F : Fence} {n' : Nat} {P : Program} {w : World} {ops : Array Oper} {o : Oper} {a : Act} {Q : Exit → Act → World → Prop} {S : Nat} {K : Act → World → Prop} {E : Prop} (hS : 0 < S) (hgd : o.guard = none) (s x : Operand) (t : TypeId) (ho : o.op = .call { callee := .builtin .append, args := #[s, x], argTypes := #[t, t] })
    (base : Nat) (e : TypeId) (i : TypeInfo) (z : Value) (ht : P.underlying t = some (.slice e)) (hi : P.info? e = some i) (hz : i.zero = some z) (hsize : i.size = S) (hz1 : z.cells.size = S)
    (v : Value) (n : Nat) (xs : List Value) (hs : a.eval s = v) (hown : w.ownsRow base e S v n xs) (b : Addr) (m c : Nat) (news : List Value) (hx : a.eval x = .slice (some b) m c) (hm : news.length = m * S) (hr : ∀ j u, news[j]? = some u → w.cell? (b.add j) = some u) (h1 : ∀ u ∈ news, u.oneCell' = true)
    (h63 : n + m ≤ maxLen) (hbytes : (n + m) * i.bytes ≤ 140737488355328) (hbase : base ≤ w.heap.size)
    (h : ∀ A' c' w', w'.ownsRow base e S (.slice A' (n + m) c') (n + m) (xs ++ news) → w.grownBy w' v.ownBlock → ((Value.slice A' (n + m) c').ownBlock = v.ownBlock ∨ (Value.slice A' (n + m) c').ownBlock = some w.heap.size) → K (a.put o.dst (.slice A' (n + m) c')) w') : if Region.wanted o (yielded ops a.tmps) = true then Oper.wpIn F n' P o a w K Q else E := by
  have hw : Region.wanted o (yielded ops a.tmps) = true := by simp [Region.wanted, hgd]
  rw [if_pos hw]
  obtain ⟨v', w', hrun, h2, h3, _, h5⟩ := run_append_own_at (P := P) w base t o.type e i z S i.bytes ht hi hz hsize rfl hz1 hS v n xs hown b m c news hm hr h1 h63 hbytes hbase
  obtain ⟨A', c', rfl, _⟩ := own_shape2' h2
  unfold Oper.wpIn
  refine ⟨?_, ?_⟩
  · simp [Oper.about, ho, resolve, Target.leads, Sem.run_pure]
  · rw [Oper.semAt_plain F _ _ (by rw [ho]; intro c hc'; cases hc')]
    simp only [execOp, ho, resolve, invoke, builtin, Sem.run_bind, Sem.run_pure, Result.andThen_ok, List.map_toArray, List.map_cons, List.map_nil, hs, hx, hrun]
    exact h A' c' w' h2 h3 h5
theorem cells_new (w : World) (cs : List Value) (t : TypeId) : ∀ (j : Nat) u, cs[j]? = some u → (w.alloc (.cells cs.toArray t)).cell? ((⟨w.heap.size, 0, none⟩ : Addr).add j) = some u := fun j u h => by
  rw [Addr.add_lit, cell_of_row _ _ _ _ _ _ (heap_alloc_new w _), Nat.zero_add]
  simpa using h
theorem zchunk_info : (Try.prog.info? 45).map (fun i => (i.zero, i.size, i.bytes)) = some (some (.agg #[.int .u8 0, .int .u8 0, .int .u32 0, .int .u32 0, .int .u16 0, .int .u16 0, .int .u32 0, .slice none 0 0, .slice none 0 0, .slice none 0 0, .slice none 0 0, .slice none 0 0]), 12, 144) := by kernel_rfl
theorem tkm_told {w : World} {G : Gq} {q : Qm} {now r : Int} {es : List En} {s : SL} {ys : List CZ} {A : World} (h : TkM w G q now es r s ys A) {w3 : World} (hb : Below A.heap.size A w3) {o : Obj} {w5 : World} (hg : (w3.alloc o).grownBy w5 (Value.slice s.1 s.2.1 s.2.2).ownBlock) :
    w5.cell? ⟨w.heap.size + 2, 0, none⟩ = some (.slice s.1 s.2.1 s.2.2) ∧ w5.frozen? ⟨w.heap.size + 2, 0, none⟩ = false := by
  have h1 := h.st (StN.of_below (N := w.heap.size) (up hb (below_lay w3 o))) (Nat.le_refl _)
  have h2 := (hg.block _ (Array.getElem?_eq_some_iff.1 h1.tb).1 fun e => by have := (h1.row.lt _ e.symm).1; omega).trans h1.tb
  exact ⟨upd_cell h2 0 _ rfl, upd_fz h2 0⟩
theorem kpt_set {T : TypeId → Prop} {N : Nat} {W : World} {b j : Nat} {v : Value} {cs : Array Value} {t : TypeId} {fr : Nat × Nat} (h : W.heap[b]? = some (.cells cs t fr)) (hN : b < N ∨ ¬ T t) : KpT T N W (W.setCell ⟨b, j, none⟩ v) :=
  KpT.of_grown (grown_set W ⟨b, j, none⟩ v) fun r hr => by
    injection hr with hr
    subst hr
    exact ⟨_, _, _, h, hN⟩
theorem kpt_send {N : Nat} {W : World} {p : Nat} {cs : Array Value} (h : W.heap[p]? = some (.cells cs 78 (0, 0))) (v1 v2 v3 v4 : Value) :
    KpT itT N W ((((W.setCell ⟨p, 13, none⟩ v1).setCell ⟨p, 15, none⟩ v2).setCell ⟨p, 16, none⟩ v3).setCell ⟨p, 14, none⟩ v4) ∧ KeepsOthers W ((((W.setCell ⟨p, 13, none⟩ v1).setCell ⟨p, 15, none⟩ v2).setCell ⟨p, 16, none⟩ v3).setCell ⟨p, 14, none⟩ v4) := by
  have hT : ¬ itT 78 := by unfold itT; decide
  have h1 := heap_setCell_same W p 13 _ _ v1 h
  have h2 := heap_setCell_same _ p 15 _ _ v2 h1
  have h3 := heap_setCell_same _ p 16 _ _ v3 h2
  exact ⟨(((kpt_set h (.inr hT)).trans (kpt_set h1 (.inr hT))).trans (kpt_set h2 (.inr hT))).trans (kpt_set h3 (.inr hT)),
    (((KeepsOthers.setCell _ _ _).trans (KeepsOthers.setCell _ _ _)).trans (KeepsOthers.setCell _ _ _)).trans (KeepsOthers.setCell _ _ _)⟩
/-- What Take leaves. -/
def TakeF (w : World) (G : Gq) (q : Qm) (now : Int) (R : List En × List CZ) (A : World) : Prop :=
  ∃ r s ys, TkM w G q now R.1 r s ys A ∧ ys.map CZ.ct = R.2.map CZ.ct ∧ ys.map (fun y => y.da.2.1) = R.2.map (fun y => y.da.2.1)
structure TakeP (w : World) (G : Gq) (q : Qm) (R : List En × List CZ) (s : SL) (ys : List CZ) (w' : World) : Prop where
  qa : QA w' G ⟨R.1, q.nx, q.mg⟩
  lt : Ltr w G w' G
  row : w'.ownsRow w.heap.size 45 12 (.slice s.1 s.2.1 s.2.2) s.2.1 (flatF CZ.cells ys)
  zs : ∀ y ∈ ys, ZV w' y ∧ (∀ k, adB y k → w.heap.size ≤ k ∧ k < w'.heap.size) ∧ w'.ownsRow w.heap.size 5 1 (.slice y.da.1 y.da.2.1 y.da.2.2) y.da.2.1 (bc y.bs)
  ct : ys.map CZ.ct = R.2.map CZ.ct
  dl : ys.map (fun y => y.da.2.1) = R.2.map (fun y => y.da.2.1)
/-- Between two rounds. -/
def TkI (w : World) (G : Gq) (q : Qm) (now : Int) (R : List En × List CZ) (i : Nat) (A : World) : Prop :=
  ∃ es r t s ys, TkM w G q now es r s ys A ∧ ys.map CZ.ct = t.map CZ.ct ∧ ys.map (fun y => y.da.2.1) = t.map (fun y => y.da.2.1) ∧ takeGo now q.es.length (q.es.length + q.es.length - i) i es r t = R ∧ r < 9223372036854775808 ∧ t.length ≤ i
theorem TkI.st {w : World} {G : Gq} {q : Qm} {now : Int} {R : List En × List CZ} {i : Nat} {A B : World} (h : TkI w G q now R i A) {N : Nat} (k : StN N A B) (hN : w.heap.size ≤ N) : TkI w G q now R i B := by
  obtain ⟨es, r, t, s, ys, h1, h2⟩ := h
  exact ⟨es, r, t, s, ys, h1.st k hN, h2⟩
theorem TkI.fin {w : World} {G : Gq} {q : Qm} {now : Int} {R : List En × List CZ} {A : World} (h : TkI w G q now R (q.es.length + q.es.length) A) : TakeF w G q now R A := by
  obtain ⟨es, r, t, s, ys, h1, h2, h3, h4, _⟩ := h
  rw [Nat.sub_self] at h4
  subst h4
  exact ⟨r, s, ys, h1, h2, h3⟩
theorem tk_out {w : World} {G : Gq} {q : Qm} {now r : Int} {R : List En × List CZ} {s : SL} {ys : List CZ} {B : World} (h : TkM w G q now R.1 r s ys B) (h2 : ys.map CZ.ct = R.2.map CZ.ct) (h3 : ys.map (fun y => y.da.2.1) = R.2.map (fun y => y.da.2.1)) : TakeP w G q R s ys B :=
  ⟨h.qa, ⟨rfl, h.pt, fun _ h => .inl h, fun _ h => .inl h⟩, own_mono h.row (by omega), fun y hy => by
    obtain ⟨a1, a2, a3⟩ := h.zs y hy
    exact ⟨a1, fun k hk => ⟨by have := (a2 k hk).1; omega, (a2 k hk).2.1⟩, own_mono a3 (by omega)⟩, h2, h3⟩
set_option maxRecDepth 100000 in
set_option maxHeartbeats 4000000 in
theorem Take_any {w : World} {G : Gq} {q : Qm} (h : QA w G q) (now room : Int) (hroom : room < 9223372036854775808) :
    Calls Try.prog 12 #[.pointer (some ⟨G.b, 0, none⟩), .int .i64 now, .int .i64 room] w fun e w' => ∃ s ys, e = .returned (.slice s.1 s.2.1 s.2.2) ∧ TakeP w G q (takeQ q now room) s ys w' := by
  have hmix : Try.prog.follows .mixedOrders = true := by kernel_rfl
  obtain ⟨i0, hi0, hiz, his, hib⟩ := info_parts zchunk_info
  have F1 : Fence.wide.fn 39 := trivial
  have F2 : Fence.wide.fn 38 := trivial
  have F3 : Fence.wide.fn 40 := trivial
  have F4 : Fence.wide.fn 41 := trivial
  have F5 : Fence.wide.fn 37 := trivial
  obtain ⟨R, hR⟩ : ∃ R, takeQ q now room = R := ⟨_, rfl⟩
  rw [hR]
  have HL := keep (fun W (hb : Below w.heap.size w W) => list_at G.b _ _ _ W (h.step hb).b0.1)
  have HO := keep h.olt
  have HF := keep h.flt
  have HQ := keep h
  have HRR := keep hR
  have hps : (q.es.map En.p).length = q.es.length := List.length_map _
  have hle := h.le
  clear h hR
  refine (callsIn_wide (n := 6)).1 ?_
  refine callsIn_of_wp_marks Try.func12 rfl trivial ?_ rfl
  simp only [Try.ntmps12, List.size_toArray, List.length_cons, List.length_nil, Nat.reduceAdd, Nat.reduceSub, Array.replicate_succ, Array.replicate_zero, List.push_toArray, List.append_toArray, List.nil_append, List.cons_append]
  gi_wp2_with (first
    | (gi_at_call 39; refine (callsIn_wide.2 (HL.out _ (up (up (below_lay w _) (below_lay _ _)) (below_lay _ _)))).mono ?_; rintro e w' ⟨rfl, rfl⟩)
    | (gi_at_call 38; refine (callsIn_wide.2 (due_any _ _ _ _)).mono ?_; rintro e w' ⟨rfl, rfl⟩))
  generalize hW1 : World.alloc _ _ = W1
  have J0 : TkI w G q now R 0 W1 := by
    rw [← hW1]
    have hb := up (up (up (below_lay w (.cells #[.int .i64 now] 3)) (below_lay _ (.cells #[.int .i64 room] 3))) (below_lay _ (.cells #[.slice none 0 0] 31))) (below_lay _ (.cells #[.slice G.s.1 G.s.2.1 G.s.2.2] 54))
    exact ⟨q.es, room, [], (none, 0, 0), [], ⟨HQ.out.step hb, rfl, Part.of_below _ hb, below_new (below_new (below_new (heap_new_at rfl))), below_new (below_new (heap_new_at (by simp))), below_new (heap_new_at (by simp)), heap_new_at (by simp), World.ownsRow_nil _ _ _ _, fun y hy => by cases hy⟩, rfl, rfl, HRR.out, hroom, Nat.le_refl _⟩
  have hs1 : w.heap.size + 4 ≤ W1.heap.size := by rw [← hW1]; simp
  clear hW1
  refine rangeFunc_ix (n := 6) rfl (by omega) (gf := 63) (lb := #[.pointer (some ⟨w.heap.size + 1 + 1 + 1, 0, none⟩)]) rfl trivial (enters_of Try.func63 (by kernel_rfl) rfl) (N := (q.es.map En.p).length + (q.es.map En.p).length) (enc := encD (q.es.map En.p)) (fun _ => rfl)
    (DuX (q.es.map En.p)) (fun _ => DuOwn (w.heap.size + 3) G.s (q.es.map En.p)) (KpT itT (W1.heap.size + 2))
    (TkI w G q now R) (fun c A => c = .exit 0 ∧ TakeF w G q now R A)
    (due1_seq (6 - 1) (by omega) _ _ (q.es.map En.p) (by rw [hps]; exact hle) _)
    (fun i A B st h => h.st st (by omega)) (fun c A B st h => ⟨h.1, by
      obtain ⟨r, s, ys, h1, h2⟩ := h.2
      exact ⟨r, s, ys, h1.st st (by omega), h2⟩⟩)
    (fun i A B st h => by
      obtain ⟨p, h1, h2⟩ := h
      exact ⟨p, h1, st.cell h2⟩)
    (fun W l o o' W' p p' h1 h2 _ _ _ _ hk => KpT.put h2 hk)
    (fun i A h => by
      obtain ⟨es, r, t, s, ys, h1, _⟩ := h
      exact h1.own)
    (fun i A hi h hx => by
      obtain ⟨es, r, t, s, ys, h1, h2, h3, h4, h5, h6⟩ := h
      obtain ⟨e, he, _⟩ := h1.get hi
      have hne := fun hh => hx ((h1.x he).2 hh)
      rw [hps] at he hne hi
      refine ⟨es, r, t, s, ys, h1, h2, h3, ?_, h5, by omega⟩
      rw [← h4, show q.es.length + q.es.length - i = (q.es.length + q.es.length - (i + 1)) + 1 by omega, takeGo_no he hne])
    J0 ?round ?done ?stop
  case round =>
    rintro l i A hl hi hJ hx
    have HI := keep hi
    obtain ⟨pp, hpp⟩ : ∃ pp, (q.es.map En.p).getD (ixD (q.es.map En.p).length i) 0 = pp := ⟨_, rfl⟩
    simp only [Array.zip, encD]
    rw [hpp]
    have HPP := keep hpp
    clear hJ hx hpp hi
    gi_wp2
    refine ⟨by first | rfl | trivial, fun A2 hJ2 hx2 => ?_⟩
    obtain ⟨es, r, t, s, ys, h1, h2, h3, h4, h5, h6⟩ := hJ2
    obtain ⟨e, he, hge⟩ := h1.get HI.out
    rw [HPP.out] at hge
    subst hge
    have HX := keep ((h1.x he).1 hx2)
    rw [hps] at he HX
    have HE := keep he
    have hen := h1.qa.en e (List.mem_of_getElem? he)
    have c11 := hen.1.at_ 11 _ rfl
    have HC11 := keep c11
    have cr := upd_cell h1.rb 0 _ rfl
    have fr := upd_fz h1.rb 0
    have KO := keep (fun (W : World) (hc : W.cell? ⟨e.p, 11, none⟩ = some (.slice e.c.da.1 e.c.da.2.1 e.c.da.2.2)) => octets_at e.p _ _ _ W hc)
    have HM := keep h1
    have HT := keep (And.intro h2 (And.intro h3 (And.intro h4 (And.intro h5 h6))))
    have HEN := keep hen
    clear h1 h2 h3 h4 h5 h6 hx2 he hen
    by_cases hfit : r < (e.c.da.2.1 : Int)
    · have HFIT := keep hfit
      gi_wp2
      refine wpIn_region_held (S := fun w' => w'.cell? ⟨w.heap.size + 1, 0, none⟩ = some (.int .i64 r)) hmix (by kernel_rfl) (by rintro ⟨_, _, hh⟩; exact hh) cr (fun hHeld => ?_)
      refine wpAnyH_take (i := 0) (oi := ⟨some 13, _, _, _, _, _⟩) (v := ?va1x0) rfl (by kernel_rfl) (by kernel_rfl) (by kernel_rfl) (fun _ _ _ h => h) (Or.inl ⟨by rfl, ?hya1x0⟩) (by assumption) ?resta1x0
      case hya1x0 => (intro wz hSw; (try dsimp only at hSw); go_simp <;> (try with_reducible rfl))
      try simp only [Act.put, List.setIfInBounds_toArray, List.set_cons_zero, List.set_cons_succ]
      refine wpAnyH_take (i := 2) (oi := ⟨some 15, _, _, _, _, _⟩) (v := ?va2x2) rfl (by kernel_rfl) (by kernel_rfl) (by kernel_rfl) (fun _ _ _ h => h) (Or.inl ⟨by rfl, ?hya2x2⟩) (by assumption) ?resta2x2
      case hya2x2 => (intro wz hSw; (try dsimp only at hSw); go_simp <;> (try with_reducible rfl))
      try simp only [Act.put, List.setIfInBounds_toArray, List.set_cons_zero, List.set_cons_succ]
      refine wpAnyH_ready (rs := [1]) (by kernel_rfl) (by simp) (AllReadyH.cons (o := ⟨some 14, _, _, _, _, _⟩) rfl (fun K hK => ?_) AllReadyH.nil)
      go_simp
      go_at_call 40
      refine (KO.out A2.drew HC11.out).mono ?_
      rintro e1 w1 ⟨rfl, rfl⟩
      (try go_wp2_with fail)
      refine hK.out _ _ cr (fun hHeld => ?_)
      clear hK K
      try simp only [Act.put, List.setIfInBounds_toArray, List.set_cons_zero, List.set_cons_succ]
      refine wpAnyH_take (i := 3) (oi := ⟨some 16, _, _, _, _, _⟩) (v := ?va3x3) rfl (by kernel_rfl) (by kernel_rfl) (by kernel_rfl) (fun _ _ _ h => h) (Or.inl ⟨by rfl, ?hya3x3⟩) (by assumption) ?resta3x3
      case hya3x3 => (intro wz hSw; (try dsimp only at hSw); go_simp <;> (try with_reducible rfl))
      try simp only [Act.put, List.setIfInBounds_toArray, List.set_cons_zero, List.set_cons_succ]
      refine wpAnyH_done (by kernel_rfl) ?_ _
      gi_wp2
      have hfull := takeGo_full (now := now) (k := q.es.length + q.es.length - (i + 1)) (t := t) HE.out HX.out HFIT.out
      have hRR := HT.out.2.2.1
      rw [show q.es.length + q.es.length - i = (q.es.length + q.es.length - (i + 1)) + 1 by have := HI.out; rw [hps] at this; omega, hfull] at hRR
      rw [← hRR]
      exact ⟨(KeepsOthers.drew A2).from _, KpT.drew A2, rfl, r, s, ys, HM.out.st (StN.drew w.heap.size A2) (Nat.le_refl _), HT.out.1, HT.out.2.1⟩
    · have hfit' := keep hfit
      have r4 := HT.out.2.2.2.1
      have hn0 : 0 ≤ r - (e.c.da.2.1 : Int) ∧ r - (e.c.da.2.1 : Int) < 9223372036854775808 := by omega
      have hwr : IntKind.i64.wrap (r - (e.c.da.2.1 : Int)) = r - (e.c.da.2.1 : Int) := IntWalk.i64_in _ (by omega)
      have HN0 := keep hn0
      have HC5 : Hid ((A2.drew.drew.setCell ⟨w.heap.size + 1, 0, none⟩ (.int .i64 (r - (e.c.da.2.1 : Int)))).cell? ⟨e.p, 11, none⟩ = some (.slice e.c.da.1 e.c.da.2.1 e.c.da.2.2)) := keep (by
        have hlt := HO.out _ HEN.out.2.1
        exact (World.cell?_of_block (w := A2) (a := ⟨e.p, 11, none⟩) (Below.heap_setCell A2.drew.drew ⟨w.heap.size + 1, 0, none⟩ _ e.p (by show e.p ≠ w.heap.size + 1; omega))).trans HC11.out)
      have M5 := (HM.out.room HO.out HF.out (r - (e.c.da.2.1 : Int))).st ((StN.drew w.heap.size _).trans (StN.drew w.heap.size _)) (Nat.le_refl _)
      have K5 : KpT itT (W1.heap.size + 2) A2 (A2.setCell ⟨w.heap.size + 1, 0, none⟩ (.int .i64 (r - (e.c.da.2.1 : Int)))).drew.drew := ((kpt_set HM.out.rb (.inl (by omega))).trans (KpT.drew _)).trans (KpT.drew _)
      have L5 : KeepsOthers A2 (A2.setCell ⟨w.heap.size + 1, 0, none⟩ (.int .i64 (r - (e.c.da.2.1 : Int)))).drew.drew := ((KeepsOthers.setCell _ _ _).trans (KeepsOthers.drew _)).trans (KeepsOthers.drew _)
      have H5 := keep (And.intro M5 (And.intro K5 L5))
      clear r4 hn0 M5 K5 L5
      gi_wp2
      refine wpIn_region_held (S := fun w' => w'.cell? ⟨w.heap.size + 1, 0, none⟩ = some (.int .i64 r)) hmix (by kernel_rfl) (by rintro ⟨_, _, hh⟩; exact hh) cr (fun hHeld => ?_)
      refine wpAnyH_take (i := 0) (oi := ⟨some 13, _, _, _, _, _⟩) (v := ?vc1x0) rfl (by kernel_rfl) (by kernel_rfl) (by kernel_rfl) (fun _ _ _ h => h) (Or.inl ⟨by rfl, ?hyc1x0⟩) (by assumption) ?restc1x0
      case hyc1x0 => (intro wz hSw; (try dsimp only at hSw); go_simp <;> (try with_reducible rfl))
      try simp only [Act.put, List.setIfInBounds_toArray, List.set_cons_zero, List.set_cons_succ]
      refine wpAnyH_take (i := 2) (oi := ⟨some 15, _, _, _, _, _⟩) (v := ?vc2x2) rfl (by kernel_rfl) (by kernel_rfl) (by kernel_rfl) (fun _ _ _ h => h) (Or.inl ⟨by rfl, ?hyc2x2⟩) (by assumption) ?restc2x2
      case hyc2x2 => (intro wz hSw; (try dsimp only at hSw); go_simp <;> (try with_reducible rfl))
      try simp only [Act.put, List.setIfInBounds_toArray, List.set_cons_zero, List.set_cons_succ]
      refine wpAnyH_ready (rs := [1]) (by kernel_rfl) (by simp) (AllReadyH.cons (o := ⟨some 14, _, _, _, _, _⟩) rfl (fun K hK => ?_) AllReadyH.nil)
      go_simp
      go_at_call 40
      refine (KO.out A2.drew HC11.out).mono ?_
      rintro e1 w1 ⟨rfl, rfl⟩
      (try go_wp2_with fail)
      refine hK.out _ _ cr (fun hHeld => ?_)
      clear hK K
      try simp only [Act.put, List.setIfInBounds_toArray, List.set_cons_zero, List.set_cons_succ]
      refine wpAnyH_take (i := 3) (oi := ⟨some 16, _, _, _, _, _⟩) (v := ?vc3x3) rfl (by kernel_rfl) (by kernel_rfl) (by kernel_rfl) (fun _ _ _ h => h) (Or.inl ⟨by rfl, ?hyc3x3⟩) (by assumption) ?restc3x3
      case hyc3x3 => (intro wz hSw; (try dsimp only at hSw); go_simp <;> (try with_reducible rfl))
      try simp only [Act.put, List.setIfInBounds_toArray, List.set_cons_zero, List.set_cons_succ]
      refine wpAnyH_done (by kernel_rfl) ?_ _
      gi_wp2
      refine wpIn_region_held (S := fun w' => w'.cell? ⟨e.p, 11, none⟩ = some (.slice e.c.da.1 e.c.da.2.1 e.c.da.2.2)) hmix (by kernel_rfl) (by rintro ⟨_, _, hh⟩; exact hh) HC11.out (fun hHeld => ?_)
      refine wpAnyH_take (i := 1) (oi := ⟨some 18, _, _, _, _, _⟩) (v := ?vb1x1) rfl (by kernel_rfl) (by kernel_rfl) (by kernel_rfl) (fun _ _ _ h => h) (Or.inl ⟨by rfl, ?hyb1x1⟩) (by assumption) ?restb1x1
      case hyb1x1 => (intro wz hSw; (try dsimp only at hSw); go_simp <;> (try with_reducible rfl))
      try simp only [Act.put, List.setIfInBounds_toArray, List.set_cons_zero, List.set_cons_succ]
      refine wpAnyH_ready (rs := [0, 2]) (by kernel_rfl) (by simp) (AllReadyH.cons (o := ⟨some 17, _, _, _, _, _⟩) rfl (fun K hK => ?_) (AllReadyH.cons (o := ⟨some 19, _, _, _, _, _⟩) rfl (fun K hK => ?_) AllReadyH.nil))
      go_simp
      refine hK.out _ _ HC11.out (fun hHeld => ?_)
      clear hK K
      try simp only [Act.put, List.setIfInBounds_toArray, List.set_cons_zero, List.set_cons_succ]
      refine wpAnyH_ready (rs := [2]) (by kernel_rfl) (by simp) (AllReadyH.cons (o := ⟨some 19, _, _, _, _, _⟩) rfl (fun K hK => ?_) AllReadyH.nil)
      go_simp
      go_at_call 40
      refine (KO.out A2.drew.drew HC11.out).mono ?_
      rintro e1 w1 ⟨rfl, rfl⟩
      (try focus go_wp2_with fail)
      refine hK.out _ _ HC11.out (fun hHeld => ?_)
      clear hK K
      try simp only [Act.put, List.setIfInBounds_toArray, List.set_cons_zero, List.set_cons_succ]
      refine wpAnyH_take (i := 3) (oi := ⟨some 20, _, _, _, _, _⟩) (v := ?vb2x3) rfl (by kernel_rfl) (by kernel_rfl) (by kernel_rfl) (fun _ _ _ h => h) (Or.inl ⟨by rfl, ?hyb2x3⟩) (by assumption) ?restb2x3
      case hyb2x3 => (intro wz hSw; (try dsimp only at hSw); go_simp <;> (try with_reducible rfl))
      try simp only [Act.put, List.setIfInBounds_toArray, List.set_cons_zero, List.set_cons_succ]
      refine wpAnyH_ready (rs := [4]) (by kernel_rfl) (by simp) (AllReadyH.cons (o := ⟨none, _, _, _, _, _⟩) rfl (fun K hK => ?_) AllReadyH.nil)
      go_simp
      refine hK.out _ _ HC5.out (fun hHeld => ?_)
      clear hK K
      try simp only [Act.put, List.setIfInBounds_toArray, List.set_cons_zero, List.set_cons_succ]
      refine wpAnyH_done (by kernel_rfl) ?_ _
      rotate_left
      go_simp
      go_at_call 40
      refine (KO.out A2.drew.drew HC11.out).mono ?_
      rintro e1 w1 ⟨rfl, rfl⟩
      (try focus go_wp2_with fail)
      refine hK.out _ _ HC11.out (fun hHeld => ?_)
      clear hK K
      try simp only [Act.put, List.setIfInBounds_toArray, List.set_cons_zero, List.set_cons_succ]
      refine wpAnyH_ready (rs := [0]) (by kernel_rfl) (by simp) (AllReadyH.cons (o := ⟨some 17, _, _, _, _, _⟩) rfl (fun K hK => ?_) AllReadyH.nil)
      go_simp
      refine hK.out _ _ HC11.out (fun hHeld => ?_)
      clear hK K
      try simp only [Act.put, List.setIfInBounds_toArray, List.set_cons_zero, List.set_cons_succ]
      refine wpAnyH_take (i := 3) (oi := ⟨some 20, _, _, _, _, _⟩) (v := ?vb3x3) rfl (by kernel_rfl) (by kernel_rfl) (by kernel_rfl) (fun _ _ _ h => h) (Or.inl ⟨by rfl, ?hyb3x3⟩) (by assumption) ?restb3x3
      case hyb3x3 => (intro wz hSw; (try dsimp only at hSw); go_simp <;> (try with_reducible rfl))
      try simp only [Act.put, List.setIfInBounds_toArray, List.set_cons_zero, List.set_cons_succ]
      refine wpAnyH_ready (rs := [4]) (by kernel_rfl) (by simp) (AllReadyH.cons (o := ⟨none, _, _, _, _, _⟩) rfl (fun K hK => ?_) AllReadyH.nil)
      go_simp
      refine hK.out _ _ HC5.out (fun hHeld => ?_)
      clear hK K
      try simp only [Act.put, List.setIfInBounds_toArray, List.set_cons_zero, List.set_cons_succ]
      refine wpAnyH_done (by kernel_rfl) ?_ _
      rotate_left
      rotate_left
      rotate_left
      · have M5 := H5.out.1
        have HE5 := M5.qa.en e (List.mem_of_getElem? HE.out)
        have cn : World.cell? _ ⟨w.heap.size, 0, none⟩ = some (Value.int .i64 now) := upd_cell M5.nb 0 _ rfl
        have KS := keep (fun W h13 h14 h15 h16 f13 f14 f15 f16 => send_at e.p now e.sn e.st e.la e.ms W h13 h14 h15 h16 f13 f14 f15 f16)
        obtain ⟨_, c13, c14, c15, c16⟩ := HE5.1.c12
        have f13 := HE5.1.fz 13
        have f14 := HE5.1.fz 14
        have f15 := HE5.1.fz 15
        have f16 := HE5.1.fz 16
        clear M5 HE5 c11 cr fr
        gi_wp2_with (gi_at_call 41; refine (CallsIn.inRound l (callsIn_wide.2 (KS.out _ c13 c14 c15 c16 f13 f14 f15 f16))).mono ?_; rintro e6 w6 ⟨rfl, rfl⟩)
        obtain ⟨W6, hW6⟩ : ∃ W6, (((((A2.setCell ⟨w.heap.size + 1, 0, none⟩ (.int .i64 (r - (e.c.da.2.1 : Int)))).setCell ⟨e.p, 13, none⟩ (.int .i64 1)).setCell ⟨e.p, 15, none⟩ (.int .i64 now)).setCell ⟨e.p, 16, none⟩ (.int .i64 0)).setCell ⟨e.p, 14, none⟩ (.int .i64 (wrap64 (e.sn + 1)))).drew.drew = W6 := ⟨_, rfl⟩
        rw [hW6]
        have M50 := HM.out.room HO.out HF.out (r - (e.c.da.2.1 : Int))
        have M6 : TkM w G q now (es.set (ixD q.es.length i) (sendE now e)) (r - (e.c.da.2.1 : Int)) s ys W6 := by
          rw [← hW6]
          exact ((M50.send HO.out HE.out trivial).st (StN.drew w.heap.size _) (Nat.le_refl _)).st (StN.drew w.heap.size _) (Nat.le_refl _)
        have HK6 : Hid (KpT itT (W1.heap.size + 2) A2 W6 ∧ KeepsOthers A2 W6) := keep (by
          have hh := kpt_send (N := W1.heap.size + 2) (M50.qa.en e (List.mem_of_getElem? HE.out)).1.blk (.int .i64 1) (.int .i64 now) (.int .i64 0) (.int .i64 (wrap64 (e.sn + 1)))
          have k0 : KpT itT (W1.heap.size + 2) A2 (A2.setCell ⟨w.heap.size + 1, 0, none⟩ (.int .i64 (r - (e.c.da.2.1 : Int)))) := kpt_set HM.out.rb (.inl (by omega))
          rw [← hW6]
          exact ⟨((k0.trans hh.1).trans (KpT.drew _)).trans (KpT.drew _), (((KeepsOthers.setCell _ _ _).trans hh.2).trans (KeepsOthers.drew _)).trans (KeepsOthers.drew _)⟩)
        clear M50
        clear hW6 H5 HEN
        have he6 : (es.set (ixD q.es.length i) (sendE now e))[ixD q.es.length i]? = some (sendE now e) := by rw [List.getElem?_set, if_pos rfl, if_pos (List.getElem?_eq_some_iff.1 HE.out).1]
        have HEN := keep (M6.qa.en _ (List.mem_of_getElem? he6))
        have hyl : s.2.1 = ys.length := by
          have := M6.row.1
          rw [flatF_len CZ.len] at this
          omega
        have htl : ys.length = t.length := by have := congrArg List.length HT.out.1; rwa [List.length_map, List.length_map] at this
        have hsl : s.2.1 ≤ 2048 := by have := HT.out.2.2.2.2; have := HI.out; omega
        have HN6 : Hid (takeGo now q.es.length (q.es.length + q.es.length - (i + 1)) (i + 1) (es.set (ixD q.es.length i) (sendE now e)) (r - (e.c.da.2.1 : Int)) (t ++ [e.c]) = R) := keep (by
          have h3 := HT.out.2.2.1
          have hi2 := HI.out
          rwa [show q.es.length + q.es.length - i = (q.es.length + q.es.length - (i + 1)) + 1 by omega, takeGo_yes HE.out HX.out (by omega)] at h3)
        obtain ⟨x, hx⟩ : ∃ x, e.c = x := ⟨_, rfl⟩
        have HV : Hid (ZV W6.drew x) := keep (by
          have zz : ZV W6.drew e.c := HEN.out.1.zv.st (StN.drew 0 W6)
          rwa [hx] at zz)
        have HSX : Hid (Sm x) := keep (by
          have zz : Sm e.c := HEN.out.1.sm
          rwa [hx] at zz)
        have HTL : Hid (w.heap.size + 2 < W6.heap.size) := keep (Array.getElem?_eq_some_iff.1 M6.tb).1
        have HTM : Hid (w.heap.size + 4 ≤ W6.heap.size) := keep (Array.getElem?_eq_some_iff.1 M6.db).1
        have HRW : Hid (W6.drew.ownsRow (w.heap.size + 4) 45 12 (.slice s.1 s.2.1 s.2.2) s.2.1 (flatF CZ.cells ys)) := keep M6.row
        have HTN : Hid (W6.drew.cell? ⟨w.heap.size + 2, 0, none⟩ = some (.slice s.1 s.2.1 s.2.2)) := keep (upd_cell M6.tb 0 _ rfl)
        have HM7 := keep (M6.st (StN.drew w.heap.size W6) (Nat.le_refl _))
        have hz12 : Z12 W6.drew e.p 0 x := by
          have zz : Z12 W6.drew e.p 0 e.c := HEN.out.1.z
          rwa [hx] at zz
        have HXC := keep hx
        clear M6 hx he6 HE HEN HX HRR hyl htl
        obtain ⟨t1, t2, t3⟩ := s
        have tn := HTN.out
        obtain ⟨xk, xf, xa, xb, xo, xs, xp, ⟨x1, x2, x3⟩, ⟨x4, x5, x6⟩, ⟨x7, x8, x9⟩, ⟨x10, x11, x12⟩, ⟨x13, x14, x15⟩, xbl, xdu, xsk, xpr, xbs⟩ := x
        obtain ⟨z0, z1, z2, z3, z4, z5, z6, z7, z8, z9, z10, z11⟩ := hz12
        dsimp only [Nat.zero_add] at z0 z1 z2 z3 z4 z5 z6 z7 z8 z9 z10 z11 tn hsl
        refine wpIn_region_round hmix (by kernel_rfl) ?_
        refine wpAnyIn_take (i := 1) (oi := ⟨some 25, _, _, _, _, _⟩) (v := ?vgx1x1) rfl rfl (by kernel_rfl) (by kernel_rfl) (by kernel_rfl) (fun _ _ _ h => h) ⟨Or.inl ⟨by rfl, ?hygx1x1⟩, fun _ => rfl⟩ ?restgx1x1
        case hygx1x1 => (intro wz; go_simp <;> (try with_reducible rfl))
        try simp only [Act.put, List.setIfInBounds_toArray, List.set_cons_zero, List.set_cons_succ]
        refine wpAnyIn_take (i := 2) (oi := ⟨some 26, _, _, _, _, _⟩) (v := ?vgx2x2) rfl rfl (by kernel_rfl) (by kernel_rfl) (by kernel_rfl) (fun _ _ _ h => h) ⟨Or.inl ⟨by rfl, ?hygx2x2⟩, fun _ => rfl⟩ ?restgx2x2
        case hygx2x2 => (intro wz; go_simp <;> (try with_reducible rfl))
        try simp only [Act.put, List.setIfInBounds_toArray, List.set_cons_zero, List.set_cons_succ]
        refine wpAnyIn_take (i := 3) (oi := ⟨some 27, _, _, _, _, _⟩) (v := ?vgx3x3) rfl rfl (by kernel_rfl) (by kernel_rfl) (by kernel_rfl) (fun _ _ _ h => h) ⟨Or.inl ⟨by rfl, ?hygx3x3⟩, fun _ => rfl⟩ ?restgx3x3
        case hygx3x3 => (intro wz; go_simp <;> (try with_reducible rfl))
        try simp only [Act.put, List.setIfInBounds_toArray, List.set_cons_zero, List.set_cons_succ]
        refine wpAnyIn_ready (rs := [0, 4]) (by kernel_rfl) (by simp) (AllReadyIn.cons (o := ⟨some 24, _, _, _, _, _⟩) rfl (fun K hK => ?_) (AllReadyIn.cons (o := ⟨some 28, _, _, _, _, _⟩) rfl (fun K hK => ?_) AllReadyIn.nil))
        go_simp
        refine hK _ _ ?_
        clear hK K
        try simp only [Act.put, List.setIfInBounds_toArray, List.set_cons_zero, List.set_cons_succ]
        refine wpAnyIn_ready (rs := [4]) (by kernel_rfl) (by simp) (AllReadyIn.cons (o := ⟨some 28, _, _, _, _, _⟩) rfl (fun K hK => ?_) AllReadyIn.nil)
        go_simp
        refine hK _ _ ?_
        clear hK K
        try simp only [Act.put, List.setIfInBounds_toArray, List.set_cons_zero, List.set_cons_succ]
        refine wpAnyIn_ready (rs := [5]) (by kernel_rfl) (by simp) (AllReadyIn.cons (o := ⟨some 29, _, _, _, _, _⟩) rfl (fun K hK => ?_) AllReadyIn.nil)
        go_simp
        gi_at_call 37
        refine (callsIn_wide.2 (copied_any ⟨xk, xf, xa, xb, xo, xs, xp, ⟨x1, x2, x3⟩, ⟨x4, x5, x6⟩, ⟨x7, x8, x9⟩, ⟨x10, x11, x12⟩, ⟨x13, x14, x15⟩, xbl, xdu, xsk, xpr, xbs⟩ _ HV.out HSX.out)).mono ?_
        rintro e3 w3 ⟨⟨yk, yf, ya, yb, yo, ys', yp, ⟨y1, y2, y3⟩, ⟨y4, y5, y6⟩, ⟨y7, y8, y9⟩, ⟨y10, y11, y12⟩, ⟨y13, y14, y15⟩, ybl, ydu, ysk, ypr, ybs⟩, rfl, hy⟩
        have HY := keep hy
        have B3 := keep hy.2.2.2.2.2.2
        have tn3 := (hy.2.2.2.2.2.2.cell (p := ⟨w.heap.size + 2, 0, none⟩) HTL.out).trans HTN.out
        have HO3 := keep (own_step HRW.out (up hy.2.2.2.2.2.2 (below_lay w3 (.cells #[.int .u8 yk, .int .u8 yf, .int .u32 ya, .int .u32 yb, .int .u16 yo, .int .u16 ys', .int .u32 yp, .slice y1 y2 y3, .slice y4 y5 y6, .slice y7 y8 y9, .slice y10 y11 y12, .slice y13 y14 y15] 45))))
        have HN3 := keep (cells_new w3 [.int .u8 yk, .int .u8 yf, .int .u32 ya, .int .u32 yb, .int .u16 yo, .int .u16 ys', .int .u32 yp, .slice y1 y2 y3, .slice y4 y5 y6, .slice y7 y8 y9, .slice y10 y11 y12, .slice y13 y14 y15] 45)
        have hwl : w.heap.size + 2 < w3.heap.size := Nat.lt_of_lt_of_le HTL.out hy.2.2.2.2.2.2.size
        have hwm : w.heap.size + 4 ≤ w3.heap.size := Nat.le_trans HTM.out hy.2.2.2.2.2.2.size
        clear hy tn
        dsimp only [CZ.cells]
        focus gi_wp2
        try simp only [Act.put, List.setIfInBounds_toArray, List.set_cons_zero, List.set_cons_succ]
        refine wpAnyIn_ready (rs := [6]) (by kernel_rfl) (by simp) (AllReadyIn.cons (o := ⟨some 30, _, _, _, _, _⟩) rfl (fun K hK => ?_) AllReadyIn.nil)
        go_simp
        refine hK _ _ ?_
        clear hK K
        try simp only [Act.put, List.setIfInBounds_toArray, List.set_cons_zero, List.set_cons_succ]
        refine wpAnyIn_ready (rs := [7]) (by kernel_rfl) (by simp) (AllReadyIn.cons (o := ⟨some 31, _, _, _, _, _⟩) rfl (fun K hK => ?_) AllReadyIn.nil)
        refine step_appendI (S := 12) (by decide) rfl (.tmp 24) (.tmp 30) 31 rfl (w.heap.size + 4) 45 i0 (.agg #[.int .u8 0, .int .u8 0, .int .u32 0, .int .u32 0, .int .u16 0, .int .u16 0, .int .u32 0, .slice none 0 0, .slice none 0 0, .slice none 0 0, .slice none 0 0, .slice none 0 0]) Try.underlying31 hi0 hiz his rfl _ t2 _ (by simp [Act.eval, Act.put]) HO3.out _ 1 1 [.int .u8 yk, .int .u8 yf, .int .u32 ya, .int .u32 yb, .int .u16 yo, .int .u16 ys', .int .u32 yp, .slice y1 y2 y3, .slice y4 y5 y6, .slice y7 y8 y9, .slice y10 y11 y12, .slice y13 y14 y15] (by simp [Act.eval, Act.put]) rfl HN3.out (by simp [Value.oneCell']) (by unfold maxLen; omega) (by rw [hib]; omega) (by simp; omega) ?_
        intro A5 c5 w5 ho5 hg5 hl5
        have HA5 := keep (And.intro ho5 (And.intro hg5 hl5))
        have ht5 := (tkm_told HM7.out B3.out hg5).1
        have hf5 := (tkm_told HM7.out B3.out hg5).2
        dsimp only at ht5
        clear ho5 hg5 hl5
        refine hK _ _ ?_
        clear hK K
        try simp only [Act.put, List.setIfInBounds_toArray, List.set_cons_zero, List.set_cons_succ]
        refine wpAnyIn_ready (rs := [8]) (by kernel_rfl) (by simp) (AllReadyIn.cons (o := ⟨none, _, _, _, _, _⟩) rfl (fun K hK => ?_) AllReadyIn.nil)
        go_simp
        refine hK _ _ ?_
        clear hK K
        try simp only [Act.put, List.setIfInBounds_toArray, List.set_cons_zero, List.set_cons_succ]
        refine wpAnyIn_done (by kernel_rfl) ?_ _
        rotate_left
        go_simp
        refine hK _ _ ?_
        clear hK K
        try simp only [Act.put, List.setIfInBounds_toArray, List.set_cons_zero, List.set_cons_succ]
        refine wpAnyIn_ready (rs := [0, 5]) (by kernel_rfl) (by simp) (AllReadyIn.cons (o := ⟨some 24, _, _, _, _, _⟩) rfl (fun K hK => ?_) (AllReadyIn.cons (o := ⟨some 29, _, _, _, _, _⟩) rfl (fun K hK => ?_) AllReadyIn.nil))
        go_simp
        refine hK _ _ ?_
        clear hK K
        try simp only [Act.put, List.setIfInBounds_toArray, List.set_cons_zero, List.set_cons_succ]
        refine wpAnyIn_ready (rs := [5]) (by kernel_rfl) (by simp) (AllReadyIn.cons (o := ⟨some 29, _, _, _, _, _⟩) rfl (fun K hK => ?_) AllReadyIn.nil)
        go_simp
        gi_at_call 37
        refine (callsIn_wide.2 (copied_any ⟨xk, xf, xa, xb, xo, xs, xp, ⟨x1, x2, x3⟩, ⟨x4, x5, x6⟩, ⟨x7, x8, x9⟩, ⟨x10, x11, x12⟩, ⟨x13, x14, x15⟩, xbl, xdu, xsk, xpr, xbs⟩ _ HV.out HSX.out)).mono ?_
        rintro e3 w3 ⟨⟨yk, yf, ya, yb, yo, ys', yp, ⟨y1, y2, y3⟩, ⟨y4, y5, y6⟩, ⟨y7, y8, y9⟩, ⟨y10, y11, y12⟩, ⟨y13, y14, y15⟩, ybl, ydu, ysk, ypr, ybs⟩, rfl, hy⟩
        have HY := keep hy
        have B3 := keep hy.2.2.2.2.2.2
        have tn3 := (hy.2.2.2.2.2.2.cell (p := ⟨w.heap.size + 2, 0, none⟩) HTL.out).trans HTN.out
        have HO3 := keep (own_step HRW.out (up hy.2.2.2.2.2.2 (below_lay w3 (.cells #[.int .u8 yk, .int .u8 yf, .int .u32 ya, .int .u32 yb, .int .u16 yo, .int .u16 ys', .int .u32 yp, .slice y1 y2 y3, .slice y4 y5 y6, .slice y7 y8 y9, .slice y10 y11 y12, .slice y13 y14 y15] 45))))
        have HN3 := keep (cells_new w3 [.int .u8 yk, .int .u8 yf, .int .u32 ya, .int .u32 yb, .int .u16 yo, .int .u16 ys', .int .u32 yp, .slice y1 y2 y3, .slice y4 y5 y6, .slice y7 y8 y9, .slice y10 y11 y12, .slice y13 y14 y15] 45)
        have hwl : w.heap.size + 2 < w3.heap.size := Nat.lt_of_lt_of_le HTL.out hy.2.2.2.2.2.2.size
        have hwm : w.heap.size + 4 ≤ w3.heap.size := Nat.le_trans HTM.out hy.2.2.2.2.2.2.size
        clear hy tn
        dsimp only [CZ.cells]
        focus gi_wp2
        try simp only [Act.put, List.setIfInBounds_toArray, List.set_cons_zero, List.set_cons_succ]
        refine wpAnyIn_ready (rs := [6]) (by kernel_rfl) (by simp) (AllReadyIn.cons (o := ⟨some 30, _, _, _, _, _⟩) rfl (fun K hK => ?_) AllReadyIn.nil)
        go_simp
        refine hK _ _ ?_
        clear hK K
        try simp only [Act.put, List.setIfInBounds_toArray, List.set_cons_zero, List.set_cons_succ]
        refine wpAnyIn_ready (rs := [7]) (by kernel_rfl) (by simp) (AllReadyIn.cons (o := ⟨some 31, _, _, _, _, _⟩) rfl (fun K hK => ?_) AllReadyIn.nil)
        refine step_appendI (S := 12) (by decide) rfl (.tmp 24) (.tmp 30) 31 rfl (w.heap.size + 4) 45 i0 (.agg #[.int .u8 0, .int .u8 0, .int .u32 0, .int .u32 0, .int .u16 0, .int .u16 0, .int .u32 0, .slice none 0 0, .slice none 0 0, .slice none 0 0, .slice none 0 0, .slice none 0 0]) Try.underlying31 hi0 hiz his rfl _ t2 _ (by simp [Act.eval, Act.put]) HO3.out _ 1 1 [.int .u8 yk, .int .u8 yf, .int .u32 ya, .int .u32 yb, .int .u16 yo, .int .u16 ys', .int .u32 yp, .slice y1 y2 y3, .slice y4 y5 y6, .slice y7 y8 y9, .slice y10 y11 y12, .slice y13 y14 y15] (by simp [Act.eval, Act.put]) rfl HN3.out (by simp [Value.oneCell']) (by unfold maxLen; omega) (by rw [hib]; omega) (by simp; omega) ?_
        intro A5 c5 w5 ho5 hg5 hl5
        have HA5 := keep (And.intro ho5 (And.intro hg5 hl5))
        have ht5 := (tkm_told HM7.out B3.out hg5).1
        have hf5 := (tkm_told HM7.out B3.out hg5).2
        dsimp only at ht5
        clear ho5 hg5 hl5
        refine hK _ _ ?_
        clear hK K
        try simp only [Act.put, List.setIfInBounds_toArray, List.set_cons_zero, List.set_cons_succ]
        refine wpAnyIn_ready (rs := [8]) (by kernel_rfl) (by simp) (AllReadyIn.cons (o := ⟨none, _, _, _, _, _⟩) rfl (fun K hK => ?_) AllReadyIn.nil)
        go_simp
        refine hK _ _ ?_
        clear hK K
        try simp only [Act.put, List.setIfInBounds_toArray, List.set_cons_zero, List.set_cons_succ]
        refine wpAnyIn_done (by kernel_rfl) ?_ _
        rotate_left
        go_simp
        gi_at_call 37
        refine (callsIn_wide.2 (copied_any ⟨xk, xf, xa, xb, xo, xs, xp, ⟨x1, x2, x3⟩, ⟨x4, x5, x6⟩, ⟨x7, x8, x9⟩, ⟨x10, x11, x12⟩, ⟨x13, x14, x15⟩, xbl, xdu, xsk, xpr, xbs⟩ _ HV.out HSX.out)).mono ?_
        rintro e3 w3 ⟨⟨yk, yf, ya, yb, yo, ys', yp, ⟨y1, y2, y3⟩, ⟨y4, y5, y6⟩, ⟨y7, y8, y9⟩, ⟨y10, y11, y12⟩, ⟨y13, y14, y15⟩, ybl, ydu, ysk, ypr, ybs⟩, rfl, hy⟩
        have HY := keep hy
        have B3 := keep hy.2.2.2.2.2.2
        have tn3 := (hy.2.2.2.2.2.2.cell (p := ⟨w.heap.size + 2, 0, none⟩) HTL.out).trans HTN.out
        have HO3 := keep (own_step HRW.out (up hy.2.2.2.2.2.2 (below_lay w3 (.cells #[.int .u8 yk, .int .u8 yf, .int .u32 ya, .int .u32 yb, .int .u16 yo, .int .u16 ys', .int .u32 yp, .slice y1 y2 y3, .slice y4 y5 y6, .slice y7 y8 y9, .slice y10 y11 y12, .slice y13 y14 y15] 45))))
        have HN3 := keep (cells_new w3 [.int .u8 yk, .int .u8 yf, .int .u32 ya, .int .u32 yb, .int .u16 yo, .int .u16 ys', .int .u32 yp, .slice y1 y2 y3, .slice y4 y5 y6, .slice y7 y8 y9, .slice y10 y11 y12, .slice y13 y14 y15] 45)
        have hwl : w.heap.size + 2 < w3.heap.size := Nat.lt_of_lt_of_le HTL.out hy.2.2.2.2.2.2.size
        have hwm : w.heap.size + 4 ≤ w3.heap.size := Nat.le_trans HTM.out hy.2.2.2.2.2.2.size
        clear hy tn
        dsimp only [CZ.cells]
        focus gi_wp2
        try simp only [Act.put, List.setIfInBounds_toArray, List.set_cons_zero, List.set_cons_succ]
        refine wpAnyIn_ready (rs := [0, 6]) (by kernel_rfl) (by simp) (AllReadyIn.cons (o := ⟨some 24, _, _, _, _, _⟩) rfl (fun K hK => ?_) (AllReadyIn.cons (o := ⟨some 30, _, _, _, _, _⟩) rfl (fun K hK => ?_) AllReadyIn.nil))
        go_simp
        refine hK _ _ ?_
        clear hK K
        try simp only [Act.put, List.setIfInBounds_toArray, List.set_cons_zero, List.set_cons_succ]
        refine wpAnyIn_ready (rs := [6]) (by kernel_rfl) (by simp) (AllReadyIn.cons (o := ⟨some 30, _, _, _, _, _⟩) rfl (fun K hK => ?_) AllReadyIn.nil)
        go_simp
        refine hK _ _ ?_
        clear hK K
        try simp only [Act.put, List.setIfInBounds_toArray, List.set_cons_zero, List.set_cons_succ]
        refine wpAnyIn_ready (rs := [7]) (by kernel_rfl) (by simp) (AllReadyIn.cons (o := ⟨some 31, _, _, _, _, _⟩) rfl (fun K hK => ?_) AllReadyIn.nil)
        refine step_appendI (S := 12) (by decide) rfl (.tmp 24) (.tmp 30) 31 rfl (w.heap.size + 4) 45 i0 (.agg #[.int .u8 0, .int .u8 0, .int .u32 0, .int .u32 0, .int .u16 0, .int .u16 0, .int .u32 0, .slice none 0 0, .slice none 0 0, .slice none 0 0, .slice none 0 0, .slice none 0 0]) Try.underlying31 hi0 hiz his rfl _ t2 _ (by simp [Act.eval, Act.put]) HO3.out _ 1 1 [.int .u8 yk, .int .u8 yf, .int .u32 ya, .int .u32 yb, .int .u16 yo, .int .u16 ys', .int .u32 yp, .slice y1 y2 y3, .slice y4 y5 y6, .slice y7 y8 y9, .slice y10 y11 y12, .slice y13 y14 y15] (by simp [Act.eval, Act.put]) rfl HN3.out (by simp [Value.oneCell']) (by unfold maxLen; omega) (by rw [hib]; omega) (by simp; omega) ?_
        intro A5 c5 w5 ho5 hg5 hl5
        have HA5 := keep (And.intro ho5 (And.intro hg5 hl5))
        have ht5 := (tkm_told HM7.out B3.out hg5).1
        have hf5 := (tkm_told HM7.out B3.out hg5).2
        dsimp only at ht5
        clear ho5 hg5 hl5
        refine hK _ _ ?_
        clear hK K
        try simp only [Act.put, List.setIfInBounds_toArray, List.set_cons_zero, List.set_cons_succ]
        refine wpAnyIn_ready (rs := [8]) (by kernel_rfl) (by simp) (AllReadyIn.cons (o := ⟨none, _, _, _, _, _⟩) rfl (fun K hK => ?_) AllReadyIn.nil)
        go_simp
        refine hK _ _ ?_
        clear hK K
        try simp only [Act.put, List.setIfInBounds_toArray, List.set_cons_zero, List.set_cons_succ]
        refine wpAnyIn_done (by kernel_rfl) ?_ _
        rotate_left
        go_simp
        refine hK _ _ ?_
        clear hK K
        try simp only [Act.put, List.setIfInBounds_toArray, List.set_cons_zero, List.set_cons_succ]
        refine wpAnyIn_ready (rs := [0]) (by kernel_rfl) (by simp) (AllReadyIn.cons (o := ⟨some 24, _, _, _, _, _⟩) rfl (fun K hK => ?_) AllReadyIn.nil)
        go_simp
        refine hK _ _ ?_
        clear hK K
        try simp only [Act.put, List.setIfInBounds_toArray, List.set_cons_zero, List.set_cons_succ]
        refine wpAnyIn_ready (rs := [7]) (by kernel_rfl) (by simp) (AllReadyIn.cons (o := ⟨some 31, _, _, _, _, _⟩) rfl (fun K hK => ?_) AllReadyIn.nil)
        refine step_appendI (S := 12) (by decide) rfl (.tmp 24) (.tmp 30) 31 rfl (w.heap.size + 4) 45 i0 (.agg #[.int .u8 0, .int .u8 0, .int .u32 0, .int .u32 0, .int .u16 0, .int .u16 0, .int .u32 0, .slice none 0 0, .slice none 0 0, .slice none 0 0, .slice none 0 0, .slice none 0 0]) Try.underlying31 hi0 hiz his rfl _ t2 _ (by simp [Act.eval, Act.put]) HO3.out _ 1 1 [.int .u8 yk, .int .u8 yf, .int .u32 ya, .int .u32 yb, .int .u16 yo, .int .u16 ys', .int .u32 yp, .slice y1 y2 y3, .slice y4 y5 y6, .slice y7 y8 y9, .slice y10 y11 y12, .slice y13 y14 y15] (by simp [Act.eval, Act.put]) rfl HN3.out (by simp [Value.oneCell']) (by unfold maxLen; omega) (by rw [hib]; omega) (by simp; omega) ?_
        intro A5 c5 w5 ho5 hg5 hl5
        have HA5 := keep (And.intro ho5 (And.intro hg5 hl5))
        have ht5 := (tkm_told HM7.out B3.out hg5).1
        have hf5 := (tkm_told HM7.out B3.out hg5).2
        dsimp only at ht5
        clear ho5 hg5 hl5
        refine hK _ _ ?_
        clear hK K
        try simp only [Act.put, List.setIfInBounds_toArray, List.set_cons_zero, List.set_cons_succ]
        refine wpAnyIn_ready (rs := [8]) (by kernel_rfl) (by simp) (AllReadyIn.cons (o := ⟨none, _, _, _, _, _⟩) rfl (fun K hK => ?_) AllReadyIn.nil)
        go_simp
        refine hK _ _ ?_
        clear hK K
        try simp only [Act.put, List.setIfInBounds_toArray, List.set_cons_zero, List.set_cons_succ]
        refine wpAnyIn_done (by kernel_rfl) ?_ _
        rotate_left
        all_goals (
          obtain ⟨g1, g2, g3⟩ := TkM.app HM7.out HO.out HF.out B3.out (y := ⟨yk, yf, ya, yb, yo, ys', yp, ⟨y1, y2, y3⟩, ⟨y4, y5, y6⟩, ⟨y7, y8, y9⟩, ⟨y10, y11, y12⟩, ⟨y13, y14, y15⟩, ybl, ydu, ysk, ypr, ybs⟩) HY.out.2.2.1 HY.out.2.2.2.2.1 HY.out.2.2.2.2.2.1 rfl HA5.out.1 HA5.out.2.1 HA5.out.2.2
          refine ⟨((HK6.out.2.trans (KeepsOthers.drew _)).trans g3).from _, (HK6.out.1.trans (KpT.drew _)).trans (g2 _ (by omega)), _, _, t ++ [e.c], _, _, g1, ?_, ?_, HN6.out, HN0.out.2, ?_⟩
          · rw [List.map_append, List.map_append, HT.out.1, HXC.out]
            exact congrArg (fun z => List.map CZ.ct t ++ [z]) HY.out.1
          · rw [List.map_append, List.map_append, HT.out.2.1, HXC.out]
            exact congrArg (fun z => List.map (fun y => y.da.2.1) t ++ [z]) HY.out.2.1
          · have := HT.out.2.2.2.2
            rw [List.length_append]
            exact Nat.succ_le_succ this)
      · have M5 := H5.out.1
        have HE5 := M5.qa.en e (List.mem_of_getElem? HE.out)
        have cn : World.cell? _ ⟨w.heap.size, 0, none⟩ = some (Value.int .i64 now) := upd_cell M5.nb 0 _ rfl
        have KS := keep (fun W h13 h14 h15 h16 f13 f14 f15 f16 => send_at e.p now e.sn e.st e.la e.ms W h13 h14 h15 h16 f13 f14 f15 f16)
        obtain ⟨_, c13, c14, c15, c16⟩ := HE5.1.c12
        have f13 := HE5.1.fz 13
        have f14 := HE5.1.fz 14
        have f15 := HE5.1.fz 15
        have f16 := HE5.1.fz 16
        clear M5 HE5 c11 cr fr
        gi_wp2_with (gi_at_call 41; refine (CallsIn.inRound l (callsIn_wide.2 (KS.out _ c13 c14 c15 c16 f13 f14 f15 f16))).mono ?_; rintro e6 w6 ⟨rfl, rfl⟩)
        obtain ⟨W6, hW6⟩ : ∃ W6, (((((A2.setCell ⟨w.heap.size + 1, 0, none⟩ (.int .i64 (r - (e.c.da.2.1 : Int)))).setCell ⟨e.p, 13, none⟩ (.int .i64 1)).setCell ⟨e.p, 15, none⟩ (.int .i64 now)).setCell ⟨e.p, 16, none⟩ (.int .i64 0)).setCell ⟨e.p, 14, none⟩ (.int .i64 (wrap64 (e.sn + 1)))).drew.drew = W6 := ⟨_, rfl⟩
        rw [hW6]
        have M50 := HM.out.room HO.out HF.out (r - (e.c.da.2.1 : Int))
        have M6 : TkM w G q now (es.set (ixD q.es.length i) (sendE now e)) (r - (e.c.da.2.1 : Int)) s ys W6 := by
          rw [← hW6]
          exact ((M50.send HO.out HE.out trivial).st (StN.drew w.heap.size _) (Nat.le_refl _)).st (StN.drew w.heap.size _) (Nat.le_refl _)
        have HK6 : Hid (KpT itT (W1.heap.size + 2) A2 W6 ∧ KeepsOthers A2 W6) := keep (by
          have hh := kpt_send (N := W1.heap.size + 2) (M50.qa.en e (List.mem_of_getElem? HE.out)).1.blk (.int .i64 1) (.int .i64 now) (.int .i64 0) (.int .i64 (wrap64 (e.sn + 1)))
          have k0 : KpT itT (W1.heap.size + 2) A2 (A2.setCell ⟨w.heap.size + 1, 0, none⟩ (.int .i64 (r - (e.c.da.2.1 : Int)))) := kpt_set HM.out.rb (.inl (by omega))
          rw [← hW6]
          exact ⟨((k0.trans hh.1).trans (KpT.drew _)).trans (KpT.drew _), (((KeepsOthers.setCell _ _ _).trans hh.2).trans (KeepsOthers.drew _)).trans (KeepsOthers.drew _)⟩)
        clear M50
        clear hW6 H5 HEN
        have he6 : (es.set (ixD q.es.length i) (sendE now e))[ixD q.es.length i]? = some (sendE now e) := by rw [List.getElem?_set, if_pos rfl, if_pos (List.getElem?_eq_some_iff.1 HE.out).1]
        have HEN := keep (M6.qa.en _ (List.mem_of_getElem? he6))
        have hyl : s.2.1 = ys.length := by
          have := M6.row.1
          rw [flatF_len CZ.len] at this
          omega
        have htl : ys.length = t.length := by have := congrArg List.length HT.out.1; rwa [List.length_map, List.length_map] at this
        have hsl : s.2.1 ≤ 2048 := by have := HT.out.2.2.2.2; have := HI.out; omega
        have HN6 : Hid (takeGo now q.es.length (q.es.length + q.es.length - (i + 1)) (i + 1) (es.set (ixD q.es.length i) (sendE now e)) (r - (e.c.da.2.1 : Int)) (t ++ [e.c]) = R) := keep (by
          have h3 := HT.out.2.2.1
          have hi2 := HI.out
          rwa [show q.es.length + q.es.length - i = (q.es.length + q.es.length - (i + 1)) + 1 by omega, takeGo_yes HE.out HX.out (by omega)] at h3)
        obtain ⟨x, hx⟩ : ∃ x, e.c = x := ⟨_, rfl⟩
        have HV : Hid (ZV W6.drew x) := keep (by
          have zz : ZV W6.drew e.c := HEN.out.1.zv.st (StN.drew 0 W6)
          rwa [hx] at zz)
        have HSX : Hid (Sm x) := keep (by
          have zz : Sm e.c := HEN.out.1.sm
          rwa [hx] at zz)
        have HTL : Hid (w.heap.size + 2 < W6.heap.size) := keep (Array.getElem?_eq_some_iff.1 M6.tb).1
        have HTM : Hid (w.heap.size + 4 ≤ W6.heap.size) := keep (Array.getElem?_eq_some_iff.1 M6.db).1
        have HRW : Hid (W6.drew.ownsRow (w.heap.size + 4) 45 12 (.slice s.1 s.2.1 s.2.2) s.2.1 (flatF CZ.cells ys)) := keep M6.row
        have HTN : Hid (W6.drew.cell? ⟨w.heap.size + 2, 0, none⟩ = some (.slice s.1 s.2.1 s.2.2)) := keep (upd_cell M6.tb 0 _ rfl)
        have HM7 := keep (M6.st (StN.drew w.heap.size W6) (Nat.le_refl _))
        have hz12 : Z12 W6.drew e.p 0 x := by
          have zz : Z12 W6.drew e.p 0 e.c := HEN.out.1.z
          rwa [hx] at zz
        have HXC := keep hx
        clear M6 hx he6 HE HEN HX HRR hyl htl
        obtain ⟨t1, t2, t3⟩ := s
        have tn := HTN.out
        obtain ⟨xk, xf, xa, xb, xo, xs, xp, ⟨x1, x2, x3⟩, ⟨x4, x5, x6⟩, ⟨x7, x8, x9⟩, ⟨x10, x11, x12⟩, ⟨x13, x14, x15⟩, xbl, xdu, xsk, xpr, xbs⟩ := x
        obtain ⟨z0, z1, z2, z3, z4, z5, z6, z7, z8, z9, z10, z11⟩ := hz12
        dsimp only [Nat.zero_add] at z0 z1 z2 z3 z4 z5 z6 z7 z8 z9 z10 z11 tn hsl
        refine wpIn_region_round hmix (by kernel_rfl) ?_
        refine wpAnyIn_take (i := 1) (oi := ⟨some 25, _, _, _, _, _⟩) (v := ?vgy1x1) rfl rfl (by kernel_rfl) (by kernel_rfl) (by kernel_rfl) (fun _ _ _ h => h) ⟨Or.inl ⟨by rfl, ?hygy1x1⟩, fun _ => rfl⟩ ?restgy1x1
        case hygy1x1 => (intro wz; go_simp <;> (try with_reducible rfl))
        try simp only [Act.put, List.setIfInBounds_toArray, List.set_cons_zero, List.set_cons_succ]
        refine wpAnyIn_take (i := 2) (oi := ⟨some 26, _, _, _, _, _⟩) (v := ?vgy2x2) rfl rfl (by kernel_rfl) (by kernel_rfl) (by kernel_rfl) (fun _ _ _ h => h) ⟨Or.inl ⟨by rfl, ?hygy2x2⟩, fun _ => rfl⟩ ?restgy2x2
        case hygy2x2 => (intro wz; go_simp <;> (try with_reducible rfl))
        try simp only [Act.put, List.setIfInBounds_toArray, List.set_cons_zero, List.set_cons_succ]
        refine wpAnyIn_take (i := 3) (oi := ⟨some 27, _, _, _, _, _⟩) (v := ?vgy3x3) rfl rfl (by kernel_rfl) (by kernel_rfl) (by kernel_rfl) (fun _ _ _ h => h) ⟨Or.inl ⟨by rfl, ?hygy3x3⟩, fun _ => rfl⟩ ?restgy3x3
        case hygy3x3 => (intro wz; go_simp <;> (try with_reducible rfl))
        try simp only [Act.put, List.setIfInBounds_toArray, List.set_cons_zero, List.set_cons_succ]
        refine wpAnyIn_ready (rs := [0, 4]) (by kernel_rfl) (by simp) (AllReadyIn.cons (o := ⟨some 24, _, _, _, _, _⟩) rfl (fun K hK => ?_) (AllReadyIn.cons (o := ⟨some 28, _, _, _, _, _⟩) rfl (fun K hK => ?_) AllReadyIn.nil))
        go_simp
        refine hK _ _ ?_
        clear hK K
        try simp only [Act.put, List.setIfInBounds_toArray, List.set_cons_zero, List.set_cons_succ]
        refine wpAnyIn_ready (rs := [4]) (by kernel_rfl) (by simp) (AllReadyIn.cons (o := ⟨some 28, _, _, _, _, _⟩) rfl (fun K hK => ?_) AllReadyIn.nil)
        go_simp
        refine hK _ _ ?_
        clear hK K
        try simp only [Act.put, List.setIfInBounds_toArray, List.set_cons_zero, List.set_cons_succ]
        refine wpAnyIn_ready (rs := [5]) (by kernel_rfl) (by simp) (AllReadyIn.cons (o := ⟨some 29, _, _, _, _, _⟩) rfl (fun K hK => ?_) AllReadyIn.nil)
        go_simp
        gi_at_call 37
        refine (callsIn_wide.2 (copied_any ⟨xk, xf, xa, xb, xo, xs, xp, ⟨x1, x2, x3⟩, ⟨x4, x5, x6⟩, ⟨x7, x8, x9⟩, ⟨x10, x11, x12⟩, ⟨x13, x14, x15⟩, xbl, xdu, xsk, xpr, xbs⟩ _ HV.out HSX.out)).mono ?_
        rintro e3 w3 ⟨⟨yk, yf, ya, yb, yo, ys', yp, ⟨y1, y2, y3⟩, ⟨y4, y5, y6⟩, ⟨y7, y8, y9⟩, ⟨y10, y11, y12⟩, ⟨y13, y14, y15⟩, ybl, ydu, ysk, ypr, ybs⟩, rfl, hy⟩
        have HY := keep hy
        have B3 := keep hy.2.2.2.2.2.2
        have tn3 := (hy.2.2.2.2.2.2.cell (p := ⟨w.heap.size + 2, 0, none⟩) HTL.out).trans HTN.out
        have HO3 := keep (own_step HRW.out (up hy.2.2.2.2.2.2 (below_lay w3 (.cells #[.int .u8 yk, .int .u8 yf, .int .u32 ya, .int .u32 yb, .int .u16 yo, .int .u16 ys', .int .u32 yp, .slice y1 y2 y3, .slice y4 y5 y6, .slice y7 y8 y9, .slice y10 y11 y12, .slice y13 y14 y15] 45))))
        have HN3 := keep (cells_new w3 [.int .u8 yk, .int .u8 yf, .int .u32 ya, .int .u32 yb, .int .u16 yo, .int .u16 ys', .int .u32 yp, .slice y1 y2 y3, .slice y4 y5 y6, .slice y7 y8 y9, .slice y10 y11 y12, .slice y13 y14 y15] 45)
        have hwl : w.heap.size + 2 < w3.heap.size := Nat.lt_of_lt_of_le HTL.out hy.2.2.2.2.2.2.size
        have hwm : w.heap.size + 4 ≤ w3.heap.size := Nat.le_trans HTM.out hy.2.2.2.2.2.2.size
        clear hy tn
        dsimp only [CZ.cells]
        focus gi_wp2
        try simp only [Act.put, List.setIfInBounds_toArray, List.set_cons_zero, List.set_cons_succ]
        refine wpAnyIn_ready (rs := [6]) (by kernel_rfl) (by simp) (AllReadyIn.cons (o := ⟨some 30, _, _, _, _, _⟩) rfl (fun K hK => ?_) AllReadyIn.nil)
        go_simp
        refine hK _ _ ?_
        clear hK K
        try simp only [Act.put, List.setIfInBounds_toArray, List.set_cons_zero, List.set_cons_succ]
        refine wpAnyIn_ready (rs := [7]) (by kernel_rfl) (by simp) (AllReadyIn.cons (o := ⟨some 31, _, _, _, _, _⟩) rfl (fun K hK => ?_) AllReadyIn.nil)
        refine step_appendI (S := 12) (by decide) rfl (.tmp 24) (.tmp 30) 31 rfl (w.heap.size + 4) 45 i0 (.agg #[.int .u8 0, .int .u8 0, .int .u32 0, .int .u32 0, .int .u16 0, .int .u16 0, .int .u32 0, .slice none 0 0, .slice none 0 0, .slice none 0 0, .slice none 0 0, .slice none 0 0]) Try.underlying31 hi0 hiz his rfl _ t2 _ (by simp [Act.eval, Act.put]) HO3.out _ 1 1 [.int .u8 yk, .int .u8 yf, .int .u32 ya, .int .u32 yb, .int .u16 yo, .int .u16 ys', .int .u32 yp, .slice y1 y2 y3, .slice y4 y5 y6, .slice y7 y8 y9, .slice y10 y11 y12, .slice y13 y14 y15] (by simp [Act.eval, Act.put]) rfl HN3.out (by simp [Value.oneCell']) (by unfold maxLen; omega) (by rw [hib]; omega) (by simp; omega) ?_
        intro A5 c5 w5 ho5 hg5 hl5
        have HA5 := keep (And.intro ho5 (And.intro hg5 hl5))
        have ht5 := (tkm_told HM7.out B3.out hg5).1
        have hf5 := (tkm_told HM7.out B3.out hg5).2
        dsimp only at ht5
        clear ho5 hg5 hl5
        refine hK _ _ ?_
        clear hK K
        try simp only [Act.put, List.setIfInBounds_toArray, List.set_cons_zero, List.set_cons_succ]
        refine wpAnyIn_ready (rs := [8]) (by kernel_rfl) (by simp) (AllReadyIn.cons (o := ⟨none, _, _, _, _, _⟩) rfl (fun K hK => ?_) AllReadyIn.nil)
        go_simp
        refine hK _ _ ?_
        clear hK K
        try simp only [Act.put, List.setIfInBounds_toArray, List.set_cons_zero, List.set_cons_succ]
        refine wpAnyIn_done (by kernel_rfl) ?_ _
        rotate_left
        go_simp
        refine hK _ _ ?_
        clear hK K
        try simp only [Act.put, List.setIfInBounds_toArray, List.set_cons_zero, List.set_cons_succ]
        refine wpAnyIn_ready (rs := [0, 5]) (by kernel_rfl) (by simp) (AllReadyIn.cons (o := ⟨some 24, _, _, _, _, _⟩) rfl (fun K hK => ?_) (AllReadyIn.cons (o := ⟨some 29, _, _, _, _, _⟩) rfl (fun K hK => ?_) AllReadyIn.nil))
        go_simp
        refine hK _ _ ?_
        clear hK K
        try simp only [Act.put, List.setIfInBounds_toArray, List.set_cons_zero, List.set_cons_succ]
        refine wpAnyIn_ready (rs := [5]) (by kernel_rfl) (by simp) (AllReadyIn.cons (o := ⟨some 29, _, _, _, _, _⟩) rfl (fun K hK => ?_) AllReadyIn.nil)
        go_simp
        gi_at_call 37
        refine (callsIn_wide.2 (copied_any ⟨xk, xf, xa, xb, xo, xs, xp, ⟨x1, x2, x3⟩, ⟨x4, x5, x6⟩, ⟨x7, x8, x9⟩, ⟨x10, x11, x12⟩, ⟨x13, x14, x15⟩, xbl, xdu, xsk, xpr, xbs⟩ _ HV.out HSX.out)).mono ?_
        rintro e3 w3 ⟨⟨yk, yf, ya, yb, yo, ys', yp, ⟨y1, y2, y3⟩, ⟨y4, y5, y6⟩, ⟨y7, y8, y9⟩, ⟨y10, y11, y12⟩, ⟨y13, y14, y15⟩, ybl, ydu, ysk, ypr, ybs⟩, rfl, hy⟩
        have HY := keep hy
        have B3 := keep hy.2.2.2.2.2.2
        have tn3 := (hy.2.2.2.2.2.2.cell (p := ⟨w.heap.size + 2, 0, none⟩) HTL.out).trans HTN.out
        have HO3 := keep (own_step HRW.out (up hy.2.2.2.2.2.2 (below_lay w3 (.cells #[.int .u8 yk, .int .u8 yf, .int .u32 ya, .int .u32 yb, .int .u16 yo, .int .u16 ys', .int .u32 yp, .slice y1 y2 y3, .slice y4 y5 y6, .slice y7 y8 y9, .slice y10 y11 y12, .slice y13 y14 y15] 45))))
        have HN3 := keep (cells_new w3 [.int .u8 yk, .int .u8 yf, .int .u32 ya, .int .u32 yb, .int .u16 yo, .int .u16 ys', .int .u32 yp, .slice y1 y2 y3, .slice y4 y5 y6, .slice y7 y8 y9, .slice y10 y11 y12, .slice y13 y14 y15] 45)
        have hwl : w.heap.size + 2 < w3.heap.size := Nat.lt_of_lt_of_le HTL.out hy.2.2.2.2.2.2.size
        have hwm : w.heap.size + 4 ≤ w3.heap.size := Nat.le_trans HTM.out hy.2.2.2.2.2.2.size
        clear hy tn
        dsimp only [CZ.cells]
        focus gi_wp2
        try simp only [Act.put, List.setIfInBounds_toArray, List.set_cons_zero, List.set_cons_succ]
        refine wpAnyIn_ready (rs := [6]) (by kernel_rfl) (by simp) (AllReadyIn.cons (o := ⟨some 30, _, _, _, _, _⟩) rfl (fun K hK => ?_) AllReadyIn.nil)
        go_simp
        refine hK _ _ ?_
        clear hK K
        try simp only [Act.put, List.setIfInBounds_toArray, List.set_cons_zero, List.set_cons_succ]
        refine wpAnyIn_ready (rs := [7]) (by kernel_rfl) (by simp) (AllReadyIn.cons (o := ⟨some 31, _, _, _, _, _⟩) rfl (fun K hK => ?_) AllReadyIn.nil)
        refine step_appendI (S := 12) (by decide) rfl (.tmp 24) (.tmp 30) 31 rfl (w.heap.size + 4) 45 i0 (.agg #[.int .u8 0, .int .u8 0, .int .u32 0, .int .u32 0, .int .u16 0, .int .u16 0, .int .u32 0, .slice none 0 0, .slice none 0 0, .slice none 0 0, .slice none 0 0, .slice none 0 0]) Try.underlying31 hi0 hiz his rfl _ t2 _ (by simp [Act.eval, Act.put]) HO3.out _ 1 1 [.int .u8 yk, .int .u8 yf, .int .u32 ya, .int .u32 yb, .int .u16 yo, .int .u16 ys', .int .u32 yp, .slice y1 y2 y3, .slice y4 y5 y6, .slice y7 y8 y9, .slice y10 y11 y12, .slice y13 y14 y15] (by simp [Act.eval, Act.put]) rfl HN3.out (by simp [Value.oneCell']) (by unfold maxLen; omega) (by rw [hib]; omega) (by simp; omega) ?_
        intro A5 c5 w5 ho5 hg5 hl5
        have HA5 := keep (And.intro ho5 (And.intro hg5 hl5))
        have ht5 := (tkm_told HM7.out B3.out hg5).1
        have hf5 := (tkm_told HM7.out B3.out hg5).2
        dsimp only at ht5
        clear ho5 hg5 hl5
        refine hK _ _ ?_
        clear hK K
        try simp only [Act.put, List.setIfInBounds_toArray, List.set_cons_zero, List.set_cons_succ]
        refine wpAnyIn_ready (rs := [8]) (by kernel_rfl) (by simp) (AllReadyIn.cons (o := ⟨none, _, _, _, _, _⟩) rfl (fun K hK => ?_) AllReadyIn.nil)
        go_simp
        refine hK _ _ ?_
        clear hK K
        try simp only [Act.put, List.setIfInBounds_toArray, List.set_cons_zero, List.set_cons_succ]
        refine wpAnyIn_done (by kernel_rfl) ?_ _
        rotate_left
        go_simp
        gi_at_call 37
        refine (callsIn_wide.2 (copied_any ⟨xk, xf, xa, xb, xo, xs, xp, ⟨x1, x2, x3⟩, ⟨x4, x5, x6⟩, ⟨x7, x8, x9⟩, ⟨x10, x11, x12⟩, ⟨x13, x14, x15⟩, xbl, xdu, xsk, xpr, xbs⟩ _ HV.out HSX.out)).mono ?_
        rintro e3 w3 ⟨⟨yk, yf, ya, yb, yo, ys', yp, ⟨y1, y2, y3⟩, ⟨y4, y5, y6⟩, ⟨y7, y8, y9⟩, ⟨y10, y11, y12⟩, ⟨y13, y14, y15⟩, ybl, ydu, ysk, ypr, ybs⟩, rfl, hy⟩
        have HY := keep hy
        have B3 := keep hy.2.2.2.2.2.2
        have tn3 := (hy.2.2.2.2.2.2.cell (p := ⟨w.heap.size + 2, 0, none⟩) HTL.out).trans HTN.out
        have HO3 := keep (own_step HRW.out (up hy.2.2.2.2.2.2 (below_lay w3 (.cells #[.int .u8 yk, .int .u8 yf, .int .u32 ya, .int .u32 yb, .int .u16 yo, .int .u16 ys', .int .u32 yp, .slice y1 y2 y3, .slice y4 y5 y6, .slice y7 y8 y9, .slice y10 y11 y12, .slice y13 y14 y15] 45))))
        have HN3 := keep (cells_new w3 [.int .u8 yk, .int .u8 yf, .int .u32 ya, .int .u32 yb, .int .u16 yo, .int .u16 ys', .int .u32 yp, .slice y1 y2 y3, .slice y4 y5 y6, .slice y7 y8 y9, .slice y10 y11 y12, .slice y13 y14 y15] 45)
        have hwl : w.heap.size + 2 < w3.heap.size := Nat.lt_of_lt_of_le HTL.out hy.2.2.2.2.2.2.size
        have hwm : w.heap.size + 4 ≤ w3.heap.size := Nat.le_trans HTM.out hy.2.2.2.2.2.2.size
        clear hy tn
        dsimp only [CZ.cells]
        focus gi_wp2
        try simp only [Act.put, List.setIfInBounds_toArray, List.set_cons_zero, List.set_cons_succ]
        refine wpAnyIn_ready (rs := [0, 6]) (by kernel_rfl) (by simp) (AllReadyIn.cons (o := ⟨some 24, _, _, _, _, _⟩) rfl (fun K hK => ?_) (AllReadyIn.cons (o := ⟨some 30, _, _, _, _, _⟩) rfl (fun K hK => ?_) AllReadyIn.nil))
        go_simp
        refine hK _ _ ?_
        clear hK K
        try simp only [Act.put, List.setIfInBounds_toArray, List.set_cons_zero, List.set_cons_succ]
        refine wpAnyIn_ready (rs := [6]) (by kernel_rfl) (by simp) (AllReadyIn.cons (o := ⟨some 30, _, _, _, _, _⟩) rfl (fun K hK => ?_) AllReadyIn.nil)
        go_simp
        refine hK _ _ ?_
        clear hK K
        try simp only [Act.put, List.setIfInBounds_toArray, List.set_cons_zero, List.set_cons_succ]
        refine wpAnyIn_ready (rs := [7]) (by kernel_rfl) (by simp) (AllReadyIn.cons (o := ⟨some 31, _, _, _, _, _⟩) rfl (fun K hK => ?_) AllReadyIn.nil)
        refine step_appendI (S := 12) (by decide) rfl (.tmp 24) (.tmp 30) 31 rfl (w.heap.size + 4) 45 i0 (.agg #[.int .u8 0, .int .u8 0, .int .u32 0, .int .u32 0, .int .u16 0, .int .u16 0, .int .u32 0, .slice none 0 0, .slice none 0 0, .slice none 0 0, .slice none 0 0, .slice none 0 0]) Try.underlying31 hi0 hiz his rfl _ t2 _ (by simp [Act.eval, Act.put]) HO3.out _ 1 1 [.int .u8 yk, .int .u8 yf, .int .u32 ya, .int .u32 yb, .int .u16 yo, .int .u16 ys', .int .u32 yp, .slice y1 y2 y3, .slice y4 y5 y6, .slice y7 y8 y9, .slice y10 y11 y12, .slice y13 y14 y15] (by simp [Act.eval, Act.put]) rfl HN3.out (by simp [Value.oneCell']) (by unfold maxLen; omega) (by rw [hib]; omega) (by simp; omega) ?_
        intro A5 c5 w5 ho5 hg5 hl5
        have HA5 := keep (And.intro ho5 (And.intro hg5 hl5))
        have ht5 := (tkm_told HM7.out B3.out hg5).1
        have hf5 := (tkm_told HM7.out B3.out hg5).2
        dsimp only at ht5
        clear ho5 hg5 hl5
        refine hK _ _ ?_
        clear hK K
        try simp only [Act.put, List.setIfInBounds_toArray, List.set_cons_zero, List.set_cons_succ]
        refine wpAnyIn_ready (rs := [8]) (by kernel_rfl) (by simp) (AllReadyIn.cons (o := ⟨none, _, _, _, _, _⟩) rfl (fun K hK => ?_) AllReadyIn.nil)
        go_simp
        refine hK _ _ ?_
        clear hK K
        try simp only [Act.put, List.setIfInBounds_toArray, List.set_cons_zero, List.set_cons_succ]
        refine wpAnyIn_done (by kernel_rfl) ?_ _
        rotate_left
        go_simp
        refine hK _ _ ?_
        clear hK K
        try simp only [Act.put, List.setIfInBounds_toArray, List.set_cons_zero, List.set_cons_succ]
        refine wpAnyIn_ready (rs := [0]) (by kernel_rfl) (by simp) (AllReadyIn.cons (o := ⟨some 24, _, _, _, _, _⟩) rfl (fun K hK => ?_) AllReadyIn.nil)
        go_simp
        refine hK _ _ ?_
        clear hK K
        try simp only [Act.put, List.setIfInBounds_toArray, List.set_cons_zero, List.set_cons_succ]
        refine wpAnyIn_ready (rs := [7]) (by kernel_rfl) (by simp) (AllReadyIn.cons (o := ⟨some 31, _, _, _, _, _⟩) rfl (fun K hK => ?_) AllReadyIn.nil)
        refine step_appendI (S := 12) (by decide) rfl (.tmp 24) (.tmp 30) 31 rfl (w.heap.size + 4) 45 i0 (.agg #[.int .u8 0, .int .u8 0, .int .u32 0, .int .u32 0, .int .u16 0, .int .u16 0, .int .u32 0, .slice none 0 0, .slice none 0 0, .slice none 0 0, .slice none 0 0, .slice none 0 0]) Try.underlying31 hi0 hiz his rfl _ t2 _ (by simp [Act.eval, Act.put]) HO3.out _ 1 1 [.int .u8 yk, .int .u8 yf, .int .u32 ya, .int .u32 yb, .int .u16 yo, .int .u16 ys', .int .u32 yp, .slice y1 y2 y3, .slice y4 y5 y6, .slice y7 y8 y9, .slice y10 y11 y12, .slice y13 y14 y15] (by simp [Act.eval, Act.put]) rfl HN3.out (by simp [Value.oneCell']) (by unfold maxLen; omega) (by rw [hib]; omega) (by simp; omega) ?_
        intro A5 c5 w5 ho5 hg5 hl5
        have HA5 := keep (And.intro ho5 (And.intro hg5 hl5))
        have ht5 := (tkm_told HM7.out B3.out hg5).1
        have hf5 := (tkm_told HM7.out B3.out hg5).2
        dsimp only at ht5
        clear ho5 hg5 hl5
        refine hK _ _ ?_
        clear hK K
        try simp only [Act.put, List.setIfInBounds_toArray, List.set_cons_zero, List.set_cons_succ]
        refine wpAnyIn_ready (rs := [8]) (by kernel_rfl) (by simp) (AllReadyIn.cons (o := ⟨none, _, _, _, _, _⟩) rfl (fun K hK => ?_) AllReadyIn.nil)
        go_simp
        refine hK _ _ ?_
        clear hK K
        try simp only [Act.put, List.setIfInBounds_toArray, List.set_cons_zero, List.set_cons_succ]
        refine wpAnyIn_done (by kernel_rfl) ?_ _
        rotate_left
        all_goals (
          obtain ⟨g1, g2, g3⟩ := TkM.app HM7.out HO.out HF.out B3.out (y := ⟨yk, yf, ya, yb, yo, ys', yp, ⟨y1, y2, y3⟩, ⟨y4, y5, y6⟩, ⟨y7, y8, y9⟩, ⟨y10, y11, y12⟩, ⟨y13, y14, y15⟩, ybl, ydu, ysk, ypr, ybs⟩) HY.out.2.2.1 HY.out.2.2.2.2.1 HY.out.2.2.2.2.2.1 rfl HA5.out.1 HA5.out.2.1 HA5.out.2.2
          refine ⟨((HK6.out.2.trans (KeepsOthers.drew _)).trans g3).from _, (HK6.out.1.trans (KpT.drew _)).trans (g2 _ (by omega)), _, _, t ++ [e.c], _, _, g1, ?_, ?_, HN6.out, HN0.out.2, ?_⟩
          · rw [List.map_append, List.map_append, HT.out.1, HXC.out]
            exact congrArg (fun z => List.map CZ.ct t ++ [z]) HY.out.1
          · rw [List.map_append, List.map_append, HT.out.2.1, HXC.out]
            exact congrArg (fun z => List.map (fun y => y.da.2.1) t ++ [z]) HY.out.2.1
          · have := HT.out.2.2.2.2
            rw [List.length_append]
            exact Nat.succ_le_succ this)
  case done =>
    intro D A hD hJ hDd
    have k1 := StN.putObj (N := W1.heap.size) (.deferred none) hDd rfl hD
    rw [hps] at hJ
    obtain ⟨r, s, ys, h1, h2, h3⟩ := hJ.fin
    have ct := upd_cell h1.tb 0 _ rfl
    have HF1 := keep (tk_out (h1.st k1 (by omega)) h2 h3)
    clear h1 h2 h3 hJ J0
    obtain ⟨t1, t2, t3⟩ := s
    gi_wp2
    refine ⟨by simp, .inl ⟨_, _, rfl, run_takeDeferred hDd, ?_⟩⟩
    exact ⟨_, results_tmp rfl _ _ _, t1, t2, t3, rfl, ys, HF1.out⟩
  case stop =>
    intro c D A hD hJ hDd
    have k1 := StN.putObj (N := W1.heap.size) (.deferred none) hDd rfl hD
    obtain ⟨rfl, r, s, ys, h1, h2, h3⟩ := hJ
    have ct := upd_cell h1.tb 0 _ rfl
    have HF1 := keep (tk_out (h1.st k1 (by omega)) h2 h3)
    clear h1 h2 h3 J0
    obtain ⟨t1, t2, t3⟩ := s
    gi_wp2
    refine ⟨by simp, .inl ⟨_, _, rfl, run_takeDeferred hDd, ?_⟩⟩
    exact ⟨_, results_tmp rfl _ _ _, t1, t2, t3, rfl, ys, HF1.out⟩
end
end Go.Proofs.Ytffjdknmfmlfnaa
