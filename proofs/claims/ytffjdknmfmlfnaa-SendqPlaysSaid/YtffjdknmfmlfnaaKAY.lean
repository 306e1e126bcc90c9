/- KAY of the stage: texts Q23, joined. -/
import Derived.Test.YtffjdknmfmlfnaaKAX
import Derived.Test.YtffjdknmfmlfnaaKAV
set_option linter.unusedSimpArgs false
set_option linter.unusedVariables false
namespace Go.Proofs.Ytffjdknmfmlfnaa
section
open Go.RowKit Go.Maps
attribute [local go_sem] Oper.semAt_some

structure ComP (w : World) (G : Gq) (q : Qm) (bl : List (Int × Int)) (s : SL) (w' : World) : Prop where
  qa : QA w' G ⟨q.es.mapIdx (comeE bl), q.nx, q.mg⟩
  pe : Part (fun k => ∃ e ∈ q.es, e.p = k) w w'
  row : w'.ownsRow w.heap.size 75 1 (.slice s.1 s.2.1 s.2.2) s.2.1 ((camG bl q.es q.es.length).map En.ptr)
def CmI (w : World) (G : Gq) (q : Qm) (bl : List (Int × Int)) (cum : Int) (m0 : Nat) (i : Nat) (A : World) : Prop :=
  ∃ s, CmB w G q (rch bl) cum m0 (updL (comeE bl) q.es i) (camG bl q.es i) s A
theorem comeE_p (bl : List (Int × Int)) (i : Nat) (e : En) : (comeE bl i e).p = e.p := by
  unfold comeE
  split <;> split <;> rfl
theorem kpo_app {A w5 : World} {o : Obj} {v : Value} {base n : Nat} {xs : List Value} {p : Addr} {u : Value} (hr : A.ownsRow base 75 1 v n xs) (hg : (A.alloc o).grownBy w5 v.ownBlock) : KeepsOthers A (w5.setCell p u) := by
  have hbA := below_lay A o
  refine ((KeepsOthers.of_grownBy (row := none) ⟨hbA.os, hbA.tape, hbA.output, hbA.size, fun i hi _ => hbA.block i hi⟩ (fun _ _ e => by cases e)).trans (KeepsOthers.of_grownBy hg fun j o' ej hj => ?_)).trans (KeepsOthers.setCell _ _ _)
  obtain ⟨cv, f2, hcv⟩ := own_cells (own_step hr hbA) ej
  rw [hcv] at hj
  cases hj
  rfl
theorem cell_new1 (w : World) (u : Value) (t : TypeId) : ∀ (j : Nat) v, [u][j]? = some v → (w.alloc (.cells #[u] t)).cell? ((⟨w.heap.size, 0, none⟩ : Addr).add j) = some v := fun j v h => by
  rw [Addr.add_lit, cell_of_row _ _ _ _ _ _ (heap_alloc_new w _), Nat.zero_add]
  simpa using h
theorem cmb_told {w : World} {G : Gq} {q : Qm} {R : Nat → Int} {cum : Int} {m0 : Nat} {es cm : List En} {s : SL} {A : World} (h : CmB w G q R cum m0 es cm s A) {o : Obj} {w5 : World} (hg : (A.alloc o).grownBy w5 (Value.slice s.1 s.2.1 s.2.2).ownBlock) :
    w5.cell? ⟨w.heap.size + 1, 0, none⟩ = some (.slice s.1 s.2.1 s.2.2) ∧ w5.frozen? ⟨w.heap.size + 1, 0, none⟩ = false := by
  have h1 := h.st (StN.of_below (N := w.heap.size) (below_lay A o)) (Nat.le_refl _)
  have h2 := (hg.block _ (Array.getElem?_eq_some_iff.1 h1.tb).1 fun e => by have := (h1.row.lt _ e.symm).1; omega).trans h1.tb
  exact ⟨upd_cell h2 0 _ rfl, upd_fz h2 0⟩
theorem CmB.len {w : World} {G : Gq} {q : Qm} {R : Nat → Int} {cum : Int} {m0 : Nat} {es cm : List En} {s : SL} {A : World} (h : CmB w G q R cum m0 es cm s A) : s.2.1 = cm.length := by
  have := h.row.1
  rw [List.length_map] at this
  omega
set_option maxRecDepth 100000 in
set_option maxHeartbeats 4000000 in
theorem come_any {w : World} {G : Gq} {q : Qm} (h : QA w G q) (cum : Int) (s0 : SL) (bl : List (Int × Int)) (hl : LR blC w s0 bl) (hn : s0.2.1 ≤ 1000000) (hok : BlOK bl) (hd : ∀ i e, q.es[i]? = some e → dist32 cum e.c.a = ((i + 1 : Nat) : Int)) :
    Calls Try.prog 45 #[.pointer (some ⟨G.b, 0, none⟩), .int .u32 cum, .slice s0.1 s0.2.1 s0.2.2] w fun e w' => ∃ s, e = .returned (.slice s.1 s.2.1 s.2.2) ∧ ComP w G q bl s w' := by
  have hmix : Try.prog.follows .mixedOrders = true := by kernel_rfl
  obtain ⟨i0, hi0, hz0, hz1, hz2⟩ := info_parts del_info
  have F1 : Fence.wide.fn 70 := trivial
  have F2 : Fence.wide.fn 44 := trivial
  have F3 : Fence.wide.fn 71 := trivial
  have HO := keep h.olt
  have HF := keep h.flt
  have HQ := keep h
  have HD := keep hd
  have HOK := keep hok
  have HLR := keep hl
  have hps : (q.es.map En.p).length = q.es.length := List.length_map _
  have hle := h.le
  have HB0 := keep (fun (w1 : World) (hb : Below w.heap.size w w1) => (HQ.out.step hb).b0)
  have KR := keep (fun (w1 : World) (hb : Below w.heap.size w w1) => reaches_any s0 bl w1 (HLR.out.kept (ok := fun _ => True) (Kpt.of_below hb) (InF.all _)) hn HOK.out)
  clear h hd hok hl
  obtain ⟨a1, a2, a3⟩ := s0
  dsimp only at hn KR ⊢
  refine (callsIn_wide (n := 6)).1 ?_
  refine callsIn_of_wp_marks Try.func45 rfl trivial ?_ rfl
  simp only [Try.ntmps45, List.size_toArray, List.length_cons, List.length_nil, Nat.reduceAdd, Nat.reduceSub, Array.replicate_succ, Array.replicate_zero, List.push_toArray, List.append_toArray, List.nil_append, List.cons_append]
  have HB1 := keep (up (below_lay w (.cells #[.int .u32 cum] 22)) (below_lay _ (.cells #[.slice none 0 0] 54)))
  gi_wp2_with (first
    | (gi_at_call 70; refine (callsIn_wide.2 (KR.out _ HB1.out)).mono ?_; rintro e W2 ⟨rfl, hR2, hB2⟩; replace hR2 := keep hR2; replace hB2 := keep hB2; obtain ⟨q0, q1, f0, f1⟩ := HB0.out _ (up (HB1.out.trans (hB2.out.mono HB1.out.size)) (below_lay W2 (.cells #[.slice (some ⟨w.heap.size + 2, 0, none⟩) 1025 1025] 117))))
    | (gi_at_call 44; refine (callsIn_wide.2 (in_any _ _ _ _ _ _ _)).mono ?_; rintro e w' ⟨rfl, rfl⟩))
  have hR3 : RB W2 (w.heap.size + 2) (rch bl) := by
    have := hR2.out
    rwa [show ((w.alloc (.cells #[.int .u32 cum] 22)).alloc (.cells #[.slice none 0 0] 54)).heap.size = w.heap.size + 2 by simp] at this
  have hB3 : Below w.heap.size w W2 := HB1.out.trans (hB2.out.mono HB1.out.size)
  have hm0 : w.heap.size + 3 ≤ W2.heap.size := (Array.getElem?_eq_some_iff.1 hR3).1
  generalize hW1 : World.alloc _ _ = W1
  have J0 : CmI w G q bl cum W2.heap.size 0 W1 := by
    rw [← hW1]
    have hbA := up hB3 (below_lay W2 (.cells #[.slice (some ⟨w.heap.size + 2, 0, none⟩) 1025 1025] 117))
    have hbI := below_in (W2.alloc (.cells #[.slice (some ⟨w.heap.size + 2, 0, none⟩) 1025 1025] 117)) (.cells ([1, 2, 3].map (Value.int .i64)).toArray 3) (.cells #[.slice G.s.1 G.s.2.1 G.s.2.2] 54) (.cells #[.slice (some ⟨W2.heap.size + 1, 0, none⟩) 3 3] 115)
    have hbB := up hbA hbI
    have h2 := below_lay W2 (.cells #[.slice (some ⟨w.heap.size + 2, 0, none⟩) 1025 1025] 117)
    have hbU : Below ((w.alloc (.cells #[.int .u32 cum] 22)).alloc (.cells #[.slice none 0 0] 54)).heap.size ((w.alloc (.cells #[.int .u32 cum] 22)).alloc (.cells #[.slice none 0 0] 54)) _ := hB2.out.trans ((h2.trans (hbI.mono h2.size)).mono hB2.out.size)
    refine ⟨(none, 0, 0), ⟨by rw [updL_zero]; exact LQ.start HQ.out hbA (by simp) [1, 2, 3], Part.of_below _ hbB, ?_, ?_, ?_, (hR3.step h2).step hbI, World.ownsRow_nil _ _ _ _⟩⟩
    · exact (hbU.block _ (by simp; omega)).trans (below_new (heap_new_at rfl))
    · exact (hbU.block _ (by simp)).trans (heap_new_at (by simp))
    · exact (hbI.block _ (by simp)).trans (heap_alloc_new W2 _)
  have hs1 : w.heap.size ≤ W1.heap.size := by
    obtain ⟨s, hh⟩ := J0
    exact hh.lq.pt.size
  have HM0 := keep hm0
  clear hW1 hB3 hR3 hB2 hR2 q0 q1 f0 f1 KR hm0
  refine rangeFunc_ix (n := 6) rfl (by omega) (gf := 68) (lb := #[.pointer (some ⟨W2.heap.size + 1 + 1, 0, none⟩), .pointer (some ⟨W2.heap.size + 1 + 1 + 1, 0, none⟩)]) rfl trivial (enters_of Try.func68 (by kernel_rfl) rfl) (N := (q.es.map En.p).length) (enc := encP (q.es.map En.p)) (fun _ => rfl)
    (InX (q.es.map En.p) [1, 2, 3]) (fun _ => InOwn (W2.heap.size + 1 + 1) (W2.heap.size + 1 + 2) G.s (some ⟨W2.heap.size + 1, 0, none⟩, 3, 3) (q.es.map En.p) [1, 2, 3]) (fun _ _ => True)
    (CmI w G q bl cum W2.heap.size) (fun _ _ => False)
    (in1_seq (6 - 1) (by omega) _ _ _ _ (q.es.map En.p) [1, 2, 3] (by rw [hps]; exact hle) (by decide) _ _)
    (fun i A B st h => by
      obtain ⟨s, hh⟩ := h
      exact ⟨s, hh.st st hs1⟩) (fun _ _ _ _ h => h)
    (fun i A B st h => by
      obtain ⟨p, y, h1, h2, h3⟩ := h
      exact ⟨p, y, h1, st.cell h2, h3⟩)
    (fun _ _ _ _ _ _ _ _ _ _ _ _ _ _ => trivial)
    (fun i A h => by
      obtain ⟨s, hh⟩ := h
      exact hh.lq.own)
    (fun i A hi h hx => by
      obtain ⟨s, hh⟩ := h
      obtain ⟨e, he, _⟩ := hh.lq.get hi
      have hne := fun hx' => hx ((hh.lq.x he).2 hx')
      rw [updL_at] at he
      have h1 : ¬ (e.st = 1 ∨ e.st = 2) := fun hc => hne (by rcases hc with hc | hc <;> rw [hc] <;> decide)
      have h2 : ¬ e.st = 3 := fun hc => hne (by rw [hc]; decide)
      refine ⟨s, ?_⟩
      rw [updL_same _ _ _ he (by unfold comeE; rw [if_neg h1, if_neg h2]; split <;> rfl), camG, he]
      simp only [h1, and_false, if_false, List.append_nil]
      exact hh)
    J0 ?round ?done (fun _ _ _ _ h _ => h.elim)
  case round =>
    rintro l i A hl hi ⟨s, hJ⟩ hx
    obtain ⟨e, he, hge⟩ := hJ.lq.get hi
    have hst := (hJ.lq.x he).1 hx
    rw [updL_at] at he
    simp only [Array.zip, encP]
    rw [hge]
    have HI := keep hi
    have HE := keep he
    have HST := keep hst
    clear hJ hx he hge hi hst s
    gi_wp2
    refine ⟨by first | rfl | trivial, fun A2 hJ2 hx2 => ?_⟩
    obtain ⟨s, hJ2⟩ := hJ2
    have hg : (updL (comeE bl) q.es i)[i]? = some e := by rw [updL_at]; exact HE.out
    have hea := hJ2.lq.qa.en e (List.mem_of_getElem? hg)
    have c2 : A2.cell? ⟨e.p, 2, none⟩ = some (Value.int .u32 e.c.a) := hea.1.at_ 2 _ rfl
    have cc : A2.cell? ⟨w.heap.size, 0, none⟩ = some (Value.int .u32 cum) := upd_cell hJ2.cb 0 _ rfl
    have KD := fun W => Dist_any cum e.c.a W
    rw [HD.out i e HE.out] at KD
    replace KD := keep KD
    have HJ2 := keep hJ2
    have HG := keep hg
    clear hJ2 hx2 hea hg
    gi_wp2
    refine wpIn_region_held (S := fun w' => w'.cell? ⟨e.p, 2, none⟩ = some (.int .u32 e.c.a) ∧ w'.cell? ⟨w.heap.size, 0, none⟩ = some (.int .u32 cum)) hmix (by kernel_rfl) (by rintro ⟨_, _, hh⟩; exact hh) ⟨c2, cc⟩ (fun hHeld => ?_)
    refine wpAnyH_take (i := 0) (oi := ⟨some 21, _, _, _, _, _⟩) (v := ?va1x0) rfl (by kernel_rfl) (by kernel_rfl) (by kernel_rfl) (fun _ _ _ h => h) (Or.inl ⟨by rfl, ?hya1x0⟩) (by assumption) ?resta1x0
    case hya1x0 => (rintro wz ⟨hS1, hS2⟩; go_simp <;> (try with_reducible rfl))
    try simp only [Act.put, List.setIfInBounds_toArray, List.set_cons_zero, List.set_cons_succ]
    refine wpAnyH_take (i := 1) (oi := ⟨some 22, _, _, _, _, _⟩) (v := ?va2x1) rfl (by kernel_rfl) (by kernel_rfl) (by kernel_rfl) (fun _ _ _ h => h) (Or.inl ⟨by rfl, ?hya2x1⟩) (by assumption) ?resta2x1
    case hya2x1 => (rintro wz ⟨hS1, hS2⟩; go_simp <;> (try with_reducible rfl))
    try simp only [Act.put, List.setIfInBounds_toArray, List.set_cons_zero, List.set_cons_succ]
    refine wpAnyH_take (i := 2) (oi := ⟨some 23, _, _, _, _, _⟩) (v := ?va3x2) rfl (by kernel_rfl) (by kernel_rfl) (by kernel_rfl) (fun _ _ _ h => h) (Or.inl ⟨by rfl, ?hya3x2⟩) (by assumption) ?resta3x2
    case hya3x2 => (rintro wz ⟨hS1, hS2⟩; go_simp <;> (try with_reducible rfl))
    try simp only [Act.put, List.setIfInBounds_toArray, List.set_cons_zero, List.set_cons_succ]
    refine wpAnyH_take (i := 3) (oi := ⟨some 24, _, _, _, _, _⟩) (v := ?va4x3) rfl (by kernel_rfl) (by kernel_rfl) (by kernel_rfl) (fun _ _ _ h => h) (Or.inl ⟨by rfl, ?hya4x3⟩) (by assumption) ?resta4x3
    case hya4x3 => (rintro wz ⟨hS1, hS2⟩; go_simp <;> (try with_reducible rfl))
    try simp only [Act.put, List.setIfInBounds_toArray, List.set_cons_zero, List.set_cons_succ]
    refine wpAnyH_take (i := 4) (oi := ⟨some 25, _, _, _, _, _⟩) (v := ?va5x4) rfl (by kernel_rfl) (by kernel_rfl) (by kernel_rfl) (fun _ _ _ h => h) (Or.inl ⟨by rfl, ?hya5x4⟩) (by assumption) ?resta5x4
    case hya5x4 => (rintro wz ⟨hS1, hS2⟩; go_simp <;> (try with_reducible rfl))
    try simp only [Act.put, List.setIfInBounds_toArray, List.set_cons_zero, List.set_cons_succ]
    refine wpAnyH_take (i := 5) (oi := ⟨some 26, _, _, _, _, _⟩) (v := ?va6x5) rfl (by kernel_rfl) (by kernel_rfl) (by kernel_rfl) (fun _ _ _ h => h) (Or.inl ⟨by rfl, ?hya6x5⟩) (by assumption) ?resta6x5
    case hya6x5 => (rintro wz ⟨hS1, hS2⟩; go_simp <;> (try with_reducible rfl))
    try simp only [Act.put, List.setIfInBounds_toArray, List.set_cons_zero, List.set_cons_succ]
    refine wpAnyH_ready (rs := [6]) (by kernel_rfl) (by simp) (AllReadyH.cons (o := ⟨some 27, _, _, _, _, _⟩) rfl (fun K hK => ?_) AllReadyH.nil)
    go_simp
    go_at_call 71
    refine (KD.out _).mono ?_
    rintro e1 w1 ⟨rfl, rfl⟩
    (try go_wp2_with fail)
    refine hK.out _ _ ⟨c2, cc⟩ (fun hHeld => ?_)
    clear hK K
    try simp only [Act.put, List.setIfInBounds_toArray, List.set_cons_zero, List.set_cons_succ]
    refine wpAnyH_take (i := 7) (oi := ⟨some 10, _, _, _, _, _⟩) (v := ?va7x7) rfl (by kernel_rfl) (by kernel_rfl) (by kernel_rfl) (fun _ _ _ h => h) (Or.inl ⟨by rfl, ?hya7x7⟩) (by assumption) ?resta7x7
    case hya7x7 => (rintro wz ⟨hS1, hS2⟩; go_simp <;> (try with_reducible rfl))
    try simp only [Act.put, List.setIfInBounds_toArray, List.set_cons_zero, List.set_cons_succ]
    refine wpAnyH_done (by kernel_rfl) ?_ _
    have hJ2 := HJ2.out
    have hg := HG.out
    have hil : i < 1024 := by have := HI.out; omega
    have hi1 : (i : Int) + 1 < 1025 := by omega
    have hi0' : 0 ≤ (i : Int) := by omega
    have xc : A2.cell? ⟨W2.heap.size, 0, none⟩ = some (Value.slice (some ⟨w.heap.size + 2, 0, none⟩) 1025 1025) := upd_cell hJ2.xb 0 _ rfl
    have rc := hJ2.rr.at_ (i + 1) (by omega)
    have y1 := rmx_nn (fun x => decide (x ≤ ((i + 1 : Nat) : Int))) bl
    have y2 := rmx_lt (f := fun x => decide (x ≤ ((i + 1 : Nat) : Int))) HOK.out
    obtain ⟨y, hy⟩ : ∃ y, rch bl (i + 1) = y := ⟨_, rfl⟩
    have hy' : rmx (fun x => decide (x ≤ ((i + 1 : Nat) : Int))) bl = y := hy
    rw [hy] at rc
    rw [hy'] at y1 y2
    have hwr : IntKind.u32.wrap y = y := by rw [wrap_u32]; omega
    have hT : Hid (toldB bl i = decide ((i : Int) + 1 ≤ y)) := keep (by unfold toldB; rw [hy]; rfl)
    have hea := hJ2.lq.qa.en e (List.mem_of_getElem? hg)
    have c13 : A2.cell? ⟨e.p, 13, none⟩ = some (Value.int .i64 e.st) := hea.1.at_ 13 _ rfl
    have f13 := hea.1.fz 13
    have f16 := hea.1.fz 16
    have c16 : A2.cell? ⟨e.p, 16, none⟩ = some (Value.int .i64 e.ms) := hea.1.at_ 16 _ rfl
    clear hJ2 hg hea hy hy' y1 y2
    have hu : toldB bl i = true → e.st = 1 ∨ e.st = 2 → comeE bl i e = { e with st := 3 } ∧ camG bl q.es (i + 1) = camG bl q.es i ++ [{ e with st := 3 }] := fun h1 h2 => by
      refine ⟨by unfold comeE; rw [if_pos h1, if_pos h2], ?_⟩
      rw [camG, HE.out]
      simp only [h1, h2, and_self, if_true]
    have hv : ¬ (toldB bl i = true ∧ (e.st = 1 ∨ e.st = 2)) → camG bl q.es (i + 1) = camG bl q.es i := fun h1 => by
      rw [camG, HE.out]
      simp only [h1, if_false, List.append_nil]
    have HU := keep hu
    have HV := keep hv
    clear hu hv
    have hst : e.st = 1 ∨ e.st = 2 ∨ e.st = 3 := by simpa using HST.out
    by_cases ht : (i : Int) + 1 ≤ y
    · have HTB : Hid (toldB bl i = true) := keep (by rw [hT.out, decide_eq_true ht])
      by_cases h3 : e.st = 3
      · rw [h3] at c13
        clear hst
        gi_wp2
        refine ⟨(KeepsOthers.drew A2).from _, trivial, s, ?_⟩
        rw [updL_same _ _ _ HE.out (by unfold comeE; rw [if_pos HTB.out, if_neg (by omega)]), HV.out (by omega)]
        exact HJ2.out.st (StN.drew w.heap.size A2) (Nat.le_refl _)
      · have h12 : e.st = 1 ∨ e.st = 2 := by omega
        have hu := HU.out HTB.out h12
        have HJ3 : Hid (CmB w G q (rch bl) cum W2.heap.size (updL (comeE bl) q.es (i + 1)) (camG bl q.es i) s (A2.setCell ⟨e.p, 13, none⟩ (.int .i64 3))) := keep (by
          rw [updL_next _ _ _ HE.out, hu.1]
          exact HJ2.out.setE HM0.out HO.out (e' := { e with st := 3 }) HG.out 13 _ rfl rfl rfl rfl)
        have c7 : A2.cell? ⟨w.heap.size + 1, 0, none⟩ = some (Value.slice s.1 s.2.1 s.2.2) := upd_cell HJ2.out.tb 0 _ rfl
        have hlt := HO.out _ (HJ2.out.lq.qa.en e (List.mem_of_getElem? HG.out)).2.1
        have hne : e.p ≠ w.heap.size + 1 := by omega
        have hne2 : w.heap.size + 1 ≠ e.p := by omega
        have ht2 : s.2.1 ≤ 1024 := by
          have h1 := HJ2.out.len
          have h2 := camG_len bl q.es i
          omega
        have HT2 := keep ht2
        have HCM := keep hu.2
        have hsz2 : w.heap.size + 2 ≤ A2.heap.size := (Array.getElem?_eq_some_iff.1 HJ2.out.tb).1
        have HSZ := keep hsz2
        clear hst hu hlt ht2 HJ2 HU HV hsz2
        obtain ⟨t1, t2, t3⟩ := s
        dsimp only at c7 HT2
        have HRW : Hid (World.ownsRow (((A2.setCell ⟨e.p, 13, none⟩ (.int .i64 3)).alloc (.cells #[.pointer (some ⟨e.p, 0, none⟩)] 75)).drew) (w.heap.size + 2) 75 1 (.slice t1 t2 t3) t2 ((camG bl q.es i).map En.ptr)) := keep (own_step HJ3.out.row (below_lay _ _).drew)
        have HNW : Hid (∀ (j : Nat) u, [Value.pointer (some ⟨e.p, 0, none⟩)][j]? = some u → World.cell? (((A2.setCell ⟨e.p, 13, none⟩ (.int .i64 3)).alloc (.cells #[.pointer (some ⟨e.p, 0, none⟩)] 75)).drew) ((⟨A2.heap.size, 0, none⟩ : Addr).add j) = some u) := keep (fun j u h => by
          have h1 := cell_new1 (A2.setCell ⟨e.p, 13, none⟩ (.int .i64 3)) (.pointer (some ⟨e.p, 0, none⟩)) 75 j u h
          rw [show (A2.setCell ⟨e.p, 13, none⟩ (.int .i64 3)).heap.size = A2.heap.size by simp] at h1
          exact h1)
        rcases h12 with h12 | h12 <;> rw [h12] at c13 <;> (
          gi_wp2_with (gi_at_builtin; go_loud (refine wpListIn_append_own_at _ rfl (.tmp 47) (.tmp 49) 54 rfl (w.heap.size + 2) 75 i0 (.pointer none) 1 8 Try.underlying54 hi0 hz0 hz1 hz2 rfl (by decide) (.slice t1 t2 t3) t2 _ rfl HRW.out ⟨A2.heap.size, 0, none⟩ 1 1 [.pointer (some ⟨e.p, 0, none⟩)] rfl rfl HNW.out (by simp [Value.oneCell']) (by have := HT2.out; unfold maxLen; omega) (by have := HT2.out; omega) (by have := HSZ.out; simp; omega) ?_); intro v5 w5 ho5 hg5 _ hl5; obtain ⟨A5, c5, rfl, _, _⟩ := own_shape2' ho5; have HA5 := keep (And.intro ho5 (And.intro (show (World.alloc (A2.setCell ⟨e.p, 13, none⟩ (.int .i64 3)).drew (.cells #[.pointer (some ⟨e.p, 0, none⟩)] 75)).grownBy w5 (Value.slice t1 t2 t3).ownBlock from hg5) hl5)); obtain ⟨z7, g7⟩ := cmb_told (HJ3.out.st (StN.drew w.heap.size _) (Nat.le_refl _)) HA5.out.2.1; dsimp only at z7; clear ho5 hg5 hl5)
          have fin := CmB.app (HJ3.out.st (StN.drew w.heap.size _) (Nat.le_refl _)) HM0.out HO.out HF.out (e := { e with st := 3 }) HA5.out.1 HA5.out.2.1 HA5.out.2.2
          have kpo := kpo_app (p := ⟨w.heap.size + 1, 0, none⟩) (u := .slice A5 (t2 + 1) c5) (show World.ownsRow (A2.setCell ⟨e.p, 13, none⟩ (.int .i64 3)).drew _ _ _ _ _ _ from HJ3.out.row) HA5.out.2.1
          refine ⟨(((KeepsOthers.setCell _ _ _).trans (KeepsOthers.drew _)).trans kpo).from _, trivial, (A5, t2 + 1, c5), ?_⟩
          rw [HCM.out]
          exact fin)
    · have HTB : Hid (toldB bl i = false) := keep (by rw [hT.out, decide_eq_false ht])
      by_cases h3 : e.st = 3
      · rw [h3] at c13
        have HJ3 : Hid (CmB w G q (rch bl) cum W2.heap.size (updL (comeE bl) q.es (i + 1)) (camG bl q.es (i + 1)) s ((A2.setCell ⟨e.p, 13, none⟩ (.int .i64 1)).setCell ⟨e.p, 16, none⟩ (.int .i64 0))) := keep (by
          rw [updL_next _ _ _ HE.out, HV.out (by omega), show comeE bl i e = { e with st := 1, ms := 0 } by unfold comeE; rw [HTB.out, if_neg (by decide), if_pos h3]]
          have m1 := HJ2.out.setE HM0.out HO.out (e' := { e with st := 1 }) HG.out 13 (.int .i64 1) rfl rfl rfl rfl
          have g1 : ((updL (comeE bl) q.es i).set i { e with st := 1 })[i]? = some { e with st := 1 } := by rw [List.getElem?_set, if_pos rfl, if_pos (List.getElem?_eq_some_iff.1 HG.out).1]
          have m2 := m1.setE HM0.out HO.out (e' := { e with st := 1, ms := 0 }) g1 16 (.int .i64 0) rfl rfl rfl rfl
          rw [List.set_set] at m2
          exact m2)
        clear hst
        gi_wp2
        exact ⟨(((KeepsOthers.setCell _ _ _).trans (KeepsOthers.setCell _ _ _)).trans (KeepsOthers.drew _)).from _, trivial, s, HJ3.out.st (StN.drew w.heap.size _) (Nat.le_refl _)⟩
      · have h12 : e.st = 1 ∨ e.st = 2 := by omega
        have HF2 : Hid (CmB w G q (rch bl) cum W2.heap.size (updL (comeE bl) q.es (i + 1)) (camG bl q.es (i + 1)) s A2.drew) := keep (by
          rw [updL_same _ _ _ HE.out (by unfold comeE; rw [HTB.out, if_neg (by decide), if_neg h3]), HV.out (by rw [HTB.out]; exact fun hc => by cases hc.1)]
          exact HJ2.out.st (StN.drew w.heap.size A2) (Nat.le_refl _))
        clear hst
        rcases h12 with h12 | h12 <;> rw [h12] at c13 <;> (
          gi_wp2
          exact ⟨(KeepsOthers.drew A2).from _, trivial, s, HF2.out⟩)
  case done =>
    intro D A hD hJ hDd
    have k1 := StN.putObj (N := W1.heap.size) (.deferred none) hDd rfl hD
    rw [hps] at hJ
    obtain ⟨s, h1⟩ := hJ
    have ct : A.cell? ⟨w.heap.size + 1, 0, none⟩ = some (Value.slice s.1 s.2.1 s.2.2) := upd_cell h1.tb 0 _ rfl
    have h2 := h1.st k1 hs1
    rw [updL_all] at h2
    have HF1 := keep (show ComP w G q bl s _ from ⟨h2.lq.qa, h2.pe, own_mono h2.row (by omega)⟩)
    clear h1 h2 J0
    obtain ⟨t1, t2, t3⟩ := s
    gi_wp2
    refine ⟨by simp, .inl ⟨_, _, rfl, run_takeDeferred hDd, ?_⟩⟩
    exact ⟨_, results_tmp rfl _ _ _, t1, t2, t3, rfl, HF1.out⟩
end
end Go.Proofs.Ytffjdknmfmlfnaa
