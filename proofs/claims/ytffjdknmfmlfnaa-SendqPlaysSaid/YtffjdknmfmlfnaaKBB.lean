/- KBB of the stage: texts Q28, joined. -/
import Derived.Test.YtffjdknmfmlfnaaKBA
import Derived.Test.YtffjdknmfmlfnaaKAV
set_option linter.unusedSimpArgs false
set_option linter.unusedVariables false
namespace Go.Proofs.Ytffjdknmfmlfnaa
section
open Go.RowKit Go.Maps
attribute [local go_sem] Oper.semAt_some

theorem AkW.fin {w : World} {G G1 : Gq} {nx : Int} {mg : Nat → Mg} {gone es : List En} {g : SL} {rB D : Nat} {b sa : Int} {lo mo : Bool} {W : World} (h : AkW w G G1 nx mg gone g rB D es b sa lo mo W) (hO : ∀ i, G1.O i → i < w.heap.size) (hF : ∀ i, G1.F i → i < w.heap.size) {N : Nat} (hN : w.heap.size ≤ N) (hD : N ≤ D) :
    ∀ W', W' = (((W.setCell ⟨w.heap.size + 1, 0, none⟩ (.int .i64 b)).setCell ⟨w.heap.size + 1, 1, none⟩ (.int .i64 sa)).setCell ⟨w.heap.size + 1, 2, none⟩ (.bool lo)).setCell ⟨w.heap.size + 1, 3, none⟩ (.bool mo) →
      W'.heap[D]? = some (.deferred (some [])) ∧ RsB (W'.putObj D (.deferred none)) (w.heap.size + 1) b sa lo mo ∧ QA (W'.putObj D (.deferred none)) G1 ⟨es, nx, mg⟩ ∧ Part G.O w (W'.putObj D (.deferred none)) := by
  rintro W' rfl
  have hp := (((part_set W (w.heap.size + 1) 0 (.int .i64 b)).trans (part_set _ (w.heap.size + 1) 1 (.int .i64 sa)) fun i hi => .inl hi).trans (part_set _ (w.heap.size + 1) 2 (.bool lo)) fun i hi => .inl hi).trans (part_set _ (w.heap.size + 1) 3 (.bool mo)) fun i hi => .inl hi
  have hr := res4_at h.rb b sa lo mo
  have hd := (hp.block _ (Array.getElem?_eq_some_iff.1 h.dd).1 fun e => by
    have h1 := h.dd
    rw [e, show W.heap[w.heap.size + 1]? = _ from h.rb] at h1
    cases h1).trans h.dd
  have hq := h.qa.apart hp (fun i hi e => by have := hO i hi; omega) (fun i hi e => by have := hF i hi; omega)
  have k1 := StN.putObj (N := N) (.deferred none) hd rfl hD
  exact ⟨hd, k1.cells hr, hq.st k1, (h.pt.trans hp fun i hi => .inr (by omega)).st k1 hN⟩
theorem lr_apart {A B : World} {S : Nat → Prop} {s : SL} {bl : List (Int × Int)} (h : LR blC A s bl) (hp : Part S A B) (ha : InF (fun i => ¬ S i) s.1 ∨ bl = []) : LR blC B s bl := by
  rcases ha with ha | ha
  · exact h.kept (Kpt.of_part (ok := fun i => ¬ S i) hp fun _ h => h) ha
  · subst ha
    exact ⟨h.1, h.2.1, SR.nil _ _⟩
theorem gone_left {q : Qm} {k : Nat} (hnd : (q.es.map En.p).Nodup) : ∀ e ∈ q.es.drop k, ∀ x ∈ q.es.take k, x.p ≠ e.p := by
  intro e he x hx hh
  rw [← List.take_append_drop k q.es, List.map_append, List.nodup_append] at hnd
  exact hnd.2.2 x.p (List.mem_map.2 ⟨x, hx, rfl⟩) e.p (List.mem_map.2 ⟨e, he, rfl⟩) hh
set_option maxRecDepth 100000 in
set_option maxHeartbeats 8000000 in
theorem Ack_any {w : World} {G : Gq} {q : Qm} (h : QA w G q) (hnum : Nums q) (cum now : Int) (hcum : 0 ≤ cum ∧ cum < 4294967296) (s0 : SL) (bl : List (Int × Int)) (hl : LR blC w s0 bl) (hap : InF (fun i => ¬ G.O i) s0.1 ∨ bl = []) (hn : s0.2.1 ≤ 1000000) (hok : BlOK bl) (hre : reachedB q cum = true) :
    Calls Try.prog 13 #[.pointer (some ⟨G.b, 0, none⟩), .int .u32 cum, .slice s0.1 s0.2.1 s0.2.2, .int .i64 now] w fun e w' => e = .returned (ackOut (ackR q cum bl now) true) ∧ AckP w G q cum bl w' := by
  have hmix : Try.prog.follows .mixedOrders = true := by kernel_rfl
  have F1 : Fence.wide.fn 42 := trivial
  have F2 : Fence.wide.fn 43 := trivial
  have F3 : Fence.wide.fn 44 := trivial
  have F4 : Fence.wide.fn 45 := trivial
  have F5 : Fence.wide.fn 46 := trivial
  have F6 : Fence.wide.fn 47 := trivial
  have F7 : Fence.wide.fn 48 := trivial
  have HO := keep h.olt
  have HF := keep h.flt
  have HQ := keep h
  have HLR := keep hl
  have HAP := keep hap
  have HOK := keep hok
  have hsl := stp_le q cum
  have hle := h.le
  have HFL := keep (reached_flr hcum hre)
  have HNU := keep (cut_nums hnum hsl)
  have HB0 := keep (up (below_lay w (.cells #[.int .i64 now] 3)) (below_lay _ (.cells #[.int .i64 0, .int .i64 0, .bool false, .bool false] 49)))
  have HR0 := keep (show RsB ((w.alloc (.cells #[.int .i64 now] 3)).alloc (.cells #[.int .i64 0, .int .i64 0, .bool false, .bool false] 49)) (w.heap.size + 1) 0 0 false false from heap_new_at (by simp))
  have HN0 := keep (show ((w.alloc (.cells #[.int .i64 now] 3)).alloc (.cells #[.int .i64 0, .int .i64 0, .bool false, .bool false] 49)).heap[w.heap.size]? = some (.cells #[.int .i64 now] 3 (0, 0)) from below_new (heap_new_at rfl))
  have KRE := reached_any (h.step HB0.out) cum
  rw [hre] at KRE
  replace KRE := keep KRE
  have KCU := keep (fun W (hb : Below w.heap.size w W) => cut_any (h.step hb) cum)
  clear h hl hap hok hre hnum hcum
  obtain ⟨b1, b2, b3⟩ := s0
  dsimp only at hn ⊢
  obtain ⟨k, hk⟩ : ∃ k, stp q cum = k := ⟨_, rfl⟩
  have HK := keep hk
  rw [hk] at KCU hsl HFL HNU
  clear hk
  refine (callsIn_wide (n := 6)).1 ?_
  refine callsIn_of_wp_marks Try.func13 rfl trivial ?_ rfl
  simp only [Try.ntmps13, List.size_toArray, List.length_cons, List.length_nil, Nat.reduceAdd, Nat.reduceSub, Array.replicate_succ, Array.replicate_zero, List.push_toArray, List.append_toArray, List.nil_append, List.cons_append]
  gi_wp2_with (first
    | (gi_at_call 42; refine (callsIn_wide.2 KRE.out).mono ?_; rintro e Wa ⟨rfl, hbw⟩; replace hbw := keep hbw)
    | (gi_at_call 43; refine (callsIn_wide.2 (KCU.out _ (HB0.out.trans (hbw.out.mono HB0.out.size)))).mono ?_; rintro e Wb ⟨Ag, cg, rfl, hgone, hqb, hpb⟩; replace hgone := keep hgone; replace hqb := keep hqb; replace hpb := keep hpb)
    | (gi_at_call 44; refine (callsIn_wide.2 (in_any _ _ _ _ _ _ _)).mono ?_; rintro e w' ⟨rfl, rfl⟩))
  generalize hW1 : World.alloc _ _ = W1
  have hbA : Below w.heap.size w Wa := HB0.out.trans (hbw.out.mono HB0.out.size)
  have hpw : Part G.O w Wb := (Part.of_below (S := G.O) hbA).trans hpb.out fun i hi => .inl (by
    rcases hi with rfl | hi
    · exact HQ.out.ob
    · exact HQ.out.ov i hi)
  have hlow : ∀ i, w.heap.size ≤ i → ¬ (i = G.b ∨ (Value.slice G.s.1 G.s.2.1 G.s.2.2).ownBlock = some i) := fun i hi hc => by
    rcases hc with hc | hc
    · have := HO.out _ HQ.out.ob; omega
    · have := HO.out _ (HQ.out.ov i hc); omega
  have kb := Kpt.of_part (ok := fun i => ¬ (i = G.b ∨ (Value.slice G.s.1 G.s.2.1 G.s.2.2).ownBlock = some i)) hpb.out fun _ h => h
  have hnb : Wb.heap[w.heap.size]? = some (.cells #[.int .i64 now] 3 (0, 0)) := kb.cells _ _ _ _ (hlow _ (Nat.le_refl _)) ((Kpt.of_below (ok := fun _ => True) hbw.out).cells _ _ _ _ trivial HN0.out)
  have hrb : RsB Wb (w.heap.size + 1) 0 0 false false := kb.cells _ _ _ _ (hlow _ (by omega)) (HR0.out.step hbw.out)
  have hwb : w.heap.size + 1 < Wb.heap.size := (Array.getElem?_eq_some_iff.1 hrb).1
  have hgA : InF (fun i => w.heap.size ≤ i ∧ i < Wb.heap.size) Ag := fun a ea => by
    have h1 := own_inf hgone.out.1 a ea
    have := hbA.size
    exact ⟨by omega, h1.2⟩
  obtain ⟨mo, hmo⟩ : ∃ mo, decide (0 < k) = mo := ⟨_, rfl⟩
  have HMO := keep hmo
  have HGL : Hid (q.es.take k = goneL q cum) := keep (by unfold goneL; rw [HK.out])
  have HES : Hid (ES Wb (Ag, k, cg) (goneL q cum)) := keep (by rw [← HGL.out]; exact hgone.out.2)
  have hgl : ((goneL q cum).map En.p).length = k := by rw [← HGL.out, List.length_map, List.length_take]; omega
  have J0 : SmI Wb (Ag, k, cg) now (goneL q cum) mo 0 W1 := by
    rw [← hW1, hmo]
    have h2 := below_lay Wb (.cells #[.int .i64 0, .int .i64 (-1), .bool false, .bool mo] 49)
    have hbI := below_in (Wb.alloc (.cells #[.int .i64 0, .int .i64 (-1), .bool false, .bool mo] 49)) (.cells ([1, 2].map (Value.int .i64)).toArray 3) (.cells #[.slice Ag k cg] 54) (.cells #[.slice (some ⟨Wb.heap.size + 1, 0, none⟩) 2 2] 115)
    exact ⟨h2.trans (hbI.mono h2.size), InB.start _ (Wb.heap.size + 1) (by simp) (Ag, k, cg) [1, 2], (hbI.block _ (by simp)).trans (heap_alloc_new Wb _)⟩
  have hs1 : Wb.heap.size ≤ W1.heap.size := J0.bl.size
  have HPW := keep hpw
  have HNB := keep hnb
  have HRB := keep hrb
  have HWB := keep hwb
  have HGA := keep hgA
  clear hW1 hbA hpw hlow kb hnb hrb hwb hgA hmo HB0 HR0 HN0 KRE KCU
  refine rangeFunc_ix (n := 6) rfl (by omega) (gf := 68) (lb := #[.pointer (some ⟨Wb.heap.size + 1 + 1, 0, none⟩), .pointer (some ⟨Wb.heap.size + 1 + 1 + 1, 0, none⟩)]) rfl trivial (enters_of Try.func68 (by kernel_rfl) rfl) (N := ((goneL q cum).map En.p).length) (enc := encP ((goneL q cum).map En.p)) (fun _ => rfl)
    (InX ((goneL q cum).map En.p) [1, 2]) (fun _ => InOwn (Wb.heap.size + 1 + 1) (Wb.heap.size + 1 + 2) (Ag, k, cg) (some ⟨Wb.heap.size + 1, 0, none⟩, 2, 2) ((goneL q cum).map En.p) [1, 2]) (fun _ _ => True)
    (SmI Wb (Ag, k, cg) now (goneL q cum) mo) (fun _ _ => False)
    (in1_seq (6 - 1) (by omega) _ _ _ _ ((goneL q cum).map En.p) [1, 2] (by rw [hgl]; omega) (by decide) _ _)
    (fun i A B st h => h.st st hs1) (fun _ _ _ _ h => h)
    (fun i A B st h => by
      obtain ⟨p, y, h1, h2, h3⟩ := h
      exact ⟨p, y, h1, st.cell h2, h3⟩)
    (fun _ _ _ _ _ _ _ _ _ _ _ _ _ _ => trivial)
    (fun i A h => (HES.out.step h.bl).own h.ib)
    (fun i A hi h hx => by
      obtain ⟨e, he, _⟩ := ES.get (goneL q cum) hi
      have hne := fun hx' => hx (((HES.out.step h.bl).x he).2 hx')
      have h1 : ¬ ((e.st = 1 ∨ e.st = 2) ∧ e.sn = 1) := fun hc => hne (by rcases hc.1 with hc | hc <;> rw [hc] <;> decide)
      exact ⟨h.bl, h.ib, by rw [smp_next he, if_neg h1]; exact h.rs⟩)
    J0 ?round ?done (fun _ _ _ _ h _ => h.elim)
  case round =>
    rintro l i A hl hi hJ hx
    obtain ⟨e, he, hge⟩ := ES.get (goneL q cum) hi
    have hst := ((HES.out.step hJ.bl).x he).1 hx
    simp only [Array.zip, encP]
    rw [hge]
    have HI := keep hi
    have HE := keep he
    have HST := keep (show e.st = 1 ∨ e.st = 2 by simpa using hst)
    clear hJ hx he hge hi hst
    gi_wp2
    refine ⟨by first | rfl | trivial, fun A2 hJ2 hx2 => ?_⟩
    have hes := HES.out.step hJ2.bl
    have hme := List.mem_of_getElem? HE.out
    have c14 : A2.cell? ⟨e.p, 14, none⟩ = some (Value.int .i64 e.sn) := hes.at_ hme 14 _ rfl
    have c15 : A2.cell? ⟨e.p, 15, none⟩ = some (Value.int .i64 e.la) := hes.at_ hme 15 _ rfl
    have cn : A2.cell? ⟨w.heap.size, 0, none⟩ = some (Value.int .i64 now) := upd_cell ((Kpt.of_below (ok := fun _ => True) (show Below Wb.heap.size Wb A2 from hJ2.bl)).cells _ _ _ _ trivial HNB.out) 0 _ rfl
    obtain ⟨r0, r1, r2, r3⟩ := hJ2.rs.cells
    obtain ⟨g0, g1, g2, g3⟩ := hJ2.rs.fzs
    have HJ2 := keep hJ2
    clear hJ2 hx2 hes hme
    by_cases hsn : e.sn = 1
    · have HF2 : Hid (SmI Wb (Ag, k, cg) now (goneL q cum) mo (i + 1) (A2.setCell ⟨Wb.heap.size, 1, none⟩ (.int .i64 (IntKind.i64.wrap (now - e.la))))) := keep (by
        have hp := part_set A2 Wb.heap.size 1 (.int .i64 (IntKind.i64.wrap (now - e.la)))
        refine ⟨HJ2.out.bl.setCell (Nat.le_refl _) _, HJ2.out.ib.kept (Kpt.of_part (ok := fun i => ¬ i = Wb.heap.size) hp fun _ h => h) (by omega) (by omega) (by omega), ?_⟩
        rw [smp_next HE.out, if_pos ⟨HST.out, hsn⟩]
        exact heap_setCell_same A2 Wb.heap.size 1 _ _ _ HJ2.out.rs)
      rw [hsn] at c14
      have hpl := HO.out _ (HQ.out.en e (List.mem_of_mem_take (by rw [HGL.out]; exact List.mem_of_getElem? HE.out))).2.1
      have hwb := HWB.out
      have HS8 : Hid (((A2.drew.setCell ⟨Wb.heap.size, 1, none⟩ (.int .i64 (IntKind.i64.wrap (now - e.la)))).cell? ⟨e.p, 15, none⟩ = some (.int .i64 e.la)) ∧ ((A2.drew.setCell ⟨Wb.heap.size, 1, none⟩ (.int .i64 (IntKind.i64.wrap (now - e.la)))).cell? ⟨w.heap.size, 0, none⟩ = some (.int .i64 now))) := keep
        ⟨(World.cell?_of_block (w := A2) (a := ⟨e.p, 15, none⟩) (Below.heap_setCell A2.drew ⟨Wb.heap.size, 1, none⟩ _ e.p (by show e.p ≠ Wb.heap.size; omega))).trans c15, (World.cell?_of_block (w := A2) (a := ⟨w.heap.size, 0, none⟩) (Below.heap_setCell A2.drew ⟨Wb.heap.size, 1, none⟩ _ w.heap.size (by show w.heap.size ≠ Wb.heap.size; omega))).trans cn⟩
      clear hpl hwb
      gi_wp2
      refine wpIn_region_held (S := fun w' => w'.cell? ⟨e.p, 15, none⟩ = some (.int .i64 e.la) ∧ w'.cell? ⟨w.heap.size, 0, none⟩ = some (.int .i64 now)) hmix (by kernel_rfl) (by rintro ⟨_, _, hh⟩; exact hh) ⟨c15, cn⟩ (fun hHeld => ?_)
      refine wpAnyH_take (i := 0) (oi := ⟨some 35, _, _, _, _, _⟩) (v := ?va1x0) rfl (by kernel_rfl) (by kernel_rfl) (by kernel_rfl) (fun _ _ _ h => h) (Or.inl ⟨by rfl, ?hya1x0⟩) (by assumption) ?resta1x0
      case hya1x0 => (rintro wz ⟨hS1, hS2⟩; go_simp <;> (try with_reducible rfl))
      try simp only [Act.put, List.setIfInBounds_toArray, List.set_cons_zero, List.set_cons_succ]
      refine wpAnyH_take (i := 1) (oi := ⟨some 36, _, _, _, _, _⟩) (v := ?va2x1) rfl (by kernel_rfl) (by kernel_rfl) (by kernel_rfl) (fun _ _ _ h => h) (Or.inl ⟨by rfl, ?hya2x1⟩) (by assumption) ?resta2x1
      case hya2x1 => (rintro wz ⟨hS1, hS2⟩; go_simp <;> (try with_reducible rfl))
      try simp only [Act.put, List.setIfInBounds_toArray, List.set_cons_zero, List.set_cons_succ]
      refine wpAnyH_take (i := 2) (oi := ⟨some 37, _, _, _, _, _⟩) (v := ?va3x2) rfl (by kernel_rfl) (by kernel_rfl) (by kernel_rfl) (fun _ _ _ h => h) (Or.inl ⟨by rfl, ?hya3x2⟩) (by assumption) ?resta3x2
      case hya3x2 => (rintro wz ⟨hS1, hS2⟩; go_simp <;> (try with_reducible rfl))
      try simp only [Act.put, List.setIfInBounds_toArray, List.set_cons_zero, List.set_cons_succ]
      refine wpAnyH_take (i := 3) (oi := ⟨some 38, _, _, _, _, _⟩) (v := ?va4x3) rfl (by kernel_rfl) (by kernel_rfl) (by kernel_rfl) (fun _ _ _ h => h) (Or.inl ⟨by rfl, ?hya4x3⟩) (by assumption) ?resta4x3
      case hya4x3 => (rintro wz ⟨hS1, hS2⟩; go_simp <;> (try with_reducible rfl))
      try simp only [Act.put, List.setIfInBounds_toArray, List.set_cons_zero, List.set_cons_succ]
      refine wpAnyH_take (i := 4) (oi := ⟨some 39, _, _, _, _, _⟩) (v := ?va5x4) rfl (by kernel_rfl) (by kernel_rfl) (by kernel_rfl) (fun _ _ _ h => h) (Or.inl ⟨by rfl, ?hya5x4⟩) (by assumption) ?resta5x4
      case hya5x4 => (rintro wz ⟨hS1, hS2⟩; go_simp <;> (try with_reducible rfl))
      try simp only [Act.put, List.setIfInBounds_toArray, List.set_cons_zero, List.set_cons_succ]
      refine wpAnyH_take (i := 5) (oi := ⟨some 40, _, _, _, _, _⟩) (v := ?va6x5) rfl (by kernel_rfl) (by kernel_rfl) (by kernel_rfl) (fun _ _ _ h => h) (Or.inl ⟨by rfl, ?hya6x5⟩) (by assumption) ?resta6x5
      case hya6x5 => (rintro wz ⟨hS1, hS2⟩; go_simp <;> (try with_reducible rfl))
      try simp only [Act.put, List.setIfInBounds_toArray, List.set_cons_zero, List.set_cons_succ]
      refine wpAnyH_take (i := 6) (oi := ⟨some 41, _, _, _, _, _⟩) (v := ?va7x6) rfl (by kernel_rfl) (by kernel_rfl) (by kernel_rfl) (fun _ _ _ h => h) (Or.inl ⟨by rfl, ?hya7x6⟩) (by assumption) ?resta7x6
      case hya7x6 => (rintro wz ⟨hS1, hS2⟩; go_simp <;> (try with_reducible rfl))
      try simp only [Act.put, List.setIfInBounds_toArray, List.set_cons_zero, List.set_cons_succ]
      refine wpAnyH_ready (rs := [7]) (by kernel_rfl) (by simp) (AllReadyH.cons (o := ⟨none, _, _, _, _, _⟩) rfl (fun K hK => ?_) AllReadyH.nil)
      go_simp
      refine hK.out _ _ HS8.out (fun hHeld => ?_)
      clear hK K
      try simp only [Act.put, List.setIfInBounds_toArray, List.set_cons_zero, List.set_cons_succ]
      refine wpAnyH_done (by kernel_rfl) ?_ _
      gi_wp2
      exact ⟨((KeepsOthers.setCell _ _ _).trans (KeepsOthers.drew _)).from _, trivial, HF2.out.st (StN.drew Wb.heap.size _) (Nat.le_refl _)⟩
    · have HF2 : Hid (SmI Wb (Ag, k, cg) now (goneL q cum) mo (i + 1) A2) := keep ⟨HJ2.out.bl, HJ2.out.ib, by rw [smp_next HE.out, if_neg (fun hc => hsn hc.2)]; exact HJ2.out.rs⟩
      gi_wp2
      exact ⟨(KeepsOthers.refl A2).from _, trivial, HF2.out⟩
  case done =>
    intro D A hD hJ hDd
    rw [List.length_map] at hJ
    obtain ⟨sa, hsa⟩ : ∃ sa, smp now (goneL q cum) (goneL q cum).length = sa := ⟨_, rfl⟩
    have HSA := keep hsa
    have hrs := hJ.rs
    rw [hsa] at hrs
    have hpA : Part (fun _ => False) Wb A := Part.of_below _ hJ.bl
    have AW := keep (show AkW w G (cutG G k) q.nx q.mg (goneL q cum) (Ag, k, cg) Wb.heap.size D (q.es.drop k) 0 sa false mo A from
      ⟨hqb.out.step hJ.bl, HPW.out.trans hpA fun i hi => hi.elim, HES.out.step hJ.bl, hrs, HRB.out.step hJ.bl, hDd⟩)
    have hL : ∀ e ∈ q.es.drop k, G.O e.p ∧ e.p < w.heap.size ∧ (∃ cs t fr, A.heap[e.p]? = some (.cells cs t fr)) ∧ ∀ x ∈ goneL q cum, x.p ≠ e.p := fun e he => by
      have h1 := (HQ.out.en e (List.mem_of_mem_drop he)).2.1
      refine ⟨h1, HO.out _ h1, ⟨_, _, _, ((AW.out.qa.en e he).1.blk)⟩, fun x hx => ?_⟩
      rw [← HGL.out] at hx
      exact gone_left HQ.out.nd e he x hx
    have KC := keep (show Calls Try.prog 45 #[.pointer (some ⟨G.b, 0, none⟩), .int .u32 cum, .slice b1 b2 b3] A fun e w' => ∃ s, e = .returned (.slice s.1 s.2.1 s.2.2) ∧ ComP A (cutG G k) (cutQ q k) bl s w' from
      come_any (q := cutQ q k) AW.out.qa cum (b1, b2, b3) bl (lr_apart HLR.out AW.out.pt HAP.out) hn HOK.out (come_dist HNU.out (by have := AW.out.qa.le; exact this) HFL.out))
    have HL := keep hL
    clear hJ hDd J0 hrs hpA hsa hL
    gi_wp2_with (gi_at_call 45; refine (callsIn_wide.2 KC.out).mono ?_; rintro e W4 ⟨⟨t1, t2, t3⟩, rfl, hcm⟩; replace hcm := keep hcm)
    have hcl : camG bl (cutQ q k).es (cutQ q k).es.length = camL q cum bl := by
      unfold camL leftL
      rw [HK.out]
      rfl
    have hmid : (cutQ q k).es.mapIdx (comeE bl) = midL q cum bl := by
      unfold midL leftL
      rw [HK.out]
      rfl
    have hcs := com_es hcm.out
    rw [hcl] at hcs
    have HT2 := keep (show t2 = (camL q cum bl).length from hcs.sn)
    have hc5 : (camL q cum bl).length ≤ 1024 := by
      have h1 := camG_len bl (cutQ q k).es (cutQ q k).es.length
      rw [hcl] at h1
      have h2 : (cutQ q k).es.length ≤ q.es.length := by
        show (q.es.drop k).length ≤ _
        rw [List.length_drop]
        omega
      omega
    have A4 : AkW w G (cutG G k) q.nx q.mg (goneL q cum) (Ag, k, cg) Wb.heap.size D (midL q cum bl) 0 sa false mo W4 := by
      have h1 := AW.out.part (L := (cutQ q k).es) hcm.out.pe hcm.out.qa HL.out (by have := HWB.out; omega) (fun a ea => (HGA.out a ea).1)
      rwa [hmid] at h1
    have hgl5 : (goneL q cum).length ≤ 1024 := by rw [List.length_map] at hgl; omega
    have HCS := keep hcs
    have HA4 := keep A4
    have HG5 := keep hgl5
    have HC5 := keep hc5
    have hba : Below W4.heap.size W4 (((W4.alloc (.cells ([1, 2].map (Value.int .i64)).toArray 3)).alloc (.cells #[.slice Ag k cg] 54)).alloc (.cells #[.slice (some ⟨W4.heap.size, 0, none⟩) 2 2] 115)) := below_in W4 _ _ _
    have KS := sum_in (A4.gn.step hba) (InB.start W4 W4.heap.size rfl (Ag, k, cg) [1, 2]) hgl5 (by decide)
    obtain ⟨x1, hx1⟩ : ∃ x, octs (goneL q cum) [1, 2] = x := ⟨_, rfl⟩
    obtain ⟨x2, hx2⟩ : ∃ x, octsA (camL q cum bl) = x := ⟨_, rfl⟩
    have hy1 := sumF_le (octF (goneL q cum) [1, 2]) (octF_le fun e he => (A4.gn.en e he).2) (goneL q cum).length
    have hy2 := sumF_le (octA (camL q cum bl)) (octA_le fun e he => (hcs.en e he).2) (camL q cum bl).length
    rw [show sumF (octF (goneL q cum) [1, 2]) (goneL q cum).length = x1 from hx1] at hy1
    rw [show sumF (octA (camL q cum bl)) (camL q cum bl).length = x2 from hx2] at hy2
    have hxx : (x1 : Int) + (x2 : Int) ≤ 3000000000 := by omega
    have hx0 : 0 ≤ (x1 : Int) + (x2 : Int) := by omega
    rw [hx1] at KS
    replace KS := keep KS
    have HBA := keep hba
    have HX1 := keep hx1
    have HX2 := keep hx2
    have HFT := keep (show Fence.wide.fn 40 from trivial)
    clear A4 hcs hy1 hy2 hx1 hgl5 hc5 KC hmid hcl hba
    have hO1 : ∀ i, (cutG G k).O i → i < w.heap.size := HO.out
    have hF1 : ∀ i, (cutG G k).F i → i < w.heap.size := HF.out
    have hgI : InF (fun i => i ≠ Wb.heap.size) (Ag, k, cg).1 := fun a ea e => by have := (HGA.out a ea).2; omega
    have hge : ∀ x ∈ goneL q cum, x.p < w.heap.size := fun x hx => by
      rw [← HGL.out] at hx
      exact HO.out _ (HQ.out.en x (List.mem_of_mem_take hx)).2.1
    have HA8 := keep (fun (W7 : World) (hb : Below W4.heap.size W4 W7) => (HA4.out.step hb).set hO1 hF1 HWB.out hgI hge 0 (.int .i64 ((x1 : Int) + (x2 : Int))) (b' := (x1 : Int) + (x2 : Int)) (sa' := sa) (lo' := false) (mo' := mo) rfl)
    have HSET := keep (And.intro hO1 (And.intro hF1 (And.intro hgI hge)))
    have hne1 : w.heap.size + 1 ≠ Wb.heap.size := by have := HWB.out; omega
    have hne2 : Wb.heap.size ≠ w.heap.size + 1 := by have := HWB.out; omega
    have hDD : Wb.heap.size ≤ D := Nat.le_trans hs1 hD
    have HDD := keep hDD
    have hout : ∀ lo, (if camL q cum bl = [] then false else missL (lasI q cum bl) (midL q cum bl) (midL q cum bl).length) = lo → ackOut (ackR q cum bl now) true = .tuple #[.agg #[.int .i64 ((x1 : Int) + (x2 : Int)), .int .i64 sa, .bool lo, .bool mo], .bool true] := fun lo hlo => by
      unfold ackOut ackR
      dsimp only
      rw [hlo, HX1.out, HX2.out, HSA.out, HK.out, HMO.out, Int.natCast_add]
    have HOUT := keep hout
    clear hO1 hF1 hgI hge hDD hout hx2
    by_cases hcam : camL q cum bl = []
    · have ht0 := HT2.out
      rw [hcam] at ht0
      obtain rfl : t2 = 0 := ht0
      have HO2 := keep (HOUT.out false (if_pos hcam))
      have HE2 : Hid (ackE q cum bl = midL q cum bl) := keep (by unfold ackE; rw [if_pos hcam])
      refine (callsIn_wide.2 (in_any _ _ _ _ _ _ _)).mono ?_
      rintro e w' ⟨rfl, rfl⟩
      dsimp only
      try simp only [World.size_alloc]
      gi_wp2_with (first
        | (gi_at_call 46; refine (callsIn_wide.2 KS.out).mono ?_; rintro e W6 ⟨rfl, hb6⟩; clear KS
           have KV := sum_values (HCS.out.step (up (HBA.out.trans (hb6.mono HBA.out.size)) (below_lay W6 (.cells #[.slice t1 0 t3] 54)))) (heap_alloc_new W6 (.cells #[.slice t1 0 t3] 54)) HC5.out
           rw [HX2.out] at KV
           replace KV := keep KV
           have HB6 := keep (up (HBA.out.trans (hb6.mono HBA.out.size)) (below_lay W6 (.cells #[.slice t1 0 t3] 54)))
           clear hb6)
        | (gi_at_call 47; refine (callsIn_wide.2 (Values_any _ _ _ _)).mono ?_; rintro e w' ⟨rfl, rfl⟩)
        | (gi_at_call 46; refine (callsIn_wide.2 KV.out).mono ?_; rintro e W7 ⟨rfl, hb7⟩
           have HB7 := keep (HB6.out.trans (hb7.mono HB6.out.size))
           clear hb7 KV
           obtain ⟨r0, r1, r2, r3⟩ := (HA4.out.step HB7.out).rs.cells
           obtain ⟨g0, g1, g2, g3⟩ := (HA4.out.step HB7.out).rs.fzs
           obtain ⟨v0, v1, v2, v3⟩ := (HA4.out.step HB7.out).rb.cells
           obtain ⟨u0, u1, u2, u3⟩ := (HA4.out.step HB7.out).rb.fzs))
      obtain ⟨d1, d2, d3, d4⟩ := (HA8.out _ HB7.out).fin HSET.out.1 HSET.out.2.1 (N := Wb.heap.size) (by have := HWB.out; omega) HDD.out _ rfl
      refine ⟨by simp, .inl ⟨_, _, rfl, run_takeDeferred d1, ?_⟩⟩
      rw [HO2.out]
      refine ⟨_, ret_res rfl _ _ (w.heap.size + 1) _ _ _ _ rfl d2, rfl, ⟨?_, ?_⟩⟩
      · rw [HK.out]
        show QA _ (cutG G k) ⟨ackE q cum bl, q.nx, q.mg⟩
        rw [HE2.out]
        exact d3
      · rw [HK.out]
        exact ⟨rfl, d4, fun _ h => .inl h, fun _ h => .inl h⟩
    · obtain ⟨m, rfl⟩ : ∃ m, t2 = m + 1 := by
        have h1 := HT2.out
        cases t2 with
        | zero => exact absurd (List.eq_nil_of_length_eq_zero h1.symm) hcam
        | succ m => exact ⟨m, rfl⟩
      have hcl : camG bl (cutQ q k).es (cutQ q k).es.length = camL q cum bl := by
        unfold camL leftL
        rw [HK.out]
        rfl
      have hli : lastI bl (cutQ q k).es (cutQ q k).es.length = lasI q cum bl := by
        unfold lasI leftL
        rw [HK.out]
        rfl
      obtain ⟨e, e1, e2, e3⟩ := cam_last (bl := bl) (es := (cutQ q k).es) (k := (cutQ q k).es.length) (by rw [hcl]; exact hcam)
      rw [hcl, ← HT2.out, Nat.add_sub_cancel] at e3
      rw [hli] at e1 e2
      obtain ⟨b5, o5, hA5, hb5, hc5⟩ := HCS.out.ptr e3
      dsimp only at hA5 hc5
      subst hA5
      have hel := List.mem_of_getElem? e2
      have hnep : e.p ≠ Wb.heap.size := by
        have := (HL.out e hel).2.1
        have := HWB.out
        omega
      have hne5 : b5 ≠ Wb.heap.size := by
        have h1 := (own_inf hcm.out.row ⟨b5, o5, none⟩ rfl).1
        have h2 := (Array.getElem?_eq_some_iff.1 AW.out.rs).1
        dsimp only at h1
        omega
      have ca2 : W4.cell? ⟨e.p, 2, none⟩ = some (.int .u32 e.c.a) := HCS.out.at_ (List.mem_of_getElem? e3) 2 _ rfl
      have HCA := keep (And.intro hc5 ca2)
      have hmid : (cutQ q k).es.mapIdx (comeE bl) = midL q cum bl := by
        unfold midL leftL
        rw [HK.out]
        rfl
      have hless : ∀ (i : Nat) (x : En), (midL q cum bl)[i]? = some x → less32 x.c.a e.c.a = decide (i < lasI q cum bl) := fun i x hx => by
        rw [← hmid, List.getElem?_mapIdx] at hx
        cases hy : (cutQ q k).es[i]? with
        | none => rw [hy] at hx; cases hx
        | some y =>
          rw [hy] at hx
          injection hx with hx
          have hl1 := AW.out.qa.le
          have hl2 : (cutQ q k).es.length ≤ 1024 := hl1
          have hi := (List.getElem?_eq_some_iff.1 hy).1
          rw [← hx, comeE_c, HNU.out i y hy, HNU.out _ e e2]
          exact less_of _ _ _ (by omega) (by omega)
      have HE2 : Hid (ackE q cum bl = (midL q cum bl).mapIdx (missE (lasI q cum bl))) := keep (by unfold ackE; rw [if_neg hcam])
      obtain ⟨lo, hlo⟩ : ∃ lo, missL (lasI q cum bl) (midL q cum bl) (midL q cum bl).length = lo := ⟨_, rfl⟩
      have HO2 := keep (HOUT.out lo (by rw [if_neg hcam]; exact hlo))
      have KM := keep (fun (W7 : World) (hb : Below W4.heap.size W4 W7) => (show Calls Try.prog 48 #[.pointer (some ⟨G.b, 0, none⟩), .int .u32 e.c.a] (W7.setCell ⟨Wb.heap.size, 0, none⟩ (.int .i64 ((x1 : Int) + (x2 : Int)))) fun e w' => e = .returned (.bool lo) ∧ Hid (AkW w G (cutG G k) q.nx q.mg (goneL q cum) (Ag, k, cg) Wb.heap.size D (ackE q cum bl) ((x1 : Int) + (x2 : Int)) sa false mo w') from by
        have A8 := HA8.out W7 hb
        refine (miss_any (q := ⟨midL q cum bl, q.nx, q.mg⟩) A8.qa e.c.a (lasI q cum bl) hless).mono ?_
        rintro e' w' ⟨rfl, hmis⟩
        refine ⟨by rw [← hlo], keep ?_⟩
        rw [HE2.out]
        refine A8.part (L := midL q cum bl) hmis.pe hmis.qa (fun x hx => ?_) (by have := HWB.out; omega) (fun a ea => (HGA.out a ea).1)
        have hx2 := hx
        rw [← hmid] at hx2
        obtain ⟨i, hi⟩ := List.getElem?_of_mem hx2
        rw [List.getElem?_mapIdx] at hi
        cases hy : (cutQ q k).es[i]? with
        | none => rw [hy] at hi; cases hi
        | some y =>
          rw [hy] at hi
          injection hi with hi
          have hp : x.p = y.p := by rw [← hi]; exact comeE_p bl i y
          have hy1 := HL.out y (List.mem_of_getElem? hy)
          rw [hp]
          refine ⟨hy1.1, hy1.2.1, ?_, hy1.2.2.2⟩
          rw [← hp]
          exact ⟨_, _, _, (A8.qa.en x hx).1.blk⟩))
      have hm2 : (m : Int) ≤ 1023 := by have h1 := HT2.out; have h2 := HC5.out; omega
      have hm0 : 0 ≤ (m : Int) := by omega
      clear hless hmid e2 e3 hel hcl hli e1 hc5 ca2 hb5 hlo AW hcm
      refine (callsIn_wide.2 (in_any _ _ _ _ _ _ _)).mono ?_
      rintro e w' ⟨rfl, rfl⟩
      dsimp only
      try simp only [World.size_alloc]
      gi_wp2_with (first
        | (gi_at_call 46; refine (callsIn_wide.2 KS.out).mono ?_; rintro e W6 ⟨rfl, hb6⟩; clear KS
           have KV := sum_values (HCS.out.step (up (HBA.out.trans (hb6.mono HBA.out.size)) (below_lay W6 (.cells #[.slice (some ⟨b5, o5, none⟩) (m + 1) t3] 54)))) (heap_alloc_new W6 (.cells #[.slice (some ⟨b5, o5, none⟩) (m + 1) t3] 54)) HC5.out
           rw [HX2.out] at KV
           replace KV := keep KV
           have HB6 := keep (up (HBA.out.trans (hb6.mono HBA.out.size)) (below_lay W6 (.cells #[.slice (some ⟨b5, o5, none⟩) (m + 1) t3] 54)))
           clear hb6)
        | (gi_at_call 47; refine (callsIn_wide.2 (Values_any _ _ _ _)).mono ?_; rintro e w' ⟨rfl, rfl⟩)
        | (gi_at_call 46; refine (callsIn_wide.2 KV.out).mono ?_; rintro e W7 ⟨rfl, hb7⟩
           have HB7 := keep (HB6.out.trans (hb7.mono HB6.out.size))
           clear hb7 KV
           obtain ⟨r0, r1, r2, r3⟩ := (HA4.out.step HB7.out).rs.cells
           obtain ⟨g0, g1, g2, g3⟩ := (HA4.out.step HB7.out).rs.fzs
           obtain ⟨v0, v1, v2, v3⟩ := (HA4.out.step HB7.out).rb.cells
           obtain ⟨u0, u1, u2, u3⟩ := (HA4.out.step HB7.out).rb.fzs
           have z5 := (Kpt.of_below (ok := fun _ => True) HB7.out).cell trivial HCA.out.1
           have z6 := (Kpt.of_below (ok := fun _ => True) HB7.out).cell trivial HCA.out.2)
        | (gi_at_call 48; refine (callsIn_wide.2 (KM.out _ HB7.out)).mono ?_; rintro e9 W9 ⟨rfl, HA9⟩
           clear r0 r1 r2 r3 g0 g1 g2 g3 v0 v1 v2 v3 u0 u1 u2 u3
           obtain ⟨r0, r1, r2, r3⟩ := HA9.out.rs.cells
           obtain ⟨g0, g1, g2, g3⟩ := HA9.out.rs.fzs
           obtain ⟨v0, v1, v2, v3⟩ := HA9.out.rb.cells
           obtain ⟨u0, u1, u2, u3⟩ := HA9.out.rb.fzs))
      obtain ⟨d1, d2, d3, d4⟩ := (HA9.out.set HSET.out.1 HSET.out.2.1 HWB.out HSET.out.2.2.1 HSET.out.2.2.2 2 (.bool lo) (b' := (x1 : Int) + (x2 : Int)) (sa' := sa) (lo' := lo) (mo' := mo) rfl).fin HSET.out.1 HSET.out.2.1 (N := Wb.heap.size) (by have := HWB.out; omega) HDD.out _ rfl
      refine ⟨by simp, .inl ⟨_, _, rfl, run_takeDeferred d1, ?_⟩⟩
      rw [HO2.out]
      refine ⟨_, ret_res rfl _ _ (w.heap.size + 1) _ _ _ _ rfl d2, rfl, ⟨?_, ?_⟩⟩
      · rw [HK.out]
        exact d3
      · rw [HK.out]
        exact ⟨rfl, d4, fun _ h => .inl h, fun _ h => .inl h⟩
end
end Go.Proofs.Ytffjdknmfmlfnaa
