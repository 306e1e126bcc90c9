/- KAN of the stage: texts Q42, joined. -/
import Derived.Test.YtffjdknmfmlfnaaKAM
set_option linter.unusedSimpArgs false
set_option linter.unusedVariables false
namespace Go.Proofs.Ytffjdknmfmlfnaa
section
open Go.RowKit Go.Maps
attribute [local go_sem] Oper.semAt_some

def setGv (mg : Nat → Mg) (m : Nat) : Nat → Mg := fun x => if x = m then ⟨(mg m).un, (mg m).tr, true⟩ else mg x
def exC (now : Int) (mg : Nat → Mg) (e : En) : Bool := (e.st == 0 || e.st == 1 || e.st == 2) && !(mg e.m).gv && expB now e (mg e.m)
/-- The messages behind the first i entries. -/
def exM (now : Int) (es : List En) (mg : Nat → Mg) : Nat → Nat → Mg
  | 0 => mg
  | i + 1 => match es[i]? with | some e => if exC now (exM now es mg i) e = true then setGv (exM now es mg i) e.m else exM now es mg i | none => exM now es mg i
/-- How many were given up by them. -/
def exN (now : Int) (es : List En) (mg : Nat → Mg) : Nat → Nat
  | 0 => 0
  | i + 1 => exN now es mg i + match es[i]? with | some e => if exC now (exM now es mg i) e = true then 1 else 0 | none => 0
theorem exN_le (now : Int) (es : List En) (mg : Nat → Mg) : ∀ i, exN now es mg i ≤ i
  | 0 => Nat.le_refl _
  | i + 1 => by
    have := exN_le now es mg i
    rw [exN]
    split
    · split <;> omega
    · omega
theorem exM_yes {now : Int} {es : List En} {mg : Nat → Mg} {i : Nat} {e : En} (he : es[i]? = some e) (h : exC now (exM now es mg i) e = true) : exM now es mg (i + 1) = setGv (exM now es mg i) e.m ∧ exN now es mg (i + 1) = exN now es mg i + 1 := by
  constructor
  · rw [exM, he]
    dsimp only
    rw [if_pos h]
  · rw [exN, he]
    dsimp only
    rw [if_pos h]
theorem exM_no {now : Int} {es : List En} {mg : Nat → Mg} {i : Nat} {e : En} (he : es[i]? = some e) (h : ¬ exC now (exM now es mg i) e = true) : exM now es mg (i + 1) = exM now es mg i ∧ exN now es mg (i + 1) = exN now es mg i := by
  constructor
  · rw [exM, he]
    dsimp only
    rw [if_neg h]
  · rw [exN, he]
    dsimp only
    rw [if_neg h]
    rfl
def gvE (mg : Nat → Mg) (e : En) : En := if (e.st = 0 ∨ e.st = 1 ∨ e.st = 2 ∨ e.st = 3) ∧ (mg e.m).gv = true then { e with st := 4 } else e
theorem LQ.start2 {w A : World} {G : Gq} {nx : Int} {S : Nat} {es : List En} {mg : Nat → Mg} (h : QA A G ⟨es, nx, mg⟩) (hp : Part G.O w A) (hS : A.heap.size = S) (sts : List Int) : LQ w G nx S sts (es.map En.p) es mg (((A.alloc (.cells (sts.map (Value.int .i64)).toArray 3)).alloc (.cells #[.slice G.s.1 G.s.2.1 G.s.2.2] 54)).alloc (.cells #[.slice (some ⟨S, 0, none⟩) sts.length sts.length] 115)) :=
  ⟨h.step (below_in A _ _ _), rfl, InB.start A S hS G.s sts, hp.trans (Part.of_below (fun _ => False) (below_in A _ _ _)) fun _ h => h.elim⟩
theorem KeepsOthers.drewN (A : World) : ∀ k, KeepsOthers A (A.drewN k)
  | 0 => KeepsOthers.refl A
  | k + 1 => by
    have h := KeepsOthers.drewN A k
    exact h.trans (KeepsOthers.drew (A.drewN k))
structure ExJ (w : World) (G : Gq) (q : Qm) (now : Int) (i : Nat) (A : World) : Prop where
  lq : LQ w G q.nx (w.heap.size + 2) [0, 1, 2] (q.es.map En.p) q.es (exM now q.es q.mg i) A
  tb : A.heap[w.heap.size]? = some (.cells #[.int .i64 now] 3 (0, 0))
  nb : A.heap[w.heap.size + 1]? = some (.cells #[.int .i64 (exN now q.es q.mg i : Int)] 3 (0, 0))
structure ExK (w : World) (G : Gq) (q : Qm) (mg : Nat → Mg) (n : Nat) (S D : Nat) (i : Nat) (A : World) : Prop where
  lq : LQ w G q.nx S [0, 1, 2, 3] (q.es.map En.p) (updL (fun _ => gvE mg) q.es i) mg A
  nb : A.heap[w.heap.size + 1]? = some (.cells #[.int .i64 (n : Int)] 3 (0, 0))
  df : A.heap[D]? = some (.deferred (some []))
theorem st012 {x : Int} (h : x ∈ [(0 : Int), 1, 2]) : (x == 0 || x == 1 || x == 2) = true := by
  simp only [List.mem_cons, List.not_mem_nil, or_false] at h
  rcases h with rfl | rfl | rfl <;> rfl
set_option maxRecDepth 100000 in
set_option maxHeartbeats 4000000 in
theorem Expire_any {w : World} {G : Gq} {q : Qm} (h : QA w G q) (now : Int) :
    Calls Try.prog 23 #[.pointer (some ⟨G.b, 0, none⟩), .int .i64 now] w fun e w' => e = .returned (.int .i64 ((exN now q.es q.mg q.es.length : Nat) : Int)) ∧ QA w' G ⟨q.es.map (gvE (exM now q.es q.mg q.es.length)), q.nx, exM now q.es q.mg q.es.length⟩ ∧ Ltr w G w' G := by
  have F1 : Fence.wide.fn 39 := trivial
  have F2 : Fence.wide.fn 44 := trivial
  have F3 : Fence.wide.fn 52 := trivial
  have HL := keep (fun W (hb : Below w.heap.size w W) => list_at G.b _ _ _ W (h.step hb).b0.1)
  have HO := keep h.olt
  have HF := keep h.flt
  have HQ := keep h
  have hle := h.le
  clear h
  obtain ⟨mg', hmg⟩ : ∃ m, exM now q.es q.mg q.es.length = m := ⟨_, rfl⟩
  obtain ⟨nn, hnn⟩ : ∃ n, exN now q.es q.mg q.es.length = n := ⟨_, rfl⟩
  rw [hmg, hnn]
  have HMN := keep (And.intro hmg hnn)
  clear hmg hnn
  refine (callsIn_wide (n := 5)).1 ?_
  refine callsIn_of_wp_marks Try.func23 rfl trivial ?_ rfl
  simp only [Try.ntmps23, List.size_toArray, List.length_cons, List.length_nil, Nat.reduceAdd, Nat.reduceSub, Array.replicate_succ, Array.replicate_zero, List.push_toArray, List.append_toArray, List.nil_append, List.cons_append]
  gi_wp2_with (first
    | (gi_at_call 39; refine (callsIn_wide.2 (HL.out _ (up (below_lay w _) (below_lay _ _)))).mono ?_; rintro e w' ⟨rfl, rfl⟩)
    | (gi_at_call 44; refine (callsIn_wide.2 (in_any _ _ _ _ _ _ _)).mono ?_; rintro e w' ⟨rfl, rfl⟩))
  generalize hW1 : World.alloc _ _ = W1
  have J0 : ExJ w G q now 0 W1 := by
    rw [← hW1]
    exact ⟨LQ.start HQ.out (up (below_lay w _) (below_lay _ _)) (by simp) [0, 1, 2], below_new (below_new (below_new (below_new (heap_new_at rfl)))), below_new (below_new (below_new (heap_new_at (by simp))))⟩
  have hs1 : w.heap.size ≤ W1.heap.size := J0.lq.pt.size
  clear hW1
  have hps : (q.es.map En.p).length = q.es.length := List.length_map _
  refine rangeFunc_ix (n := 5) rfl (by omega) (gf := 68) (lb := #[.pointer (some ⟨w.heap.size + 1 + 1 + 1, 0, none⟩), .pointer (some ⟨w.heap.size + 1 + 1 + 1 + 1, 0, none⟩)]) rfl trivial (enters_of Try.func68 (by kernel_rfl) rfl) (N := (q.es.map En.p).length) (enc := encP (q.es.map En.p)) (fun _ => rfl)
    (InX (q.es.map En.p) [0, 1, 2]) (fun _ => InOwn (w.heap.size + 2 + 1) (w.heap.size + 2 + 2) G.s (some ⟨w.heap.size + 2, 0, none⟩, 3, 3) (q.es.map En.p) [0, 1, 2]) (fun _ _ => True)
    (ExJ w G q now) (fun _ _ => False)
    (in1_seq (5 - 1) (by omega) _ _ _ _ (q.es.map En.p) [0, 1, 2] (by rw [hps]; exact hle) (by decide) _ _)
    (fun i A B st h => ⟨h.lq.st st hs1, st.cells h.tb, st.cells h.nb⟩) (fun _ _ _ _ h => h) (fun i A B st h => in_x st h)
    (fun _ _ _ _ _ _ _ _ _ _ _ _ _ _ => trivial)
    (fun i A h => h.lq.own)
    (fun i A hi h hx => by
      obtain ⟨e, he, _⟩ := h.lq.get hi
      have hne := fun hh => hx ((h.lq.x he).2 hh)
      have hno : ¬ exC now (exM now q.es q.mg i) e = true := fun hc => hne (by
        unfold exC at hc
        rw [Bool.and_eq_true, Bool.and_eq_true, Bool.or_eq_true, Bool.or_eq_true, beq_iff_eq, beq_iff_eq, beq_iff_eq] at hc
        simp only [List.mem_cons, List.not_mem_nil, or_false]
        rcases hc.1.1 with (h1 | h1) | h1
        · exact .inl h1
        · exact .inr (.inl h1)
        · exact .inr (.inr h1))
      obtain ⟨e1, e2⟩ := exM_no he hno
      exact ⟨by rw [e1]; exact h.lq, h.tb, by rw [e2]; exact h.nb⟩)
    J0 ?round ?done (fun _ _ _ _ h _ => h.elim)
  case round =>
    rintro l i A hl hi hJ hx
    obtain ⟨e, he, hge⟩ := hJ.lq.get hi
    have hst := (hJ.lq.x he).1 hx
    simp only [Array.zip, encP]
    rw [hge]
    have HI := keep hi
    have HE := keep he
    have HST := keep (st012 hst)
    clear hJ hx he hge hi hst
    gi_wp2
    refine ⟨by first | rfl | trivial, fun A2 hJ2 hx2 => ?_⟩
    have he := HE.out
    have hea := hJ2.lq.qa.en e (List.mem_of_getElem? he)
    obtain ⟨c12, c13, c14, _, _⟩ := hea.1.c12
    obtain ⟨m0, m1, m2, f2⟩ := hea.2.2.1.at_
    have cn := upd_cell hJ2.nb 0 _ rfl
    have fn' := upd_fz hJ2.nb 0
    have ct := upd_cell hJ2.tb 0 _ rfl
    have hne : e.m ≠ w.heap.size := by have := HO.out _ hea.2.2.2; omega
    have hne1 : e.m ≠ w.heap.size + 1 := by have := HO.out _ hea.2.2.2; omega
    have hn0 : (0 : Int) ≤ (exN now q.es q.mg i : Int) := by omega
    have hn1 : (exN now q.es q.mg i : Int) ≤ 1024 := by
      have := exN_le now q.es q.mg i
      have := HI.out
      omega
    have HJ := keep hJ2
    have HMG := keep (show ∀ g, exM now q.es q.mg i e.m = g → exC now (exM now q.es q.mg i) e = (!g.gv && expB now e g) from fun g hg => by
      subst hg
      unfold exC
      rw [HST.out, Bool.true_and])
    obtain ⟨g, hg⟩ : ∃ g, exM now q.es q.mg i e.m = g := ⟨_, rfl⟩
    have HC := keep (HMG.out g hg)
    have HG := keep hg
    dsimp only at m0 m1 m2 hea
    rw [hg] at m0 m1 m2
    obtain ⟨un, tr, gv⟩ := g
    dsimp only at m0 m1 m2
    clear hJ2 hx2 he hg HMG hea
    cases gv with
    | true =>
      obtain ⟨e1, e2⟩ := exM_no HE.out (by rw [HC.out]; simp)
      have HE1 := keep (And.intro e1 e2)
      clear e1 e2
      gi_wp2
      exact ⟨(KeepsOthers.refl A2).from _, trivial, ⟨by rw [HE1.out.1]; exact HJ.out.lq, HJ.out.tb, by rw [HE1.out.2]; exact HJ.out.nb⟩⟩
    | false =>
      obtain ⟨r, hr⟩ : ∃ r, expB now e ⟨un, tr, false⟩ = r := ⟨_, rfl⟩
      have KE := expired_at e.p e.m now e.st e.sn un tr A2 _ _ _ _ _ rfl rfl rfl rfl rfl c12 c13 c14 m0 m1
      have hr2 : ((decide (0 ≤ un) && decide (un < now)) || (decide (0 ≤ tr) && (e.st == 2) && decide (tr < e.sn))) = r := hr
      rw [hr2] at KE
      replace KE := keep KE
      replace HC := keep (HC.out.trans (show (!false && expB now e ⟨un, tr, false⟩) = r by rw [hr]; rfl))
      clear hr hr2
      cases r with
      | false =>
        obtain ⟨e1, e2⟩ := exM_no HE.out (by rw [HC.out]; simp)
        have HE1 := keep (And.intro e1 e2)
        clear e1 e2
        gi_wp2_with (gi_at_call 52; refine (CallsIn.inRound l (callsIn_wide.2 KE.out)).mono ?_; rintro e5 w' ⟨rfl, k, rfl⟩)
        exact ⟨(KeepsOthers.drewN A2 k).from _, trivial, ⟨by rw [HE1.out.1]; exact HJ.out.lq.st (StN.drewN w.heap.size A2 k) (Nat.le_refl _), HJ.out.tb, by rw [HE1.out.2]; exact HJ.out.nb⟩⟩
      | true =>
        obtain ⟨e1, e2⟩ := exM_yes HE.out HC.out
        have HE1 := keep (And.intro e1 e2)
        clear e1 e2
        gi_wp2_with (gi_at_call 52; refine (CallsIn.inRound l (callsIn_wide.2 KE.out)).mono ?_; rintro e5 w' ⟨rfl, k, rfl⟩)
        have hq0 := HJ.out.lq.st (StN.drewN w.heap.size A2 k) (Nat.le_refl _)
        have hq1 := (hq0.setG (by omega) HO.out (List.mem_of_getElem? HE.out) true).box HO.out HF.out (b := w.heap.size + 1) (by omega) (.inl (by omega)) 0 (.int .i64 ((exN now q.es q.mg i : Int) + 1))
        refine ⟨(((KeepsOthers.drewN A2 k).trans (KeepsOthers.setCell _ _ _)).trans (KeepsOthers.setCell _ _ _)).from _, trivial, ⟨?_, ?_, ?_⟩⟩
        · rw [HE1.out.1]
          exact hq1
        · exact set_other (set_other (show (A2.drewN k).heap[w.heap.size]? = _ from HJ.out.tb) (fun h => hne h.symm)) (by omega)
        · rw [HE1.out.2]
          exact heap_setCell_same _ _ 0 _ _ _ (set_other (show (A2.drewN k).heap[w.heap.size + 1]? = _ from HJ.out.nb) (fun h => hne1 h.symm))
  case done =>
    intro D A hD hJ hDd
    rw [hps] at hJ
    have HJ := keep hJ
    have HL2 := keep (list_at G.b _ _ _ A hJ.lq.qa.b0.1)
    clear hJ J0
    gi_wp2_with (first
      | (gi_at_call 39; refine (callsIn_wide.2 HL2.out).mono ?_; rintro e w' ⟨rfl, rfl⟩)
      | (gi_at_call 44; refine (callsIn_wide.2 (in_any _ _ _ _ _ _ _)).mono ?_; rintro e w' ⟨rfl, rfl⟩))
    generalize hW2 : World.alloc _ _ = W2
    have hnb := HJ.out.nb
    have hlq := HJ.out.lq
    rw [HMN.out.2] at hnb
    rw [HMN.out.1] at hlq
    have J2 : ExK w G q mg' nn A.heap.size D 0 W2 := by
      rw [← hW2]
      exact ⟨by rw [updL_zero]; exact LQ.start2 hlq.qa hlq.pt rfl [0, 1, 2, 3], below_new (below_new (below_new hnb)), below_new (below_new (below_new hDd))⟩
    have hs2 : w.heap.size ≤ W2.heap.size := J2.lq.pt.size
    have hD2 : D < W2.heap.size := (Array.getElem?_eq_some_iff.1 J2.df).1
    have hSA : w.heap.size ≤ A.heap.size := hlq.pt.size
    have hNA : w.heap.size + 1 < A.heap.size := (Array.getElem?_eq_some_iff.1 hnb).1
    obtain ⟨S2, hS2⟩ : ∃ S2, A.heap.size = S2 := ⟨_, rfl⟩
    rw [hS2] at J2 hSA hNA ⊢
    clear hW2 hS2 HJ hDd hnb hlq HL2
    refine rangeFunc_ix (n := 5) rfl (by omega) (gf := 68) (lb := #[.pointer (some ⟨S2 + 1, 0, none⟩), .pointer (some ⟨S2 + 1 + 1, 0, none⟩)]) rfl trivial (enters_of Try.func68 (by kernel_rfl) rfl) (N := (q.es.map En.p).length) (enc := encP (q.es.map En.p)) (fun _ => rfl)
      (InX (q.es.map En.p) [0, 1, 2, 3]) (fun _ => InOwn (S2 + 1) (S2 + 2) G.s (some ⟨S2, 0, none⟩, 4, 4) (q.es.map En.p) [0, 1, 2, 3]) (fun _ _ => True)
      (ExK w G q mg' nn S2 D) (fun _ _ => False)
      (in1_seq (5 - 1) (by omega) _ _ _ _ (q.es.map En.p) [0, 1, 2, 3] (by rw [hps]; exact hle) (by decide) _ _)
      (fun i A B st h => ⟨h.lq.st st hs2, st.cells h.nb, st.blk _ _ h.df (.inr hD2)⟩) (fun _ _ _ _ h => h) (fun i A B st h => in_x st h)
      (fun _ _ _ _ _ _ _ _ _ _ _ _ _ _ => trivial)
      (fun i A h => h.lq.own)
      (fun i A hi h hx => by
        obtain ⟨e, he, _⟩ := h.lq.get hi
        have hne := fun hh => hx ((h.lq.x he).2 hh)
        rw [updL_at] at he
        have hno : gvE mg' e = e := by
          unfold gvE
          rw [if_neg]
          rintro ⟨h1, _⟩
          exact hne (by simp only [List.mem_cons, List.not_mem_nil, or_false]; exact h1)
        exact ⟨by rw [updL_same _ _ _ he hno]; exact h.lq, h.nb, h.df⟩)
      J2 ?round2 ?done2 (fun _ _ _ _ h _ => h.elim)
    case round2 =>
      rintro l i A hl hi hJ hx
      obtain ⟨e, he, hge⟩ := hJ.lq.get hi
      have hst := (hJ.lq.x he).1 hx
      simp only [Array.zip, encP]
      rw [hge]
      have HI := keep hi
      have HE := keep he
      have HST := keep (show e.st = 0 ∨ e.st = 1 ∨ e.st = 2 ∨ e.st = 3 by simpa using hst)
      clear hJ hx he hge hi hst
      gi_wp2
      refine ⟨by first | rfl | trivial, fun A2 hJ2 hx2 => ?_⟩
      have he := HE.out
      have hea := hJ2.lq.qa.en e (List.mem_of_getElem? he)
      obtain ⟨c12, c13, _, _, _⟩ := hea.1.c12
      have f13 := hea.1.fz 13
      obtain ⟨m0, m1, m2, f2⟩ := hea.2.2.1.at_
      have hne : w.heap.size + 1 ≠ e.p := by have := HO.out _ hea.2.1; omega
      have hneD : D ≠ e.p := by have := HO.out _ hea.2.1; omega
      have HJ := keep hJ2
      rw [updL_at] at he
      have HU := keep (updL_next (fun _ => gvE mg') q.es i he)
      have HV := keep (fun h => updL_same (fun _ => gvE mg') q.es i he h)
      have HGV := keep (show ∀ v, (mg' e.m).gv = v → gvE mg' e = if v = true then { e with st := 4 } else e from fun v hv => by
        subst hv
        unfold gvE
        by_cases hg : (mg' e.m).gv = true
        · rw [if_pos ⟨HST.out, hg⟩, if_pos hg]
        · rw [if_neg (fun h => hg h.2), if_neg hg])
      obtain ⟨gv, hg⟩ : ∃ g, (mg' e.m).gv = g := ⟨_, rfl⟩
      dsimp only at m0 m1 m2
      rw [hg] at m2
      have HG := keep (HGV.out gv hg)
      clear hJ2 hx2 he hg HGV hea
      cases gv with
      | false =>
        gi_wp2
        exact ⟨(KeepsOthers.refl A2).from _, trivial, ⟨by rw [HV.out (by rw [HG.out]; rfl)]; exact HJ.out.lq, HJ.out.nb, HJ.out.df⟩⟩
      | true =>
        gi_wp2
        have hq1 := HJ.out.lq.setE hSA HO.out (e' := { e with st := 4 }) HE.out 13 (.int .i64 4) rfl rfl rfl rfl
        refine ⟨(KeepsOthers.setCell _ _ _).from _, trivial, ⟨?_, set_other HJ.out.nb hne, set_other HJ.out.df hneD⟩⟩
        rw [HU.out, HG.out, if_pos trivial]
        exact hq1
    case done2 =>
      intro D2 A2 hDD hJ hDd2
      rw [hps] at hJ
      have cn := upd_cell hJ.nb 0 _ rfl
      have HJ := keep hJ
      have k1 := StN.putObj (N := W2.heap.size) (.deferred none) hDd2 rfl hDD
      have hDd3 := k1.blk _ _ hJ.df (.inr hD2)
      have k2 := StN.putObj (N := W1.heap.size) (.deferred none) hDd3 rfl hD
      clear hJ
      gi_wp2
      refine ⟨by simp, .inl ⟨_, _, rfl, run_takeDeferred hDd2, by simp, .inl ⟨_, _, rfl, run_takeDeferred hDd3, ?_⟩⟩⟩
      have hl := (HJ.out.lq.st k1 hs2).st k2 hs1
      rw [updL_map] at hl
      exact ⟨_, results_tmp rfl _ _ _, rfl, hl.qa, rfl, hl.pt, fun _ h => .inl h, fun _ h => .inl h⟩
end
end Go.Proofs.Ytffjdknmfmlfnaa
