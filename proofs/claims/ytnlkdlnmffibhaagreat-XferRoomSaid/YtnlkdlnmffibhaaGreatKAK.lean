/- KAK of the stage: texts Q24, Q25, Q26, Q27, joined. -/
import Derived.Test.YtnlkdlnmffibhaaGreatKAD
import Derived.Test.YtnlkdlnmffibhaaGreatKAH
import Derived.Test.YtnlkdlnmffibhaaGreatKAJ
import Derived.Laws.ResultCell
set_option linter.unusedSimpArgs false
set_option linter.unusedVariables false
set_option maxRecDepth 8000
namespace Go.Proofs.YtnlkdlnmffibhaaGreat
open List renaming setIfInBounds_toArray → lA, set_cons_zero → lZ, set_cons_succ → lS
open Go renaming wpAnyH_take → wT
open Go.Act renaming put → aP
section
open Go.RowKit Go.Maps
attribute [local go_sem] Oper.semAt_some
def missE (idx i : Nat) (e : En) : En := if e.st = 1 ∧ i < idx then (if wrap64 (e.ms + 1) = 3 then { e with ms := wrap64 (e.ms + 1), st := 2 } else { e with ms := wrap64 (e.ms + 1) }) else e
def missL (idx : Nat) (es : List En) : Nat → Bool
  | 0 => false
  | i + 1 => missL idx es i || (match es[i]? with | some e => decide (e.st = 1 ∧ i < idx ∧ wrap64 (e.ms + 1) = 3) | none => false)
theorem missE_off {idx i : Nat} (h : ¬ i < idx) (e : En) : missE idx i e = e := by unfold missE; rw [if_neg (fun hc => h hc.2)]
theorem missL_next {idx : Nat} {es : List En} {i : Nat} {e : En} (he : es[i]? = some e) : missL idx es (i + 1) = (missL idx es i || decide (e.st = 1 ∧ i < idx ∧ wrap64 (e.ms + 1) = 3)) := by rw [missL, he]
theorem missL_off {idx : Nat} (es : List En) {i : Nat} (h : idx ≤ i) : ∀ k, missL idx es (i + k) = missL idx es i
  | 0 => rfl
  | k + 1 => by
    rw [show i + (k + 1) = (i + k) + 1 by omega, missL, missL_off es h k]
    split
    · rw [decide_eq_false (by omega), Bool.or_false]
    · rw [Bool.or_false]
theorem updL_off {f : Nat → En → En} (es : List En) {i : Nat} (h : ∀ j e, i ≤ j → f j e = e) : ∀ k, updL f es (i + k) = updL f es i
  | 0 => rfl
  | k + 1 => by
    rw [show i + (k + 1) = (i + k) + 1 by omega]
    cases he : es[i + k]? with
    | some e => rw [updL_same _ _ _ he (h _ _ (by omega)), updL_off es h k]
    | none =>
      rw [← updL_off es h k]
      apply List.ext_getElem?
      intro j
      rw [updL_get, updL_get]
      by_cases hj : j < i + k
      · rw [if_pos (by omega), if_pos hj]
      · rw [if_neg hj]
        split
        · have : es[j]? = none := by rw [show j = i + k by omega]; exact he
          rw [this]
          rfl
        · rfl
structure MsB (w : World) (G : Gq) (q : Qm) (n : Int) (es : List En) (b : Bool) (A : World) : Prop where
  lq : LQ w G q.nx (w.heap.size + 2) [1] (q.es.map En.p) es q.mg A
  pe : Part (fun k => ∃ e ∈ q.es, e.p = k) w A
  nb : A.heap[w.heap.size]? = some (.cells #[.int .u32 n] 22 (0, 0))
  lb : A.heap[w.heap.size + 1]? = some (.cells #[.bool b] 4 (0, 0))
section
variable {w : World} {G : Gq} {q : Qm} {n : Int} {es : List En} {b : Bool} {A B : World}
theorem MsB.st (h : MsB w G q n es b A) {N : Nat} (k : StN N A B) (hN : w.heap.size ≤ N) : MsB w G q n es b B := ⟨h.lq.st k hN, h.pe.st k hN, k.cells h.nb, k.cells h.lb⟩
theorem MsB.setE (h : MsB w G q n es b A) (hO : ∀ i, G.O i → i < w.heap.size) {i : Nat} {e e' : En} (he : es[i]? = some e) (j : Nat) (v : Value) (hp : e'.p = e.p) (hc : e'.c = e.c) (hmm : e'.m = e.m) (hcs : e.cells.toArray.setIfInBounds j v = e'.cells.toArray) :
    MsB w G q n (es.set i e') b (A.setCell ⟨e.p, j, none⟩ v) := by
  have hlt := hO _ (h.lq.qa.en e (List.mem_of_getElem? he)).2.1
  have hin : ∃ x ∈ q.es, x.p = e.p := by
    have h1 : e.p ∈ es.map En.p := List.mem_map.2 ⟨e, List.mem_of_getElem? he, rfl⟩
    rw [h.lq.pp] at h1
    exact List.mem_map.1 h1
  exact ⟨h.lq.setE (by omega) hO he j v hp hc hmm hcs, h.pe.trans (part_set A e.p j v) fun k hk => .inl (by rw [hk]; exact hin), set_other h.nb (by omega), set_other h.lb (by omega)⟩
theorem MsB.loss (h : MsB w G q n es b A) (hO : ∀ i, G.O i → i < w.heap.size) (hF : ∀ i, G.F i → i < w.heap.size) (b' : Bool) : MsB w G q n es b' (A.setCell ⟨w.heap.size + 1, 0, none⟩ (.bool b')) :=
  ⟨h.lq.box hO hF (by omega) (by omega) 0 _, h.pe.trans (part_set A (w.heap.size + 1) 0 (.bool b')) fun k hk => .inr (by omega), set_other h.nb (by omega), heap_setCell_same A _ 0 _ _ _ h.lb⟩
end
structure MisP (w : World) (G : Gq) (q : Qm) (idx : Nat) (w' : World) : Prop where
  qa : QA w' G ⟨q.es.mapIdx (missE idx), q.nx, q.mg⟩
  pe : Part (fun k => ∃ e ∈ q.es, e.p = k) w w'
def MsI (w : World) (G : Gq) (q : Qm) (n : Int) (idx i : Nat) (A : World) : Prop := MsB w G q n (updL (missE idx) q.es i) (missL idx q.es i) A
set_option maxRecDepth 100000 in
set_option maxHeartbeats 4000000 in
theorem miss_any {w : World} {G : Gq} {q : Qm} (h : QA w G q) (n : Int) (idx : Nat) (hd : ∀ i e, q.es[i]? = some e → less32 e.c.a n = decide (i < idx)) :
    Calls Tryz.prog 88 #[.pointer (some ⟨G.b, 0, none⟩), .int .u32 n] w fun e w' => e = .returned (.bool (missL idx q.es q.es.length)) ∧ MisP w G q idx w' := by
  have hmix : Tryz.prog.follows .mixedOrders = true := by kernel_rfl
  have F2 : Fence.wide.fn 36 := trivial
  have F3 : Fence.wide.fn 79 := trivial
  have HO := keep h.olt
  have HF := keep h.flt
  have HQ := keep h
  have HD := keep hd
  have hps : (q.es.map En.p).length = q.es.length := List.length_map _
  have hle := h.le
  have HB1 := keep (up (below_lay w (.cells #[.int .u32 n] 22)) (below_lay _ (.cells #[.bool false] 4)))
  obtain ⟨q0, q1, f0, f1⟩ := (HQ.out.step HB1.out).b0
  clear h hd
  refine (callsIn_wide (n := 6)).1 ?_
  refine callsIn_of_wp_marks Tryz.func88 rfl trivial ?_ rfl
  simp only [Tryz.ntmps88, List.size_toArray, List.length_cons, List.length_nil, Nat.reduceAdd, Nat.reduceSub, Array.replicate_succ, Array.replicate_zero, List.push_toArray, List.append_toArray, List.nil_append, List.cons_append]
  gi_wp2_with (gi_at_call 36; refine (callsIn_wide.2 (in_any _ _ _ _ _ _ _)).mono ?_; rintro e w' ⟨rfl, rfl⟩)
  generalize hW1 : World.alloc _ _ = W1
  have J0 : MsI w G q n idx 0 W1 := by
    rw [← hW1]
    have hbB := up HB1.out (below_in _ (.cells ([1].map (Value.int .i64)).toArray 3) (.cells #[.slice G.s.1 G.s.2.1 G.s.2.2] 89) (.cells #[.slice (some ⟨w.heap.size + 2, 0, none⟩) 1 1] 23))
    refine ⟨by rw [updL_zero]; exact LQ.start HQ.out HB1.out (by simp) [1], Part.of_below _ hbB, ?_, ?_⟩
    · exact below_new (below_new (below_new (below_new (heap_new_at rfl))))
    · exact below_new (below_new (below_new (heap_new_at (by simp))))
  have hs1 : w.heap.size ≤ W1.heap.size := J0.lq.pt.size
  clear hW1 q0 q1 f0 f1
  refine rangeFunc_ix (n := 6) rfl (by omega) (gf := 71) (lb := #[.pointer (some ⟨w.heap.size + 1 + 1 + 1, 0, none⟩), .pointer (some ⟨w.heap.size + 1 + 1 + 1 + 1, 0, none⟩)]) rfl trivial (enters_of Tryz.func71 (by kernel_rfl) rfl) (N := (q.es.map En.p).length) (enc := encP (q.es.map En.p)) (fun _ => rfl)
    (InX (q.es.map En.p) [1]) (fun _ => InOwn (w.heap.size + 2 + 1) (w.heap.size + 2 + 2) G.s (some ⟨w.heap.size + 2, 0, none⟩, 1, 1) (q.es.map En.p) [1]) (fun _ _ => True)
    (MsI w G q n idx) (fun c A => c = .exit 0 ∧ MsI w G q n idx q.es.length A)
    (in1_seq (6 - 1) (by omega) _ _ _ _ (q.es.map En.p) [1] (by rw [hps]; exact hle) (by decide) _ _)
    (fun i A B st h => h.st st hs1) (fun c A B st h => ⟨h.1, h.2.st st hs1⟩)
    (fun i A B st h => by
      obtain ⟨p, y, h1, h2, h3⟩ := h
      exact ⟨p, y, h1, st.cell h2, h3⟩)
    (fun _ _ _ _ _ _ _ _ _ _ _ _ _ _ => trivial)
    (fun i A h => h.lq.own)
    (fun i A hi h hx => by
      obtain ⟨e, he, _⟩ := h.lq.get hi
      have hne := fun hx' => hx ((h.lq.x he).2 hx')
      rw [updL_at] at he
      have h1 : ¬ e.st = 1 := fun hc => hne (by rw [hc]; decide)
      unfold MsI
      rw [updL_same _ _ _ he (by unfold missE; rw [if_neg (fun hc => h1 hc.1)]), missL, he]
      simp only [h1, false_and, decide_false, Bool.or_false]
      exact h)
    J0 ?round ?done ?stop
  case round =>
    rintro l i A hl hi hJ hx
    obtain ⟨e, he, hge⟩ := hJ.lq.get hi
    have hst := (hJ.lq.x he).1 hx
    rw [updL_at] at he
    simp only [Array.zip, encP]
    rw [hge]
    have HI := keep hi
    have HE := keep he
    have HST := keep (List.mem_singleton.1 hst)
    clear hJ hx he hge hi hst
    gi_wp2
    refine ⟨by first | rfl | trivial, fun A2 hJ2 hx2 => ?_⟩
    have hg : (updL (missE idx) q.es i)[i]? = some e := by rw [updL_at]; exact HE.out
    have hea := hJ2.lq.qa.en e (List.mem_of_getElem? hg)
    have c2 : A2.cell? ⟨e.p, 2, none⟩ = some (Value.int .u32 e.c.a) := hea.1.at_ 2 _ rfl
    have cc : A2.cell? ⟨w.heap.size, 0, none⟩ = some (Value.int .u32 n) := upd_cell hJ2.nb 0 _ rfl
    have KD := fun W => Less_any e.c.a n W
    rw [HD.out i e HE.out] at KD
    have HJ2 := keep hJ2
    have HG := keep hg
    clear hJ2 hx2 hea hg
    by_cases hid : i < idx
    · rw [decide_eq_true hid] at KD
      replace KD := keep KD
      gi_wp2
      refine wpIn_region_held (S := fun w' => w'.cell? ⟨e.p, 2, none⟩ = some (.int .u32 e.c.a) ∧ w'.cell? ⟨w.heap.size, 0, none⟩ = some (.int .u32 n)) hmix (by kernel_rfl) (by rintro ⟨_, _, hh⟩; exact hh) ⟨c2, cc⟩ (fun hHeld => ?_)
      refine wT (i := 0) (oi := ⟨some 14, _, _, _, _, _⟩) (v := ?va1x0) rfl (by kernel_rfl) (by kernel_rfl) (by kernel_rfl) (fun _ _ _ h => h) (Or.inl ⟨by rfl, ?hya1x0⟩) (by assumption) ?ra1x0
      case hya1x0 => (rintro wz ⟨hS1, hS2⟩; go_simp <;> try with_reducible rfl)
      try simp only [aP, lA, lZ, lS]
      refine wT (i := 1) (oi := ⟨some 15, _, _, _, _, _⟩) (v := ?va2x1) rfl (by kernel_rfl) (by kernel_rfl) (by kernel_rfl) (fun _ _ _ h => h) (Or.inl ⟨by rfl, ?hya2x1⟩) (by assumption) ?ra2x1
      case hya2x1 => (rintro wz ⟨hS1, hS2⟩; go_simp <;> try with_reducible rfl)
      try simp only [aP, lA, lZ, lS]
      refine wT (i := 2) (oi := ⟨some 16, _, _, _, _, _⟩) (v := ?va3x2) rfl (by kernel_rfl) (by kernel_rfl) (by kernel_rfl) (fun _ _ _ h => h) (Or.inl ⟨by rfl, ?hya3x2⟩) (by assumption) ?ra3x2
      case hya3x2 => (rintro wz ⟨hS1, hS2⟩; go_simp <;> try with_reducible rfl)
      try simp only [aP, lA, lZ, lS]
      refine wT (i := 3) (oi := ⟨some 17, _, _, _, _, _⟩) (v := ?va4x3) rfl (by kernel_rfl) (by kernel_rfl) (by kernel_rfl) (fun _ _ _ h => h) (Or.inl ⟨by rfl, ?hya4x3⟩) (by assumption) ?ra4x3
      case hya4x3 => (rintro wz ⟨hS1, hS2⟩; go_simp <;> try with_reducible rfl)
      try simp only [aP, lA, lZ, lS]
      refine wT (i := 4) (oi := ⟨some 18, _, _, _, _, _⟩) (v := ?va5x4) rfl (by kernel_rfl) (by kernel_rfl) (by kernel_rfl) (fun _ _ _ h => h) (Or.inl ⟨by rfl, ?hya5x4⟩) (by assumption) ?ra5x4
      case hya5x4 => (rintro wz ⟨hS1, hS2⟩; go_simp <;> try with_reducible rfl)
      try simp only [aP, lA, lZ, lS]
      refine wT (i := 5) (oi := ⟨some 19, _, _, _, _, _⟩) (v := ?va6x5) rfl (by kernel_rfl) (by kernel_rfl) (by kernel_rfl) (fun _ _ _ h => h) (Or.inl ⟨by rfl, ?hya6x5⟩) (by assumption) ?ra6x5
      case hya6x5 => (rintro wz ⟨hS1, hS2⟩; go_simp <;> try with_reducible rfl)
      try simp only [aP, lA, lZ, lS]
      refine wpAnyH_ready (rs := [6]) (by kernel_rfl) (by simp) (AllReadyH.cons (o := ⟨some 20, _, _, _, _, _⟩) rfl (fun K hK => ?_) AllReadyH.nil)
      go_simp
      go_at_call 79
      refine (KD.out _).mono ?_
      rintro e1 w1 ⟨rfl, rfl⟩
      (try go_wp2_with fail)
      refine hK.out _ _ ⟨c2, cc⟩ (fun hHeld => ?_)
      clear hK K
      try simp only [aP, lA, lZ, lS]
      refine wT (i := 7) (oi := ⟨some 21, _, _, _, _, _⟩) (v := ?va7x7) rfl (by kernel_rfl) (by kernel_rfl) (by kernel_rfl) (fun _ _ _ h => h) (Or.inl ⟨by rfl, ?hya7x7⟩) (by assumption) ?ra7x7
      case hya7x7 => (rintro wz ⟨hS1, hS2⟩; go_simp <;> try with_reducible rfl)
      try simp only [aP, lA, lZ, lS]
      refine wpAnyH_done (by kernel_rfl) ?_ _
      have hJ2 := HJ2.out
      have hg := HG.out
      have hea := hJ2.lq.qa.en e (List.mem_of_getElem? hg)
      have hlt := HO.out _ hea.2.1
      have hne : e.p ≠ w.heap.size + 1 := by omega
      have hne2 : w.heap.size + 1 ≠ e.p := by omega
      have f13 := hea.1.fz 13
      have f16 := hea.1.fz 16
      have c13 : A2.cell? ⟨e.p, 13, none⟩ = some (Value.int .i64 e.st) := hea.1.at_ 13 _ rfl
      have c16 : A2.cell? ⟨e.p, 16, none⟩ = some (Value.int .i64 e.ms) := hea.1.at_ 16 _ rfl
      have c5 : A2.cell? ⟨w.heap.size + 1, 0, none⟩ = some (Value.bool (missL idx q.es i)) := upd_cell hJ2.lb 0 _ rfl
      have f5 := upd_fz hJ2.lb 0
      clear hJ2 hg hea hlt
      have hid' := keep hid
      obtain ⟨z, hz⟩ : ∃ z, wrap64 (e.ms + 1) = z := ⟨_, rfl⟩
      have HZ := keep hz
      have hmE : missE idx i e = if z = 3 then { e with ms := z, st := 2 } else { e with ms := z } := by unfold missE; rw [if_pos ⟨HST.out, hid⟩, hz]
      have m1 := HJ2.out.setE HO.out (e' := { e with ms := z }) HG.out 16 (.int .i64 z) rfl rfl rfl rfl
      have g1 : ((updL (missE idx) q.es i).set i { e with ms := z })[i]? = some { e with ms := z } := by rw [List.getElem?_set, if_pos rfl, if_pos (List.getElem?_eq_some_iff.1 HG.out).1]
      by_cases h3 : z = 3
      · have HF2 : Hid (MsI w G q n idx (i + 1) (((A2.setCell ⟨e.p, 16, none⟩ (.int .i64 z)).setCell ⟨e.p, 13, none⟩ (.int .i64 2)).setCell ⟨w.heap.size + 1, 0, none⟩ (.bool true))) := keep (by
          have m2 := (m1.setE HO.out (e' := { e with ms := z, st := 2 }) g1 13 (.int .i64 2) rfl rfl rfl rfl).loss HO.out HF.out true
          rw [List.set_set] at m2
          unfold MsI
          rw [updL_next _ _ _ HE.out, hmE, if_pos h3, missL, HE.out]
          simp only [HST.out, hid, hz, h3, and_self, decide_true, Bool.or_true]
          rw [h3] at m2
          exact m2)
        subst h3
        clear hmE m1 g1
        gi_wp2
        exact ⟨((((KeepsOthers.setCell _ _ _).trans (KeepsOthers.setCell _ _ _)).trans (KeepsOthers.setCell _ _ _)).trans (KeepsOthers.drew _)).from _, trivial, HF2.out.st (StN.drew w.heap.size _) (Nat.le_refl _)⟩
      · have HF2 : Hid (MsI w G q n idx (i + 1) (A2.setCell ⟨e.p, 16, none⟩ (.int .i64 z))) := keep (by
          unfold MsI
          rw [updL_next _ _ _ HE.out, hmE, if_neg h3, missL_next HE.out, decide_eq_false (fun hc => h3 (by rw [← hz]; exact hc.2.2)), Bool.or_false]
          exact m1)
        clear hmE m1 g1
        gi_wp2
        exact ⟨((KeepsOthers.setCell _ _ _).trans (KeepsOthers.drew _)).from _, trivial, HF2.out.st (StN.drew w.heap.size _) (Nat.le_refl _)⟩
    · rw [decide_eq_false hid] at KD
      replace KD := keep KD
      gi_wp2
      refine wpIn_region_held (S := fun w' => w'.cell? ⟨e.p, 2, none⟩ = some (.int .u32 e.c.a) ∧ w'.cell? ⟨w.heap.size, 0, none⟩ = some (.int .u32 n)) hmix (by kernel_rfl) (by rintro ⟨_, _, hh⟩; exact hh) ⟨c2, cc⟩ (fun hHeld => ?_)
      refine wT (i := 0) (oi := ⟨some 14, _, _, _, _, _⟩) (v := ?vb1x0) rfl (by kernel_rfl) (by kernel_rfl) (by kernel_rfl) (fun _ _ _ h => h) (Or.inl ⟨by rfl, ?hyb1x0⟩) (by assumption) ?restb1x0
      case hyb1x0 => (rintro wz ⟨hS1, hS2⟩; go_simp <;> try with_reducible rfl)
      try simp only [aP, lA, lZ, lS]
      refine wT (i := 1) (oi := ⟨some 15, _, _, _, _, _⟩) (v := ?vb2x1) rfl (by kernel_rfl) (by kernel_rfl) (by kernel_rfl) (fun _ _ _ h => h) (Or.inl ⟨by rfl, ?hyb2x1⟩) (by assumption) ?restb2x1
      case hyb2x1 => (rintro wz ⟨hS1, hS2⟩; go_simp <;> try with_reducible rfl)
      try simp only [aP, lA, lZ, lS]
      refine wT (i := 2) (oi := ⟨some 16, _, _, _, _, _⟩) (v := ?vb3x2) rfl (by kernel_rfl) (by kernel_rfl) (by kernel_rfl) (fun _ _ _ h => h) (Or.inl ⟨by rfl, ?hyb3x2⟩) (by assumption) ?restb3x2
      case hyb3x2 => (rintro wz ⟨hS1, hS2⟩; go_simp <;> try with_reducible rfl)
      try simp only [aP, lA, lZ, lS]
      refine wT (i := 3) (oi := ⟨some 17, _, _, _, _, _⟩) (v := ?vb4x3) rfl (by kernel_rfl) (by kernel_rfl) (by kernel_rfl) (fun _ _ _ h => h) (Or.inl ⟨by rfl, ?hyb4x3⟩) (by assumption) ?restb4x3
      case hyb4x3 => (rintro wz ⟨hS1, hS2⟩; go_simp <;> try with_reducible rfl)
      try simp only [aP, lA, lZ, lS]
      refine wT (i := 4) (oi := ⟨some 18, _, _, _, _, _⟩) (v := ?vb5x4) rfl (by kernel_rfl) (by kernel_rfl) (by kernel_rfl) (fun _ _ _ h => h) (Or.inl ⟨by rfl, ?hyb5x4⟩) (by assumption) ?restb5x4
      case hyb5x4 => (rintro wz ⟨hS1, hS2⟩; go_simp <;> try with_reducible rfl)
      try simp only [aP, lA, lZ, lS]
      refine wT (i := 5) (oi := ⟨some 19, _, _, _, _, _⟩) (v := ?vb6x5) rfl (by kernel_rfl) (by kernel_rfl) (by kernel_rfl) (fun _ _ _ h => h) (Or.inl ⟨by rfl, ?hyb6x5⟩) (by assumption) ?restb6x5
      case hyb6x5 => (rintro wz ⟨hS1, hS2⟩; go_simp <;> try with_reducible rfl)
      try simp only [aP, lA, lZ, lS]
      refine wpAnyH_ready (rs := [6]) (by kernel_rfl) (by simp) (AllReadyH.cons (o := ⟨some 20, _, _, _, _, _⟩) rfl (fun K hK => ?_) AllReadyH.nil)
      go_simp
      go_at_call 79
      refine (KD.out _).mono ?_
      rintro e1 w1 ⟨rfl, rfl⟩
      (try go_wp2_with fail)
      refine hK.out _ _ ⟨c2, cc⟩ (fun hHeld => ?_)
      clear hK K
      try simp only [aP, lA, lZ, lS]
      refine wT (i := 7) (oi := ⟨some 21, _, _, _, _, _⟩) (v := ?vb7x7) rfl (by kernel_rfl) (by kernel_rfl) (by kernel_rfl) (fun _ _ _ h => h) (Or.inl ⟨by rfl, ?hyb7x7⟩) (by assumption) ?restb7x7
      case hyb7x7 => (rintro wz ⟨hS1, hS2⟩; go_simp <;> try with_reducible rfl)
      try simp only [aP, lA, lZ, lS]
      refine wpAnyH_done (by kernel_rfl) ?_ _
      have HF2 : Hid (MsI w G q n idx q.es.length A2) := keep (by
        have hil : i ≤ q.es.length := by have := HI.out; omega
        have h1 := updL_off (f := missE idx) q.es (i := i) (fun j e hj => missE_off (by omega) e) (q.es.length - i)
        have h2 := missL_off q.es (idx := idx) (i := i) (by omega) (q.es.length - i)
        rw [show i + (q.es.length - i) = q.es.length by omega] at h1 h2
        unfold MsI
        rw [h1, h2]
        exact HJ2.out)
      gi_wp2
      exact ⟨(KeepsOthers.drew A2).from _, trivial, rfl, HF2.out.st (StN.drew w.heap.size A2) (Nat.le_refl _)⟩
  case done =>
    intro D A hD hJ hDd
    have k1 := StN.putObj (N := W1.heap.size) (.deferred none) hDd rfl hD
    rw [hps] at hJ
    have ct := upd_cell hJ.lb 0 _ rfl
    have h2 := MsB.st hJ k1 hs1
    rw [updL_all] at h2
    have HF1 := keep (show MisP w G q idx _ from ⟨h2.lq.qa, h2.pe⟩)
    clear h2 J0 hJ
    gi_wp2
    refine ⟨by simp, .inl ⟨_, _, rfl, run_takeDeferred hDd, ?_⟩⟩
    exact ⟨_, results_tmp rfl _ _ _, rfl, HF1.out⟩
  case stop =>
    intro c D A hD hJ hDd
    have k1 := StN.putObj (N := W1.heap.size) (.deferred none) hDd rfl hD
    obtain ⟨rfl, hJ⟩ := hJ
    have ct := upd_cell hJ.lb 0 _ rfl
    have h2 := MsB.st hJ k1 hs1
    rw [updL_all] at h2
    have HF1 := keep (show MisP w G q idx _ from ⟨h2.lq.qa, h2.pe⟩)
    clear h2 J0 hJ
    gi_wp2
    refine ⟨by simp, .inl ⟨_, _, rfl, run_takeDeferred hDd, ?_⟩⟩
    exact ⟨_, results_tmp rfl _ _ _, rfl, HF1.out⟩
end
section
open Go.RowKit Go.Maps
def Nums (q : Qm) : Prop := ∀ (i : Nat) (e : En), q.es[i]? = some e → e.c.a = (flr q + (i : Int) + 1) % 4294967296
theorem dist_of (a b : Int) (k : Nat) (hk : (k : Int) < 4294967296) (h : b = (a + (k : Int)) % 4294967296) : dist32 a b = (k : Int) := by
  unfold dist32 dist
  subst h
  omega
theorem less_of (f : Int) (i j : Nat) (hi : i < 1025) (hj : j < 1025) : less32 ((f + (i : Int) + 1) % 4294967296) ((f + (j : Int) + 1) % 4294967296) = decide (i < j) := by
  unfold less32 lessI dist
  rw [Bool.eq_iff_iff, decide_eq_true_eq, decide_eq_true_eq]
  omega
theorem cut_flr (q : Qm) (k : Nat) (hk : k ≤ q.es.length) : flr (cutQ q k) = (flr q + (k : Int)) % 4294967296 := by
  unfold flr cutQ
  simp only [List.length_drop]
  omega
theorem cut_nums {q : Qm} (h : Nums q) {k : Nat} (hk : k ≤ q.es.length) : Nums (cutQ q k) := by
  intro i e he
  rw [cut_flr q k hk]
  have he' : q.es[k + i]? = some e := by
    rw [← List.getElem?_drop]
    exact he
  rw [h _ _ he']
  omega
theorem reached_flr {q : Qm} {cum : Int} (hc : 0 ≤ cum ∧ cum < 4294967296) (h : reachedB q cum = true) : flr (cutQ q (stp q cum)) = cum := by
  rw [cut_flr q _ (stp_le q cum)]
  have hf := flr_in q
  unfold reachedB at h
  rw [Bool.and_eq_true, Bool.or_eq_true, decide_eq_true_eq, beq_iff_eq] at h
  have hs : stp q cum = if dist32 (flr q) cum ≤ (q.es.length : Int) then (dist32 (flr q) cum).toNat else 0 := rfl
  have hd : dist32 (flr q) cum = (cum - flr q) % 4294967296 := rfl
  rcases h.1 with h1 | h1
  · rw [hs] at h1 ⊢
    split at h1
    · rename_i hle
      rw [if_pos hle, hd] at *
      omega
    · omega
  · subst h1
    rw [hs, hd]
    split <;> omega
theorem come_dist {q : Qm} (h : Nums q) (hle : q.es.length ≤ 1024) {cum : Int} (hf : flr q = cum) : ∀ (i : Nat) (e : En), q.es[i]? = some e → dist32 cum e.c.a = ((i + 1 : Nat) : Int) := by
  intro i e he
  have hi := (List.getElem?_eq_some_iff.1 he).1
  refine dist_of cum e.c.a (i + 1) (by omega) ?_
  rw [h i e he, hf]
  congr 1
  omega
theorem ES.part {A B : World} {s : SL} {es : List En} (h : ES A s es) {S : Nat → Prop} (hp : Part S A B) (hs : InF (fun i => ¬ S i) s.1) (he : ∀ e ∈ es, ¬ S e.p) : ES B s es :=
  ⟨h.sn, (Kpt.of_part hp fun _ h => h).sr hs h.rd, fun e hm => ⟨(Kpt.of_part (ok := fun i => ¬ S i) hp fun _ h => h).cells _ _ _ _ (he e hm) (h.en e hm).1, (h.en e hm).2⟩⟩
theorem comeE_c (bl : List (Int × Int)) (i : Nat) (e : En) : (comeE bl i e).c = e.c := by
  unfold comeE
  split <;> split <;> rfl
def lastI (bl : List (Int × Int)) (es : List En) : Nat → Nat
  | 0 => 0
  | k + 1 => match es[k]? with | some e => if toldB bl k = true ∧ (e.st = 1 ∨ e.st = 2) then k else lastI bl es k | none => lastI bl es k
theorem cam_mem {bl : List (Int × Int)} {es : List En} : ∀ {k : Nat} {x : En}, x ∈ camG bl es k → ∃ i e, i < k ∧ es[i]? = some e ∧ x = { e with st := 3 } ∧ x = comeE bl i e
  | 0, x, h => by cases h
  | k + 1, x, h => by
    rw [camG] at h
    rcases List.mem_append.1 h with h | h
    · obtain ⟨i, e, h1, h2⟩ := cam_mem h
      exact ⟨i, e, by omega, h2⟩
    · cases he : es[k]? with
      | none => rw [he] at h; cases h
      | some e =>
        rw [he] at h
        dsimp only at h
        split at h
        · rename_i hc
          refine ⟨k, e, Nat.lt_succ_self k, he, List.mem_singleton.1 h, ?_⟩
          rw [List.mem_singleton.1 h]
          unfold comeE
          rw [if_pos hc.1, if_pos hc.2]
        · cases h
theorem cam_last {bl : List (Int × Int)} {es : List En} : ∀ {k : Nat}, camG bl es k ≠ [] → ∃ e, lastI bl es k < k ∧ es[lastI bl es k]? = some e ∧ (camG bl es k)[(camG bl es k).length - 1]? = some { e with st := 3 }
  | 0, h => absurd rfl h
  | k + 1, h => by
    cases he : es[k]? with
    | none =>
      have e1 : camG bl es (k + 1) = camG bl es k := by rw [camG, he]; exact List.append_nil _
      have e2 : lastI bl es (k + 1) = lastI bl es k := by rw [lastI, he]
      rw [e1] at h
      obtain ⟨e, h1, h2, h3⟩ := cam_last h
      exact ⟨e, by rw [e2]; omega, by rw [e2]; exact h2, by rw [e1]; exact h3⟩
    | some e =>
      by_cases hc : toldB bl k = true ∧ (e.st = 1 ∨ e.st = 2)
      · have e1 : camG bl es (k + 1) = camG bl es k ++ [{ e with st := 3 }] := by rw [camG, he]; dsimp only; rw [if_pos hc]
        have e2 : lastI bl es (k + 1) = k := by rw [lastI, he]; dsimp only; rw [if_pos hc]
        refine ⟨e, by rw [e2]; omega, by rw [e2]; exact he, ?_⟩
        rw [e1, List.length_append, List.length_singleton, Nat.add_sub_cancel, List.getElem?_append_right (Nat.le_refl _), Nat.sub_self]
        rfl
      · have e1 : camG bl es (k + 1) = camG bl es k := by rw [camG, he]; dsimp only; rw [if_neg hc]; exact List.append_nil _
        have e2 : lastI bl es (k + 1) = lastI bl es k := by rw [lastI, he]; dsimp only; rw [if_neg hc]
        rw [e1] at h
        obtain ⟨e, h1, h2, h3⟩ := cam_last h
        exact ⟨e, by rw [e2]; omega, by rw [e2]; exact h2, by rw [e1]; exact h3⟩
theorem com_es {w : World} {G : Gq} {q : Qm} {bl : List (Int × Int)} {s : SL} {w' : World} (h : ComP w G q bl s w') : ES w' s (camG bl q.es q.es.length) := by
  obtain ⟨s1, s2, s3⟩ := s
  have hrow := h.row
  have hn : s2 = (camG bl q.es q.es.length).length := by
    have := hrow.1
    rw [List.length_map] at this
    dsimp only at this
    omega
  refine ⟨hn, ?_, fun e he => ?_⟩
  · have h1 : w'.ownsRow w.heap.size 91 1 (.slice s1 s2 s3) s2 (flatF ptC ((camG bl q.es q.es.length).map En.p)) := by rw [flat_ptr]; exact hrow
    have := (LR.of_own (f := ptC) (K := 1) ptC_len (by decide) h1).2.2
    rwa [flat_ptr] at this
  · obtain ⟨i, x, h1, h2, h3, h4⟩ := cam_mem he
    have hm : e ∈ q.es.mapIdx (comeE bl) := List.mem_of_getElem? (i := i) (by rw [List.getElem?_mapIdx, h2, h4]; rfl)
    have := (h.qa.en e hm).1
    exact ⟨this.blk, this.sm⟩
def octA (es : List En) (i : Nat) : Option Nat := (es[i]?).map fun e => e.c.da.2.1
def octsA (es : List En) : Nat := sumF (octA es) es.length
theorem octA_le {es : List En} (h : ∀ e ∈ es, Sm e.c) : ∀ i n, octA es i = some n → n ≤ 1000000 := by
  intro i n hn
  unfold octA at hn
  cases he : es[i]? with
  | none => rw [he] at hn; cases hn
  | some e =>
    rw [he] at hn
    injection hn with hn
    subst hn
    exact (h e (List.mem_of_getElem? he)).da
theorem sum_values {w : World} {s : SL} {es : List En} (h : ES w s es) {Bd : Nat} (hd : w.heap[Bd]? = some (.cells #[.slice s.1 s.2.1 s.2.2] 89 (0, 0))) (hle : es.length ≤ 1024) :
    Calls Tryz.prog 66 #[.func (.func 124) #[] #[.pointer (some ⟨Bd, 0, none⟩)], .func (.func 67) #[] #[]] w fun e w' => e = .returned (.int .i64 ((octsA es : Nat) : Int)) ∧ Below w.heap.size w w' := by
  have hl : (es.map En.p).length = es.length := List.length_map _
  have hK : ∀ A, Below w.heap.size w A → Kpt (fun _ => True) w A := fun A hb => Kpt.of_below hb
  refine sum_any 124 _ (enters_of Tryz.func124 (by kernel_rfl) rfl) es.length (es.map En.p) (fun _ _ => True) (fun _ => VaOwn Bd s (es.map En.p)) (octA es) w
    (fun w1 => by have := values1_seq 4 (by omega) Bd s (es.map En.p) (by rw [hl]; exact hle) (fun _ _ => True) w1; rw [hl] at this; exact this)
    (fun i A B M st hx => trivial)
    (fun i A hlt hb => ?_) (fun i A hb => ⟨upd_cell ((hK A hb).cells _ _ _ _ trivial hd) 0 _ rfl, by rw [h.sn, hl], by rw [← ptr_map]; exact (h.step hb).rd⟩) (fun i A n hlt hb hn => ?_) (octA_le fun e he => (h.en e he).2) hle
  · unfold octA
    rw [List.getElem?_eq_getElem hlt]
    exact ⟨fun _ => rfl, fun _ => trivial⟩
  · obtain ⟨e, he, hge⟩ := ES.get es (i := i) (by rw [hl]; exact hlt)
    rw [hge]
    unfold octA at hn
    rw [he] at hn
    injection hn with hn
    subst hn
    exact ⟨_, _, (h.step hb).at_ (List.mem_of_getElem? he) 11 _ rfl⟩
def smp (now : Int) (es : List En) : Nat → Int
  | 0 => -1
  | i + 1 => match es[i]? with | some e => if (e.st = 1 ∨ e.st = 2) ∧ e.sn = 1 then IntKind.i64.wrap (now - e.la) else smp now es i | none => smp now es i
structure AckR where
  by_ : Nat
  sa : Int
  lo : Bool
  mo : Bool
def goneL (q : Qm) (cum : Int) : List En := q.es.take (stp q cum)
def leftL (q : Qm) (cum : Int) : List En := q.es.drop (stp q cum)
def camL (q : Qm) (cum : Int) (bl : List (Int × Int)) : List En := camG bl (leftL q cum) (leftL q cum).length
def midL (q : Qm) (cum : Int) (bl : List (Int × Int)) : List En := (leftL q cum).mapIdx (comeE bl)
def lasI (q : Qm) (cum : Int) (bl : List (Int × Int)) : Nat := lastI bl (leftL q cum) (leftL q cum).length
def ackE (q : Qm) (cum : Int) (bl : List (Int × Int)) : List En := if camL q cum bl = [] then midL q cum bl else (midL q cum bl).mapIdx (missE (lasI q cum bl))
def ackR (q : Qm) (cum : Int) (bl : List (Int × Int)) (now : Int) : AckR :=
  ⟨octs (goneL q cum) [1, 2] + octsA (camL q cum bl), smp now (goneL q cum) (goneL q cum).length, if camL q cum bl = [] then false else missL (lasI q cum bl) (midL q cum bl) (midL q cum bl).length, decide (0 < stp q cum)⟩
def ackQ (q : Qm) (cum : Int) (bl : List (Int × Int)) : Qm := { q with es := ackE q cum bl }
end
section
open Go.RowKit Go.Maps
theorem res_size : (Tryz.prog.info? 113).map (·.size) = some 4 := by kernel_rfl
def RsB (W : World) (g : Nat) (b sa : Int) (lo mo : Bool) : Prop := W.heap[g]? = some (.cells #[.int .i64 b, .int .i64 sa, .bool lo, .bool mo] 113 (0, 0))
theorem ret_res {fn : Func} {p u : Tmp} (hr : fn.results = #[.cell p 113, .tmp u]) (tmps : Array Value) (w : World) (g : Nat) (b sa : Int) (lo mo : Bool) (hp : tmps.getD p undef = .pointer (some ⟨g, 0, none⟩)) (h : RsB w g b sa lo mo) :
    (results fn tmps).run Tryz.prog w = .ok (.tuple #[.agg #[.int .i64 b, .int .i64 sa, .bool lo, .bool mo], tmps.getD u undef]) w := by
  rw [results_cell_tmp hr, hp]
  have := run_loadVar_row w g _ 113 #[.int .i64 b, .int .i64 sa, .bool lo, .bool mo] (0, 0) _ h Tryz.underlying113 rfl res_size
  simp [asAddr, this]
theorem RsB.step {W W' : World} {g : Nat} {b sa : Int} {lo mo : Bool} (h : RsB W g b sa lo mo) (hb : Below W.heap.size W W') : RsB W' g b sa lo mo := (hb.block _ (Array.getElem?_eq_some_iff.1 h).1).trans h
theorem RsB.cells {W : World} {g : Nat} {b sa : Int} {lo mo : Bool} (h : RsB W g b sa lo mo) : W.cell? ⟨g, 0, none⟩ = some (.int .i64 b) ∧ W.cell? ⟨g, 1, none⟩ = some (.int .i64 sa) ∧ W.cell? ⟨g, 2, none⟩ = some (.bool lo) ∧ W.cell? ⟨g, 3, none⟩ = some (.bool mo) :=
  ⟨upd_cell h 0 _ rfl, upd_cell h 1 _ rfl, upd_cell h 2 _ rfl, upd_cell h 3 _ rfl⟩
def ackOut (r : AckR) (ok : Bool) : Value := .tuple #[.agg #[.int .i64 (r.by_ : Int), .int .i64 r.sa, .bool r.lo, .bool r.mo], .bool ok]
theorem RsB.fzs {W : World} {g : Nat} {b sa : Int} {lo mo : Bool} (h : RsB W g b sa lo mo) : W.frozen? ⟨g, 0, none⟩ = false ∧ W.frozen? ⟨g, 1, none⟩ = false ∧ W.frozen? ⟨g, 2, none⟩ = false ∧ W.frozen? ⟨g, 3, none⟩ = false := ⟨upd_fz h 0, upd_fz h 1, upd_fz h 2, upd_fz h 3⟩
theorem res4_at {W : World} {g : Nat} {b0 s0 : Int} {l0 m0 : Bool} (h : RsB W g b0 s0 l0 m0) (b sa : Int) (lo mo : Bool) : RsB ((((W.setCell ⟨g, 0, none⟩ (.int .i64 b)).setCell ⟨g, 1, none⟩ (.int .i64 sa)).setCell ⟨g, 2, none⟩ (.bool lo)).setCell ⟨g, 3, none⟩ (.bool mo)) g b sa lo mo :=
  heap_setCell_same _ g 3 _ _ _ (heap_setCell_same _ g 2 _ _ _ (heap_setCell_same _ g 1 _ _ _ (heap_setCell_same W g 0 _ _ _ h)))
end
section
open Go.RowKit Go.Maps
structure AkW (w : World) (G G1 : Gq) (nx : Int) (mg : Nat → Mg) (gone : List En) (g : SL) (rB D : Nat) (es : List En) (b sa : Int) (lo mo : Bool) (W : World) : Prop where
  qa : QA W G1 ⟨es, nx, mg⟩
  pt : Part G.O w W
  gn : ES W g gone
  rs : RsB W rB b sa lo mo
  rb : RsB W (w.heap.size + 1) 0 0 false false
  dd : W.heap[D]? = some (.deferred (some []))
section
variable {w : World} {G G1 : Gq} {nx : Int} {mg : Nat → Mg} {gone es : List En} {g : SL} {rB D : Nat} {b sa : Int} {lo mo : Bool} {W W' : World}
theorem AkW.step (h : AkW w G G1 nx mg gone g rB D es b sa lo mo W) (hb : Below W.heap.size W W') : AkW w G G1 nx mg gone g rB D es b sa lo mo W' :=
  ⟨h.qa.step hb, h.pt.trans (Part.of_below (fun _ => False) hb) fun i hi => hi.elim, h.gn.step hb, h.rs.step hb, h.rb.step hb, (hb.block _ (Array.getElem?_eq_some_iff.1 h.dd).1).trans h.dd⟩
theorem AkW.part (h : AkW w G G1 nx mg gone g rB D es b sa lo mo W) {L es' : List En} (hp : Part (fun i => ∃ e ∈ L, e.p = i) W W') (hq : QA W' G1 ⟨es', nx, mg⟩) (hL : ∀ e ∈ L, G.O e.p ∧ e.p < w.heap.size ∧ (∃ cs t fr, W.heap[e.p]? = some (.cells cs t fr)) ∧ ∀ x ∈ gone, x.p ≠ e.p) (hrB : w.heap.size ≤ rB) (hg : InF (fun i => w.heap.size ≤ i) g.1) :
    AkW w G G1 nx mg gone g rB D es' b sa lo mo W' := by
  have k := Kpt.of_part (ok := fun i => ¬ ∃ e ∈ L, e.p = i) hp fun _ h => h
  have lo_ : ∀ i, w.heap.size ≤ i → ¬ ∃ e ∈ L, e.p = i := fun i hi ⟨e, he, hh⟩ => by have := (hL e he).2.1; omega
  refine ⟨hq, h.pt.trans hp fun i ⟨e, he, hh⟩ => .inl (hh ▸ (hL e he).1), h.gn.part hp (fun a ea => lo_ _ (hg a ea)) fun x hx ⟨e, he, hh⟩ => (hL e he).2.2.2 x hx hh.symm, k.cells _ _ _ _ (lo_ _ hrB) h.rs, k.cells _ _ _ _ (lo_ _ (by omega)) h.rb, ?_⟩
  refine (hp.block _ (Array.getElem?_eq_some_iff.1 h.dd).1 fun ⟨e, he, hh⟩ => ?_).trans h.dd
  obtain ⟨cs, t, fr, hc⟩ := (hL e he).2.2.1
  rw [hh, h.dd] at hc
  cases hc
theorem AkW.set (h : AkW w G G1 nx mg gone g rB D es b sa lo mo W) (hO : ∀ i, G1.O i → i < w.heap.size) (hF : ∀ i, G1.F i → i < w.heap.size) (hrB : w.heap.size + 1 < rB) (hg : InF (fun i => i ≠ rB) g.1) (hge : ∀ x ∈ gone, x.p < w.heap.size) (j : Nat) (v : Value) {b' sa' : Int} {lo' mo' : Bool} (he : (#[.int .i64 b, .int .i64 sa, .bool lo, .bool mo] : Array Value).setIfInBounds j v = #[.int .i64 b', .int .i64 sa', .bool lo', .bool mo']) :
    AkW w G G1 nx mg gone g rB D es b' sa' lo' mo' (W.setCell ⟨rB, j, none⟩ v) := by
  have hp := part_set W rB j v
  refine ⟨h.qa.apart hp (fun i hi e => by have := hO i hi; omega) (fun i hi e => by have := hF i hi; omega), h.pt.trans hp fun i hi => .inr (by omega), h.gn.part hp hg fun x hx e => by have := hge x hx; omega, ?_, set_other h.rb (by omega), ?_⟩
  · have := heap_setCell_same W rB j _ _ v h.rs
    rw [he] at this
    exact this
  · refine (hp.block _ (Array.getElem?_eq_some_iff.1 h.dd).1 fun e => ?_).trans h.dd
    have h1 := h.dd
    rw [e, show W.heap[rB]? = _ from h.rs] at h1
    cases h1
end
structure AckP (w : World) (G : Gq) (q : Qm) (cum : Int) (bl : List (Int × Int)) (w' : World) : Prop where
  qa : QA w' (cutG G (stp q cum)) (ackQ q cum bl)
  lt : Ltr w G w' (cutG G (stp q cum))
structure SmI (Wb : World) (g : SL) (now : Int) (gone : List En) (mo : Bool) (i : Nat) (A : World) : Prop where
  bl : Below Wb.heap.size Wb A
  ib : InB (Wb.heap.size + 1) g [1, 2] A
  rs : RsB A Wb.heap.size 0 (smp now gone i) false mo
theorem SmI.st {Wb : World} {g : SL} {now : Int} {gone : List En} {mo : Bool} {i : Nat} {A B : World} (h : SmI Wb g now gone mo i A) {N : Nat} (k : StN N A B) (hN : Wb.heap.size ≤ N) : SmI Wb g now gone mo i B := ⟨k.below h.bl hN, h.ib.st k, k.cells h.rs⟩
theorem smp_next {now : Int} {es : List En} {i : Nat} {e : En} (he : es[i]? = some e) : smp now es (i + 1) = if (e.st = 1 ∨ e.st = 2) ∧ e.sn = 1 then IntKind.i64.wrap (now - e.la) else smp now es i := by rw [smp, he]
end
end Go.Proofs.YtnlkdlnmffibhaaGreat
