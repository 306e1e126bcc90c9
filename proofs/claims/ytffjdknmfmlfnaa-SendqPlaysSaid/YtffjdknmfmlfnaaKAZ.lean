/- KAZ of the stage: texts Q24, joined. -/
import Derived.Test.YtffjdknmfmlfnaaKAI
import Derived.Test.YtffjdknmfmlfnaaKAV
set_option linter.unusedSimpArgs false
set_option linter.unusedVariables false
namespace Go.Proofs.Ytffjdknmfmlfnaa
section
open Go.RowKit Go.Maps
attribute [local go_sem] Oper.semAt_some

def missE (idx i : Nat) (e : En) : En := if e.st = 1 ∧ i < idx then (if wrap64 (e.ms + 1) = 3 then { e with ms := wrap64 (e.ms + 1), st := 2 } else { e with ms := wrap64 (e.ms + 1) }) else e
def missL (idx : Nat) (es : List En) : Nat → Bool
  | 0 => false
  | i + 1 => missL idx es i || (match es[i]? with | some e => decide (e.st = 1 ∧ i < idx ∧ wrap64 (e.ms + 1) = 3) | none => false)
theorem missE_off {idx i : Nat} (h : ¬ i < idx) (e : En) : missE idx i e = e := by unfold missE; rw [if_neg (fun hc => h hc.2)]
theorem missL_next {idx : Nat} {es : List En} {i : Nat} {e : En} (he : es[i]? = some e) : missL idx es (i + 1) = (missL idx es i || decide (e.st = 1 ∧ i < idx ∧ wrap64 (e.ms + 1) = 3)) := by rw [missL, he]
theorem missL_off {idx : Nat} (es : List En) {i : Nat} (h : idx ≤ i) : ∀ k, missL idx es (i + k) = missL idx es i
  | 0 => rfl
  | k + 1 => by
    rw [show i + (k + 1) = (i + k) + 1 by omega, missL, missL_off es h k]
    split
    · rw [decide_eq_false (by omega), Bool.or_false]
    · rw [Bool.or_false]
theorem updL_off {f : Nat → En → En} (es : List En) {i : Nat} (h : ∀ j e, i ≤ j → f j e = e) : ∀ k, updL f es (i + k) = updL f es i
  | 0 => rfl
  | k + 1 => by
    rw [show i + (k + 1) = (i + k) + 1 by omega]
    cases he : es[i + k]? with
    | some e => rw [updL_same _ _ _ he (h _ _ (by omega)), updL_off es h k]
    | none =>
      rw [← updL_off es h k]
      apply List.ext_getElem?
      intro j
      rw [updL_get, updL_get]
      by_cases hj : j < i + k
      · rw [if_pos (by omega), if_pos hj]
      · rw [if_neg hj]
        split
        · have : es[j]? = none := by rw [show j = i + k by omega]; exact he
          rw [this]
          rfl
        · rfl
structure MsB (w : World) (G : Gq) (q : Qm) (n : Int) (es : List En) (b : Bool) (A : World) : Prop where
  lq : LQ w G q.nx (w.heap.size + 2) [1] (q.es.map En.p) es q.mg A
  pe : Part (fun k => ∃ e ∈ q.es, e.p = k) w A
  nb : A.heap[w.heap.size]? = some (.cells #[.int .u32 n] 22 (0, 0))
  lb : A.heap[w.heap.size + 1]? = some (.cells #[.bool b] 4 (0, 0))
section
variable {w : World} {G : Gq} {q : Qm} {n : Int} {es : List En} {b : Bool} {A B : World}
theorem MsB.st (h : MsB w G q n es b A) {N : Nat} (k : StN N A B) (hN : w.heap.size ≤ N) : MsB w G q n es b B := ⟨h.lq.st k hN, h.pe.st k hN, k.cells h.nb, k.cells h.lb⟩
theorem MsB.setE (h : MsB w G q n es b A) (hO : ∀ i, G.O i → i < w.heap.size) {i : Nat} {e e' : En} (he : es[i]? = some e) (j : Nat) (v : Value) (hp : e'.p = e.p) (hc : e'.c = e.c) (hmm : e'.m = e.m) (hcs : e.cells.toArray.setIfInBounds j v = e'.cells.toArray) :
    MsB w G q n (es.set i e') b (A.setCell ⟨e.p, j, none⟩ v) := by
  have hlt := hO _ (h.lq.qa.en e (List.mem_of_getElem? he)).2.1
  have hin : ∃ x ∈ q.es, x.p = e.p := by
    have h1 : e.p ∈ es.map En.p := List.mem_map.2 ⟨e, List.mem_of_getElem? he, rfl⟩
    rw [h.lq.pp] at h1
    exact List.mem_map.1 h1
  exact ⟨h.lq.setE (by omega) hO he j v hp hc hmm hcs, h.pe.trans (part_set A e.p j v) fun k hk => .inl (by rw [hk]; exact hin), set_other h.nb (by omega), set_other h.lb (by omega)⟩
theorem MsB.loss (h : MsB w G q n es b A) (hO : ∀ i, G.O i → i < w.heap.size) (hF : ∀ i, G.F i → i < w.heap.size) (b' : Bool) : MsB w G q n es b' (A.setCell ⟨w.heap.size + 1, 0, none⟩ (.bool b')) :=
  ⟨h.lq.box hO hF (by omega) (by omega) 0 _, h.pe.trans (part_set A (w.heap.size + 1) 0 (.bool b')) fun k hk => .inr (by omega), set_other h.nb (by omega), heap_setCell_same A _ 0 _ _ _ h.lb⟩
end
structure MisP (w : World) (G : Gq) (q : Qm) (idx : Nat) (w' : World) : Prop where
  qa : QA w' G ⟨q.es.mapIdx (missE idx), q.nx, q.mg⟩
  pe : Part (fun k => ∃ e ∈ q.es, e.p = k) w w'
def MsI (w : World) (G : Gq) (q : Qm) (n : Int) (idx i : Nat) (A : World) : Prop := MsB w G q n (updL (missE idx) q.es i) (missL idx q.es i) A
set_option maxRecDepth 100000 in
set_option maxHeartbeats 4000000 in
theorem miss_any {w : World} {G : Gq} {q : Qm} (h : QA w G q) (n : Int) (idx : Nat) (hd : ∀ i e, q.es[i]? = some e → less32 e.c.a n = decide (i < idx)) :
    Calls Try.prog 48 #[.pointer (some ⟨G.b, 0, none⟩), .int .u32 n] w fun e w' => e = .returned (.bool (missL idx q.es q.es.length)) ∧ MisP w G q idx w' := by
  have hmix : Try.prog.follows .mixedOrders = true := by kernel_rfl
  have F2 : Fence.wide.fn 44 := trivial
  have F3 : Fence.wide.fn 73 := trivial
  have HO := keep h.olt
  have HF := keep h.flt
  have HQ := keep h
  have HD := keep hd
  have hps : (q.es.map En.p).length = q.es.length := List.length_map _
  have hle := h.le
  have HB1 := keep (up (below_lay w (.cells #[.int .u32 n] 22)) (below_lay _ (.cells #[.bool false] 4)))
  obtain ⟨q0, q1, f0, f1⟩ := (HQ.out.step HB1.out).b0
  clear h hd
  refine (callsIn_wide (n := 6)).1 ?_
  refine callsIn_of_wp_marks Try.func48 rfl trivial ?_ rfl
  simp only [Try.ntmps48, List.size_toArray, List.length_cons, List.length_nil, Nat.reduceAdd, Nat.reduceSub, Array.replicate_succ, Array.replicate_zero, List.push_toArray, List.append_toArray, List.nil_append, List.cons_append]
  gi_wp2_with (gi_at_call 44; refine (callsIn_wide.2 (in_any _ _ _ _ _ _ _)).mono ?_; rintro e w' ⟨rfl, rfl⟩)
  generalize hW1 : World.alloc _ _ = W1
  have J0 : MsI w G q n idx 0 W1 := by
    rw [← hW1]
    have hbB := up HB1.out (below_in _ (.cells ([1].map (Value.int .i64)).toArray 3) (.cells #[.slice G.s.1 G.s.2.1 G.s.2.2] 54) (.cells #[.slice (some ⟨w.heap.size + 2, 0, none⟩) 1 1] 115))
    refine ⟨by rw [updL_zero]; exact LQ.start HQ.out HB1.out (by simp) [1], Part.of_below _ hbB, ?_, ?_⟩
    · exact below_new (below_new (below_new (below_new (heap_new_at rfl))))
    · exact below_new (below_new (below_new (heap_new_at (by simp))))
  have hs1 : w.heap.size ≤ W1.heap.size := J0.lq.pt.size
  clear hW1 q0 q1 f0 f1
  refine rangeFunc_ix (n := 6) rfl (by omega) (gf := 68) (lb := #[.pointer (some ⟨w.heap.size + 1 + 1 + 1, 0, none⟩), .pointer (some ⟨w.heap.size + 1 + 1 + 1 + 1, 0, none⟩)]) rfl trivial (enters_of Try.func68 (by kernel_rfl) rfl) (N := (q.es.map En.p).length) (enc := encP (q.es.map En.p)) (fun _ => rfl)
    (InX (q.es.map En.p) [1]) (fun _ => InOwn (w.heap.size + 2 + 1) (w.heap.size + 2 + 2) G.s (some ⟨w.heap.size + 2, 0, none⟩, 1, 1) (q.es.map En.p) [1]) (fun _ _ => True)
    (MsI w G q n idx) (fun c A => c = .exit 0 ∧ MsI w G q n idx q.es.length A)
    (in1_seq (6 - 1) (by omega) _ _ _ _ (q.es.map En.p) [1] (by rw [hps]; exact hle) (by decide) _ _)
    (fun i A B st h => h.st st hs1) (fun c A B st h => ⟨h.1, h.2.st st hs1⟩)
    (fun i A B st h => by
      obtain ⟨p, y, h1, h2, h3⟩ := h
      exact ⟨p, y, h1, st.cell h2, h3⟩)
    (fun _ _ _ _ _ _ _ _ _ _ _ _ _ _ => trivial)
    (fun i A h => h.lq.own)
    (fun i A hi h hx => by
      obtain ⟨e, he, _⟩ := h.lq.get hi
      have hne := fun hx' => hx ((h.lq.x he).2 hx')
      rw [updL_at] at he
      have h1 : ¬ e.st = 1 := fun hc => hne (by rw [hc]; decide)
      unfold MsI
      rw [updL_same _ _ _ he (by unfold missE; rw [if_neg (fun hc => h1 hc.1)]), missL, he]
      simp only [h1, false_and, decide_false, Bool.or_false]
      exact h)
    J0 ?round ?done ?stop
  case round =>
    rintro l i A hl hi hJ hx
    obtain ⟨e, he, hge⟩ := hJ.lq.get hi
    have hst := (hJ.lq.x he).1 hx
    rw [updL_at] at he
    simp only [Array.zip, encP]
    rw [hge]
    have HI := keep hi
    have HE := keep he
    have HST := keep (List.mem_singleton.1 hst)
    clear hJ hx he hge hi hst
    gi_wp2
    refine ⟨by first | rfl | trivial, fun A2 hJ2 hx2 => ?_⟩
    have hg : (updL (missE idx) q.es i)[i]? = some e := by rw [updL_at]; exact HE.out
    have hea := hJ2.lq.qa.en e (List.mem_of_getElem? hg)
    have c2 : A2.cell? ⟨e.p, 2, none⟩ = some (Value.int .u32 e.c.a) := hea.1.at_ 2 _ rfl
    have cc : A2.cell? ⟨w.heap.size, 0, none⟩ = some (Value.int .u32 n) := upd_cell hJ2.nb 0 _ rfl
    have KD := fun W => Less_any e.c.a n W
    rw [HD.out i e HE.out] at KD
    have HJ2 := keep hJ2
    have HG := keep hg
    clear hJ2 hx2 hea hg
    by_cases hid : i < idx
    · rw [decide_eq_true hid] at KD
      replace KD := keep KD
      gi_wp2
      refine wpIn_region_held (S := fun w' => w'.cell? ⟨e.p, 2, none⟩ = some (.int .u32 e.c.a) ∧ w'.cell? ⟨w.heap.size, 0, none⟩ = some (.int .u32 n)) hmix (by kernel_rfl) (by rintro ⟨_, _, hh⟩; exact hh) ⟨c2, cc⟩ (fun hHeld => ?_)
      refine wpAnyH_take (i := 0) (oi := ⟨some 14, _, _, _, _, _⟩) (v := ?va1x0) rfl (by kernel_rfl) (by kernel_rfl) (by kernel_rfl) (fun _ _ _ h => h) (Or.inl ⟨by rfl, ?hya1x0⟩) (by assumption) ?resta1x0
      case hya1x0 => (rintro wz ⟨hS1, hS2⟩; go_simp <;> (try with_reducible rfl))
      try simp only [Act.put, List.setIfInBounds_toArray, List.set_cons_zero, List.set_cons_succ]
      refine wpAnyH_take (i := 1) (oi := ⟨some 15, _, _, _, _, _⟩) (v := ?va2x1) rfl (by kernel_rfl) (by kernel_rfl) (by kernel_rfl) (fun _ _ _ h => h) (Or.inl ⟨by rfl, ?hya2x1⟩) (by assumption) ?resta2x1
      case hya2x1 => (rintro wz ⟨hS1, hS2⟩; go_simp <;> (try with_reducible rfl))
      try simp only [Act.put, List.setIfInBounds_toArray, List.set_cons_zero, List.set_cons_succ]
      refine wpAnyH_take (i := 2) (oi := ⟨some 16, _, _, _, _, _⟩) (v := ?va3x2) rfl (by kernel_rfl) (by kernel_rfl) (by kernel_rfl) (fun _ _ _ h => h) (Or.inl ⟨by rfl, ?hya3x2⟩) (by assumption) ?resta3x2
      case hya3x2 => (rintro wz ⟨hS1, hS2⟩; go_simp <;> (try with_reducible rfl))
      try simp only [Act.put, List.setIfInBounds_toArray, List.set_cons_zero, List.set_cons_succ]
      refine wpAnyH_take (i := 3) (oi := ⟨some 17, _, _, _, _, _⟩) (v := ?va4x3) rfl (by kernel_rfl) (by kernel_rfl) (by kernel_rfl) (fun _ _ _ h => h) (Or.inl ⟨by rfl, ?hya4x3⟩) (by assumption) ?resta4x3
      case hya4x3 => (rintro wz ⟨hS1, hS2⟩; go_simp <;> (try with_reducible rfl))
      try simp only [Act.put, List.setIfInBounds_toArray, List.set_cons_zero, List.set_cons_succ]
      refine wpAnyH_take (i := 4) (oi := ⟨some 18, _, _, _, _, _⟩) (v := ?va5x4) rfl (by kernel_rfl) (by kernel_rfl) (by kernel_rfl) (fun _ _ _ h => h) (Or.inl ⟨by rfl, ?hya5x4⟩) (by assumption) ?resta5x4
      case hya5x4 => (rintro wz ⟨hS1, hS2⟩; go_simp <;> (try with_reducible rfl))
      try simp only [Act.put, List.setIfInBounds_toArray, List.set_cons_zero, List.set_cons_succ]
      refine wpAnyH_take (i := 5) (oi := ⟨some 19, _, _, _, _, _⟩) (v := ?va6x5) rfl (by kernel_rfl) (by kernel_rfl) (by kernel_rfl) (fun _ _ _ h => h) (Or.inl ⟨by rfl, ?hya6x5⟩) (by assumption) ?resta6x5
      case hya6x5 => (rintro wz ⟨hS1, hS2⟩; go_simp <;> (try with_reducible rfl))
      try simp only [Act.put, List.setIfInBounds_toArray, List.set_cons_zero, List.set_cons_succ]
      refine wpAnyH_ready (rs := [6]) (by kernel_rfl) (by simp) (AllReadyH.cons (o := ⟨some 20, _, _, _, _, _⟩) rfl (fun K hK => ?_) AllReadyH.nil)
      go_simp
      go_at_call 73
      refine (KD.out _).mono ?_
      rintro e1 w1 ⟨rfl, rfl⟩
      (try go_wp2_with fail)
      refine hK.out _ _ ⟨c2, cc⟩ (fun hHeld => ?_)
      clear hK K
      try simp only [Act.put, List.setIfInBounds_toArray, List.set_cons_zero, List.set_cons_succ]
      refine wpAnyH_take (i := 7) (oi := ⟨some 21, _, _, _, _, _⟩) (v := ?va7x7) rfl (by kernel_rfl) (by kernel_rfl) (by kernel_rfl) (fun _ _ _ h => h) (Or.inl ⟨by rfl, ?hya7x7⟩) (by assumption) ?resta7x7
      case hya7x7 => (rintro wz ⟨hS1, hS2⟩; go_simp <;> (try with_reducible rfl))
      try simp only [Act.put, List.setIfInBounds_toArray, List.set_cons_zero, List.set_cons_succ]
      refine wpAnyH_done (by kernel_rfl) ?_ _
      have hJ2 := HJ2.out
      have hg := HG.out
      have hea := hJ2.lq.qa.en e (List.mem_of_getElem? hg)
      have hlt := HO.out _ hea.2.1
      have hne : e.p ≠ w.heap.size + 1 := by omega
      have hne2 : w.heap.size + 1 ≠ e.p := by omega
      have f13 := hea.1.fz 13
      have f16 := hea.1.fz 16
      have c13 : A2.cell? ⟨e.p, 13, none⟩ = some (Value.int .i64 e.st) := hea.1.at_ 13 _ rfl
      have c16 : A2.cell? ⟨e.p, 16, none⟩ = some (Value.int .i64 e.ms) := hea.1.at_ 16 _ rfl
      have c5 : A2.cell? ⟨w.heap.size + 1, 0, none⟩ = some (Value.bool (missL idx q.es i)) := upd_cell hJ2.lb 0 _ rfl
      have f5 := upd_fz hJ2.lb 0
      clear hJ2 hg hea hlt
      have hid' := keep hid
      obtain ⟨z, hz⟩ : ∃ z, wrap64 (e.ms + 1) = z := ⟨_, rfl⟩
      have HZ := keep hz
      have hmE : missE idx i e = if z = 3 then { e with ms := z, st := 2 } else { e with ms := z } := by unfold missE; rw [if_pos ⟨HST.out, hid⟩, hz]
      have m1 := HJ2.out.setE HO.out (e' := { e with ms := z }) HG.out 16 (.int .i64 z) rfl rfl rfl rfl
      have g1 : ((updL (missE idx) q.es i).set i { e with ms := z })[i]? = some { e with ms := z } := by rw [List.getElem?_set, if_pos rfl, if_pos (List.getElem?_eq_some_iff.1 HG.out).1]
      by_cases h3 : z = 3
      · have HF2 : Hid (MsI w G q n idx (i + 1) (((A2.setCell ⟨e.p, 16, none⟩ (.int .i64 z)).setCell ⟨e.p, 13, none⟩ (.int .i64 2)).setCell ⟨w.heap.size + 1, 0, none⟩ (.bool true))) := keep (by
          have m2 := (m1.setE HO.out (e' := { e with ms := z, st := 2 }) g1 13 (.int .i64 2) rfl rfl rfl rfl).loss HO.out HF.out true
          rw [List.set_set] at m2
          unfold MsI
          rw [updL_next _ _ _ HE.out, hmE, if_pos h3, missL, HE.out]
          simp only [HST.out, hid, hz, h3, and_self, decide_true, Bool.or_true]
          rw [h3] at m2
          exact m2)
        subst h3
        clear hmE m1 g1
        gi_wp2
        exact ⟨((((KeepsOthers.setCell _ _ _).trans (KeepsOthers.setCell _ _ _)).trans (KeepsOthers.setCell _ _ _)).trans (KeepsOthers.drew _)).from _, trivial, HF2.out.st (StN.drew w.heap.size _) (Nat.le_refl _)⟩
      · have HF2 : Hid (MsI w G q n idx (i + 1) (A2.setCell ⟨e.p, 16, none⟩ (.int .i64 z))) := keep (by
          unfold MsI
          rw [updL_next _ _ _ HE.out, hmE, if_neg h3, missL_next HE.out, decide_eq_false (fun hc => h3 (by rw [← hz]; exact hc.2.2)), Bool.or_false]
          exact m1)
        clear hmE m1 g1
        gi_wp2
        exact ⟨((KeepsOthers.setCell _ _ _).trans (KeepsOthers.drew _)).from _, trivial, HF2.out.st (StN.drew w.heap.size _) (Nat.le_refl _)⟩
    · rw [decide_eq_false hid] at KD
      replace KD := keep KD
      gi_wp2
      refine wpIn_region_held (S := fun w' => w'.cell? ⟨e.p, 2, none⟩ = some (.int .u32 e.c.a) ∧ w'.cell? ⟨w.heap.size, 0, none⟩ = some (.int .u32 n)) hmix (by kernel_rfl) (by rintro ⟨_, _, hh⟩; exact hh) ⟨c2, cc⟩ (fun hHeld => ?_)
      refine wpAnyH_take (i := 0) (oi := ⟨some 14, _, _, _, _, _⟩) (v := ?vb1x0) rfl (by kernel_rfl) (by kernel_rfl) (by kernel_rfl) (fun _ _ _ h => h) (Or.inl ⟨by rfl, ?hyb1x0⟩) (by assumption) ?restb1x0
      case hyb1x0 => (rintro wz ⟨hS1, hS2⟩; go_simp <;> (try with_reducible rfl))
      try simp only [Act.put, List.setIfInBounds_toArray, List.set_cons_zero, List.set_cons_succ]
      refine wpAnyH_take (i := 1) (oi := ⟨some 15, _, _, _, _, _⟩) (v := ?vb2x1) rfl (by kernel_rfl) (by kernel_rfl) (by kernel_rfl) (fun _ _ _ h => h) (Or.inl ⟨by rfl, ?hyb2x1⟩) (by assumption) ?restb2x1
      case hyb2x1 => (rintro wz ⟨hS1, hS2⟩; go_simp <;> (try with_reducible rfl))
      try simp only [Act.put, List.setIfInBounds_toArray, List.set_cons_zero, List.set_cons_succ]
      refine wpAnyH_take (i := 2) (oi := ⟨some 16, _, _, _, _, _⟩) (v := ?vb3x2) rfl (by kernel_rfl) (by kernel_rfl) (by kernel_rfl) (fun _ _ _ h => h) (Or.inl ⟨by rfl, ?hyb3x2⟩) (by assumption) ?restb3x2
      case hyb3x2 => (rintro wz ⟨hS1, hS2⟩; go_simp <;> (try with_reducible rfl))
      try simp only [Act.put, List.setIfInBounds_toArray, List.set_cons_zero, List.set_cons_succ]
      refine wpAnyH_take (i := 3) (oi := ⟨some 17, _, _, _, _, _⟩) (v := ?vb4x3) rfl (by kernel_rfl) (by kernel_rfl) (by kernel_rfl) (fun _ _ _ h => h) (Or.inl ⟨by rfl, ?hyb4x3⟩) (by assumption) ?restb4x3
      case hyb4x3 => (rintro wz ⟨hS1, hS2⟩; go_simp <;> (try with_reducible rfl))
      try simp only [Act.put, List.setIfInBounds_toArray, List.set_cons_zero, List.set_cons_succ]
      refine wpAnyH_take (i := 4) (oi := ⟨some 18, _, _, _, _, _⟩) (v := ?vb5x4) rfl (by kernel_rfl) (by kernel_rfl) (by kernel_rfl) (fun _ _ _ h => h) (Or.inl ⟨by rfl, ?hyb5x4⟩) (by assumption) ?restb5x4
      case hyb5x4 => (rintro wz ⟨hS1, hS2⟩; go_simp <;> (try with_reducible rfl))
      try simp only [Act.put, List.setIfInBounds_toArray, List.set_cons_zero, List.set_cons_succ]
      refine wpAnyH_take (i := 5) (oi := ⟨some 19, _, _, _, _, _⟩) (v := ?vb6x5) rfl (by kernel_rfl) (by kernel_rfl) (by kernel_rfl) (fun _ _ _ h => h) (Or.inl ⟨by rfl, ?hyb6x5⟩) (by assumption) ?restb6x5
      case hyb6x5 => (rintro wz ⟨hS1, hS2⟩; go_simp <;> (try with_reducible rfl))
      try simp only [Act.put, List.setIfInBounds_toArray, List.set_cons_zero, List.set_cons_succ]
      refine wpAnyH_ready (rs := [6]) (by kernel_rfl) (by simp) (AllReadyH.cons (o := ⟨some 20, _, _, _, _, _⟩) rfl (fun K hK => ?_) AllReadyH.nil)
      go_simp
      go_at_call 73
      refine (KD.out _).mono ?_
      rintro e1 w1 ⟨rfl, rfl⟩
      (try go_wp2_with fail)
      refine hK.out _ _ ⟨c2, cc⟩ (fun hHeld => ?_)
      clear hK K
      try simp only [Act.put, List.setIfInBounds_toArray, List.set_cons_zero, List.set_cons_succ]
      refine wpAnyH_take (i := 7) (oi := ⟨some 21, _, _, _, _, _⟩) (v := ?vb7x7) rfl (by kernel_rfl) (by kernel_rfl) (by kernel_rfl) (fun _ _ _ h => h) (Or.inl ⟨by rfl, ?hyb7x7⟩) (by assumption) ?restb7x7
      case hyb7x7 => (rintro wz ⟨hS1, hS2⟩; go_simp <;> (try with_reducible rfl))
      try simp only [Act.put, List.setIfInBounds_toArray, List.set_cons_zero, List.set_cons_succ]
      refine wpAnyH_done (by kernel_rfl) ?_ _
      have HF2 : Hid (MsI w G q n idx q.es.length A2) := keep (by
        have hil : i ≤ q.es.length := by have := HI.out; omega
        have h1 := updL_off (f := missE idx) q.es (i := i) (fun j e hj => missE_off (by omega) e) (q.es.length - i)
        have h2 := missL_off q.es (idx := idx) (i := i) (by omega) (q.es.length - i)
        rw [show i + (q.es.length - i) = q.es.length by omega] at h1 h2
        unfold MsI
        rw [h1, h2]
        exact HJ2.out)
      gi_wp2
      exact ⟨(KeepsOthers.drew A2).from _, trivial, rfl, HF2.out.st (StN.drew w.heap.size A2) (Nat.le_refl _)⟩
  case done =>
    intro D A hD hJ hDd
    have k1 := StN.putObj (N := W1.heap.size) (.deferred none) hDd rfl hD
    rw [hps] at hJ
    have ct := upd_cell hJ.lb 0 _ rfl
    have h2 := MsB.st hJ k1 hs1
    rw [updL_all] at h2
    have HF1 := keep (show MisP w G q idx _ from ⟨h2.lq.qa, h2.pe⟩)
    clear h2 J0 hJ
    gi_wp2
    refine ⟨by simp, .inl ⟨_, _, rfl, run_takeDeferred hDd, ?_⟩⟩
    exact ⟨_, results_tmp rfl _ _ _, rfl, HF1.out⟩
  case stop =>
    intro c D A hD hJ hDd
    have k1 := StN.putObj (N := W1.heap.size) (.deferred none) hDd rfl hD
    obtain ⟨rfl, hJ⟩ := hJ
    have ct := upd_cell hJ.lb 0 _ rfl
    have h2 := MsB.st hJ k1 hs1
    rw [updL_all] at h2
    have HF1 := keep (show MisP w G q idx _ from ⟨h2.lq.qa, h2.pe⟩)
    clear h2 J0 hJ
    gi_wp2
    refine ⟨by simp, .inl ⟨_, _, rfl, run_takeDeferred hDd, ?_⟩⟩
    exact ⟨_, results_tmp rfl _ _ _, rfl, HF1.out⟩
end
end Go.Proofs.Ytffjdknmfmlfnaa
