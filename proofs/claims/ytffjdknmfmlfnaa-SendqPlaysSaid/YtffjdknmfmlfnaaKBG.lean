/- KBG of the stage: texts Q45, joined. -/
import Derived.Test.YtffjdknmfmlfnaaKBF
set_option linter.unusedSimpArgs false
set_option linter.unusedVariables false
namespace Go.Proofs.Ytffjdknmfmlfnaa
section
open Go.RowKit Go.Maps
attribute [local go_sem] Oper.semAt_some

def ordB (x : CZ) : Bool := bits .and .u8 x.fl 4 == 0
/-- What Forward tells behind the first i entries: the number, whether there is one, what is to be skipped. -/
def fwE (f : Int) (es : List En) : Nat → Int × Bool × List (Int × Int)
  | 0 => (f, false, [])
  | i + 1 => match es[i]? with | some e => if e.st = 4 then (e.c.a, true, if ordB e.c = true then skL (fwE f es i).2.2 e.c.ou e.c.si else (fwE f es i).2.2) else fwE f es i | none => fwE f es i
theorem fwE_no {f : Int} {es : List En} {i : Nat} {e : En} (he : es[i]? = some e) (h : e.st ≠ 4) : fwE f es (i + 1) = fwE f es i := by
  rw [fwE, he]
  dsimp only
  rw [if_neg h]
theorem fwE_yes {f : Int} {es : List En} {i : Nat} {e : En} (he : es[i]? = some e) (h : e.st = 4) : fwE f es (i + 1) = (e.c.a, true, if ordB e.c = true then skL (fwE f es i).2.2 e.c.ou e.c.si else (fwE f es i).2.2) := by
  rw [fwE, he]
  dsimp only
  rw [if_pos h]
theorem fwE_len (f : Int) (es : List En) : ∀ i, (fwE f es i).2.2.length ≤ i
  | 0 => Nat.le_refl _
  | i + 1 => by
    have ih := fwE_len f es i
    rw [fwE]
    cases es[i]? with
    | none => dsimp only; omega
    | some e =>
      dsimp only
      split
      · dsimp only
        split
        · have := skL_len (fwE f es i).2.2 e.c.ou e.c.si
          omega
        · omega
      · omega
structure FwJ (w : World) (g : SL) (f : Int) (es : List En) (i : Nat) (A : World) : Prop where
  bl : Below w.heap.size w A
  ib : InB (w.heap.size + 3) g [4] A
  c5 : A.heap[w.heap.size]? = some (.cells #[.int .u32 (fwE f es i).1] 22 (0, 0))
  c6 : A.heap[w.heap.size + 1]? = some (.cells #[.bool (fwE f es i).2.1] 4 (0, 0))
  sk : ∃ s : SL, A.heap[w.heap.size + 2]? = some (.cells #[.slice s.1 s.2.1 s.2.2] 41 (0, 0)) ∧ A.ownsRow (w.heap.size + 3) 101 2 (.slice s.1 s.2.1 s.2.2) s.2.1 (flatF blC (fwE f es i).2.2)
theorem FwJ.st {w : World} {g : SL} {f : Int} {es : List En} {i : Nat} {A B : World} {N : Nat} (h : FwJ w g f es i A) (k : StN N A B) (hN : w.heap.size ≤ N) : FwJ w g f es i B := by
  obtain ⟨s, h1, h2⟩ := h.sk
  exact ⟨k.below h.bl hN, h.ib.st k, k.cells h.c5, k.cells h.c6, s, k.cells h1, k.own h2⟩
/-- The number and whether there is one are written. -/
theorem FwJ.two {w : World} {g : SL} {f : Int} {es : List En} {i : Nat} {A : World} (h : FwJ w g f es i A) {n : Int} {l : List (Int × Int)} (hy : fwE f es (i + 1) = (n, true, l)) (hl : l = (fwE f es i).2.2) : FwJ w g f es (i + 1) ((A.setCell ⟨w.heap.size, 0, none⟩ (.int .u32 n)).setCell ⟨w.heap.size + 1, 0, none⟩ (.bool true)) := by
  obtain ⟨s, h1, h2⟩ := h.sk
  have p1 := part_set A w.heap.size 0 (.int .u32 n)
  have p2 := part_set (A.setCell ⟨w.heap.size, 0, none⟩ (.int .u32 n)) (w.heap.size + 1) 0 (.bool true)
  have k := (Kpt.of_part (ok := fun x => x ≠ w.heap.size ∧ x ≠ w.heap.size + 1) p1 fun _ h => h.1).trans (Kpt.of_part p2 fun _ h => h.2)
  refine ⟨(h.bl.setCell (p := ⟨w.heap.size, 0, none⟩) (Nat.le_refl _) _).setCell (p := ⟨w.heap.size + 1, 0, none⟩) (Nat.le_succ _) _, h.ib.kept k (by omega) (by omega) (by omega), ?_, ?_, s, k.cells _ _ _ _ (by omega) h1, ?_⟩
  · rw [hy]
    exact set_other (heap_setCell_same A w.heap.size 0 _ _ _ h.c5) (by omega)
  · rw [hy]
    exact heap_setCell_same _ (w.heap.size + 1) 0 _ _ _ (set_other h.c6 (by omega))
  · rw [hy, hl]
    exact k.own h2 fun g hg => by have := (h2.lt g hg).1; omega
theorem FwJ.skip {w : World} {g : SL} {f : Int} {es : List En} {i : Nat} {A B : World} {n : Int} {l : List (Int × Int)} {s : SL} {s' : SL} (h : FwJ w g f es i A) (h1 : A.heap[w.heap.size + 2]? = some (.cells #[.slice s.1 s.2.1 s.2.2] 41 (0, 0))) (h2 : A.ownsRow (w.heap.size + 3) 101 2 (.slice s.1 s.2.1 s.2.2) s.2.1 (flatF blC (fwE f es i).2.2)) (hy : fwE f es (i + 1) = (n, true, l))
    (hp : SkP ((A.setCell ⟨w.heap.size, 0, none⟩ (.int .u32 n)).setCell ⟨w.heap.size + 1, 0, none⟩ (.bool true)).drew (w.heap.size + 3) s.1 s.2.1 s.2.2 l s' B) : FwJ w g f es (i + 1) (B.setCell ⟨w.heap.size + 2, 0, none⟩ (.slice s'.1 s'.2.1 s'.2.2)) ∧ KeepsOthers A (B.setCell ⟨w.heap.size + 2, 0, none⟩ (.slice s'.1 s'.2.1 s'.2.2)) := by
  have p1 := part_set A w.heap.size 0 (.int .u32 n)
  have p2 := part_set (A.setCell ⟨w.heap.size, 0, none⟩ (.int .u32 n)) (w.heap.size + 1) 0 (.bool true)
  have p3 := part_set B (w.heap.size + 2) 0 (.slice s'.1 s'.2.1 s'.2.2)
  have hge : ∀ i, (Value.slice s.1 s.2.1 s.2.2).ownBlock = some i → w.heap.size + 3 ≤ i := fun i hi => (h2.lt i hi).1
  have k1 := (Kpt.of_part (ok := fun x => x ≠ w.heap.size ∧ x ≠ w.heap.size + 1) p1 fun _ h => h.1).trans (Kpt.of_part p2 fun _ h => h.2)
  have b1 : Below w.heap.size w ((A.setCell ⟨w.heap.size, 0, none⟩ (.int .u32 n)).setCell ⟨w.heap.size + 1, 0, none⟩ (.bool true)).drew := ((h.bl.setCell (p := ⟨w.heap.size, 0, none⟩) (Nat.le_refl _) _).setCell (p := ⟨w.heap.size + 1, 0, none⟩) (Nat.le_succ _) _).drew
  have hty : ∀ {x : Nat} {cs : Array Value} {t : TypeId} {fr : Nat × Nat}, A.heap[x]? = some (.cells cs t fr) → t ≠ 101 → ¬ (Value.slice s.1 s.2.1 s.2.2).ownBlock = some x := fun hx ht ee => by
    obtain ⟨cur, fr', hcur⟩ := own_cells h2 ee
    exact cells_cells hx hcur ht rfl
  have k2 := Kpt.of_part (ok := fun x => ¬ (Value.slice s.1 s.2.1 s.2.2).ownBlock = some x) hp.part fun _ h => h
  have k3 := Kpt.of_part (ok := fun x => ¬ x = w.heap.size + 2) p3 fun _ h => h
  have i1 : InB (w.heap.size + 3) g [4] ((A.setCell ⟨w.heap.size, 0, none⟩ (.int .u32 n)).setCell ⟨w.heap.size + 1, 0, none⟩ (.bool true)).drew := (h.ib.kept k1 (by omega) (by omega) (by omega)).st (StN.drew 0 _)
  have i2 := (i1.kept k2 (hty h.ib.sb (by decide)) (hty h.ib.db (by decide)) (hty h.ib.tb (by decide))).kept k3 (by omega) (by omega) (by omega)
  refine ⟨⟨(b1.trans ((hp.part.below b1.size fun i hi => by have := hge i hi; omega))).setCell (p := ⟨w.heap.size + 2, 0, none⟩) (by show w.heap.size ≤ w.heap.size + 2; omega) _, i2, ?_, ?_, s', ?_, ?_⟩, ?_⟩
  · rw [hy]
    exact k3.cells _ _ _ _ (by omega) (k2.cells _ _ _ _ (fun ee => by have := hge _ ee; omega) (show (((A.setCell ⟨w.heap.size, 0, none⟩ (.int .u32 n)).setCell ⟨w.heap.size + 1, 0, none⟩ (.bool true)).drew).heap[w.heap.size]? = _ from set_other (heap_setCell_same A w.heap.size 0 _ _ _ h.c5) (by omega)))
  · rw [hy]
    exact k3.cells _ _ _ _ (by omega) (k2.cells _ _ _ _ (fun ee => by have := hge _ ee; omega) (show (((A.setCell ⟨w.heap.size, 0, none⟩ (.int .u32 n)).setCell ⟨w.heap.size + 1, 0, none⟩ (.bool true)).drew).heap[w.heap.size + 1]? = _ from heap_setCell_same _ (w.heap.size + 1) 0 _ _ _ (set_other h.c6 (by omega))))
  · exact heap_setCell_same B (w.heap.size + 2) 0 _ _ _ (k2.cells _ _ _ _ (fun ee => by have := hge _ ee; omega) (show (((A.setCell ⟨w.heap.size, 0, none⟩ (.int .u32 n)).setCell ⟨w.heap.size + 1, 0, none⟩ (.bool true)).drew).heap[w.heap.size + 2]? = _ from k1.cells _ _ _ _ (by omega) h1))
  · rw [hy]
    exact ownsRow_setCell_below hp.row (by show w.heap.size + 2 < w.heap.size + 3; omega) _
  · exact ((((KeepsOthers.setCell _ _ _).trans (KeepsOthers.setCell _ _ _)).trans (KeepsOthers.drew _)).trans hp.ko).trans (KeepsOthers.setCell _ _ _)
theorem FwJ.aft {w A B : World} {n : Int} {l l0 : List (Int × Int)} {s s' : SL} (h1 : A.heap[w.heap.size + 2]? = some (.cells #[.slice s.1 s.2.1 s.2.2] 41 (0, 0))) (h2 : A.ownsRow (w.heap.size + 3) 101 2 (.slice s.1 s.2.1 s.2.2) s.2.1 (flatF blC l0))
    (hp : SkP ((A.setCell ⟨w.heap.size, 0, none⟩ (.int .u32 n)).setCell ⟨w.heap.size + 1, 0, none⟩ (.bool true)).drew (w.heap.size + 3) s.1 s.2.1 s.2.2 l s' B) {p : Nat} {cs : Array Value} (hc : A.heap[p]? = some (.cells cs 78 (0, 0))) (hpl : p < w.heap.size) (v : Value) :
    B.heap[w.heap.size + 2]? = some (.cells #[.slice s.1 s.2.1 s.2.2] 41 (0, 0)) ∧ B.heap[p]? = some (.cells cs 78 (0, 0)) ∧ (B.setCell ⟨w.heap.size + 2, 0, none⟩ v).heap[p]? = some (.cells cs 78 (0, 0)) := by
  have k2 := Kpt.of_part (ok := fun x => ¬ (Value.slice s.1 s.2.1 s.2.2).ownBlock = some x) hp.part fun _ h => h
  have hge : ∀ i, (Value.slice s.1 s.2.1 s.2.2).ownBlock = some i → w.heap.size + 3 ≤ i := fun i hi => (h2.lt i hi).1
  have g1 := k2.cells (w.heap.size + 2) _ _ _ (fun ee => by have := hge _ ee; omega) (show (((A.setCell ⟨w.heap.size, 0, none⟩ (.int .u32 n)).setCell ⟨w.heap.size + 1, 0, none⟩ (.bool true)).drew).heap[w.heap.size + 2]? = _ from set_other (set_other h1 (by omega)) (by omega))
  have g2 := k2.cells p _ _ _ (fun ee => by have := hge _ ee; omega) (show (((A.setCell ⟨w.heap.size, 0, none⟩ (.int .u32 n)).setCell ⟨w.heap.size + 1, 0, none⟩ (.bool true)).drew).heap[p]? = _ from set_other (set_other hc (by omega)) (by omega))
  exact ⟨g1, g2, set_other g2 (by omega)⟩
theorem z12_row {W : World} {e : En} (h : W.heap[e.p]? = some (.cells e.cells.toArray 78 (0, 0))) : Z12 W e.p 0 e.c := Z12.of fun j v hv => by
  rw [Nat.zero_add]
  refine upd_cell h j v ?_
  rw [List.getElem?_toArray, En.cells, List.getElem?_append_left (List.getElem?_eq_some_iff.1 hv).1]
  exact hv
set_option maxRecDepth 100000 in
set_option maxHeartbeats 4000000 in
theorem Forward_any {w : World} {G : Gq} {q : Qm} (h : QA w G q) :
    Calls Try.prog 25 #[.pointer (some ⟨G.b, 0, none⟩)] w fun e w' => ∃ s : SL, e = .returned (.tuple #[.int .u32 (fwE (flr q) (q.es.take (dnN q.es)) (dnN q.es)).1, .slice s.1 s.2.1 s.2.2, .bool (fwE (flr q) (q.es.take (dnN q.es)) (dnN q.es)).2.1]) ∧ Below w.heap.size w w' ∧ w'.ownsRow (w.heap.size + 3) 101 2 (.slice s.1 s.2.1 s.2.2) s.2.1 (flatF blC (fwE (flr q) (q.es.take (dnN q.es)) (dnN q.es)).2.2) := by
  have hmix : Try.prog.follows .mixedOrders = true := by kernel_rfl
  have F1 : Fence.wide.fn 54 := trivial
  have F2 : Fence.wide.fn 44 := trivial
  have F3 : Fence.wide.fn 14 := trivial
  have F4 : Fence.wide.fn 55 := trivial
  obtain ⟨d, hd⟩ : ∃ d, dnN q.es = d := ⟨_, rfl⟩
  have hdl : d ≤ q.es.length := by rw [← hd]; exact dnN_le q.es
  have HES := keep (fun (A : Option Addr) (c : Nat) (hA : d ≠ 0 → A = G.s.1) => h.es_take hdl c hA)
  have HFL := keep ((Floor_any h).mono (fun e w' hh => show e = .returned (.int .u32 (flr q)) ∧ Hid (Below w.heap.size w w' ∧ w'.heap.size = w.heap.size) from by
    obtain ⟨rfl, k, rfl⟩ := hh
    exact ⟨rfl, keep ⟨below_drewN (Below.refl _ w) k, rfl⟩⟩))
  have HDN := keep (fun W (hb : Below w.heap.size w W) => (done_any (h.step hb)).mono (fun e w' hh => show (∃ A c, e = .returned (.slice A d c) ∧ Hid (d ≠ 0 → A = G.s.1)) ∧ W = w' from by
    obtain ⟨⟨A, c, rfl, _, h2⟩, rfl⟩ := hh
    rw [hd] at h2 ⊢
    exact ⟨⟨A, c, rfl, keep h2⟩, rfl⟩))
  have hle : d ≤ 1024 := Nat.le_trans hdl h.le
  rw [hd]
  obtain ⟨es, hes⟩ : ∃ es, q.es.take d = es := ⟨_, rfl⟩
  have hel : es.length = d := by rw [← hes, List.length_take]; omega
  rw [hes]
  rw [hes] at HES
  obtain ⟨f, hf⟩ : ∃ f, flr q = f := ⟨_, rfl⟩
  rw [hf] at HFL ⊢
  obtain ⟨FE, hFE⟩ : ∃ FE, fwE f es d = FE := ⟨_, rfl⟩
  rw [hFE]
  have HFE := keep hFE
  clear hf hes hd hdl h hFE
  refine (callsIn_wide (n := 5)).1 ?_
  refine callsIn_of_wp_marks Try.func25 rfl trivial ?_ rfl
  simp only [Try.ntmps25, List.size_toArray, List.length_cons, List.length_nil, Nat.reduceAdd, Nat.reduceSub, Array.replicate_succ, Array.replicate_zero, List.push_toArray, List.append_toArray, List.nil_append, List.cons_append]
  gi_wp2_with (first
    | (gi_at_call 14; refine (callsIn_wide.2 HFL.out).mono ?_; rintro e W0 ⟨rfl, hW0⟩
       have HBW := keep (up (up hW0.out.1 (below_lay W0 (.cells #[.int .u32 f] 22))) (below_lay _ (.cells #[.bool false] 4))))
    | (gi_at_call 54; refine (callsIn_wide.2 (HDN.out _ (up HBW.out (below_lay _ (.cells #[.slice none 0 0] 41))))).mono ?_; rintro e w' ⟨⟨A0, c0, rfl, hA0⟩, rfl⟩)
    | (gi_at_call 44; refine (callsIn_wide.2 (in_any _ _ _ _ _ _ _)).mono ?_; rintro e w' ⟨rfl, rfl⟩))
  have HE0 := keep ((HES.out A0 c0 hA0.out).step hW0.out.1)
  generalize hW1 : World.alloc _ _ = W1
  have J0 : FwJ W0 (A0, d, c0) f es 0 W1 := by
    rw [← hW1]
    have hb := up (up (below_lay W0 (.cells #[.int .u32 f] 22)) (below_lay _ (.cells #[.bool false] 4))) (below_lay _ (.cells #[.slice none 0 0] 41))
    exact ⟨up hb (below_in _ _ _ _), InB.start _ _ (by simp) (A0, d, c0) [4], below_new (below_new (below_new (below_new (below_new (heap_new_at rfl))))), below_new (below_new (below_new (below_new (heap_new_at (by simp))))), (none, 0, 0), below_new (below_new (below_new (heap_new_at (by simp)))), World.ownsRow_nil _ _ _ _⟩
  have hs1 : W0.heap.size ≤ W1.heap.size := J0.bl.size
  clear hW1 hA0 HES HBW
  have hps : (es.map En.p).length = es.length := List.length_map _
  refine rangeFunc_ix (n := 5) rfl (by omega) (gf := 68) (lb := #[.pointer (some ⟨W0.heap.size + 1 + 1 + 1 + 1, 0, none⟩), .pointer (some ⟨W0.heap.size + 1 + 1 + 1 + 1 + 1, 0, none⟩)]) rfl trivial (enters_of Try.func68 (by kernel_rfl) rfl) (N := (es.map En.p).length) (enc := encP (es.map En.p)) (fun _ => rfl)
    (InX (es.map En.p) [4]) (fun _ => InOwn (W0.heap.size + 3 + 1) (W0.heap.size + 3 + 2) (A0, d, c0) (some ⟨W0.heap.size + 3, 0, none⟩, 1, 1) (es.map En.p) [4]) (fun _ _ => True)
    (FwJ W0 (A0, d, c0) f es) (fun _ _ => False)
    (in1_seq (5 - 1) (by omega) _ _ _ _ (es.map En.p) [4] (by rw [hps, hel]; exact hle) (by decide) _ _)
    (fun i A B st h => h.st st hs1) (fun _ _ _ _ h => h) (fun i A B st h => in_x st h)
    (fun _ _ _ _ _ _ _ _ _ _ _ _ _ _ => trivial)
    (fun i A h => (HE0.out.step h.bl).own h.ib)
    (fun i A hi h hx => by
      obtain ⟨e, he, _⟩ := ES.get es hi
      have hne : e.st ≠ 4 := fun hh => hx (((HE0.out.step h.bl).x he).2 (by rw [hh]; exact List.mem_singleton.2 rfl))
      obtain ⟨s, h1, h2⟩ := h.sk
      exact ⟨h.bl, h.ib, by rw [fwE_no he hne]; exact h.c5, by rw [fwE_no he hne]; exact h.c6, s, h1, by rw [fwE_no he hne]; exact h2⟩)
    J0 ?round ?done (fun _ _ _ _ h _ => h.elim)
  case round =>
    rintro l i A hl hi hJ hx
    obtain ⟨e, he, hge⟩ := ES.get es hi
    have hst := List.mem_singleton.1 (((HE0.out.step hJ.bl).x he).1 hx)
    simp only [Array.zip, encP]
    rw [hge]
    have HI := keep hi
    have HE := keep he
    have HY := keep (fwE_yes (f := f) he hst)
    clear hJ hx he hge hi hst
    gi_wp2
    refine ⟨by first | rfl | trivial, fun A2 hJ2 hx2 => ?_⟩
    have hee := HE0.out.step hJ2.bl
    have hem := List.mem_of_getElem? HE.out
    have y1 := hee.at_ hem 1 _ rfl
    have y2 := hee.at_ hem 2 _ rfl
    obtain ⟨s, hs, hrow⟩ := hJ2.sk
    have c5 := upd_cell hJ2.c5 0 _ rfl
    have f5 := upd_fz hJ2.c5 0
    have c6 := upd_cell hJ2.c6 0 _ rfl
    have f6 := upd_fz hJ2.c6 0
    have c7 := upd_cell hs 0 _ rfl
    have f7 := upd_fz hs 0
    have HEB := keep (hee.en e hem).1
    have hpl : e.p < W0.heap.size := (Array.getElem?_eq_some_iff.1 (HE0.out.en e hem).1).1
    have n5 : W0.heap.size ≠ e.p := by omega
    have n6 : W0.heap.size + 1 ≠ e.p := by omega
    have HJ := keep hJ2
    have HRW := keep hrow
    have HSS := keep hs
    obtain ⟨s1, s2, s3⟩ := s
    dsimp only at c7 HRW HSS
    have hlen := fwE_len f es i
    have HLN := keep (show s2 ≤ 2000 by
      have h1 := hrow.1
      dsimp only at h1
      rw [flatF_len blC_len] at h1
      have h2 := HI.out
      rw [hps, hel] at h2
      omega)
    clear hJ2 hx2 hee hem hs hrow hlen
    obtain ⟨r, hr⟩ : ∃ r, ordB e.c = r := ⟨_, rfl⟩
    have HR := keep hr
    unfold ordB at hr
    clear HE0
    cases r with
    | false =>
      gi_wp2
      refine ⟨((KeepsOthers.setCell _ _ _).trans (KeepsOthers.setCell _ _ _)).from _, trivial, ?_⟩
      exact HJ.out.two HY.out (by rw [if_neg (by rw [HR.out]; decide)])
    | true =>
      have HY2 := keep (HY.out.trans (by rw [if_pos HR.out]))
      have HA3 := keep (show (((A2.setCell ⟨W0.heap.size, 0, none⟩ (.int .u32 e.c.a)).setCell ⟨W0.heap.size + 1, 0, none⟩ (.bool true)).drew).ownsRow (W0.heap.size + 3) 101 2 (.slice s1 s2 s3) s2 (flatF blC (fwE f es i).2.2) from
        ownsRow_setCell_below (ownsRow_setCell_below HRW.out (by show W0.heap.size < W0.heap.size + 3; omega) _) (by show W0.heap.size + 1 < W0.heap.size + 3; omega) _)
      have HSZ := keep (show W0.heap.size + 3 ≤ A2.heap.size by have := (Array.getElem?_eq_some_iff.1 HSS.out).1; omega)
      have KSK := keep (skipping_any HA3.out HLN.out (by show W0.heap.size + 3 ≤ ((A2.setCell ⟨W0.heap.size, 0, none⟩ (.int .u32 e.c.a)).setCell ⟨W0.heap.size + 1, 0, none⟩ (.bool true)).heap.size; have := HSZ.out; simp; omega) e.c)
      have HAF := keep (fun (s' : SL) (B : World) hp v => FwJ.aft (s := (s1, s2, s3)) (s' := s') (B := B) (n := e.c.a) (l := skL (fwE f es i).2.2 e.c.ou e.c.si) HSS.out HRW.out hp HEB.out hpl v)
      have HSK := keep (fun (s' : SL) (B : World) hp => HJ.out.skip (s := (s1, s2, s3)) (s' := s') (B := B) HSS.out HRW.out HY2.out hp)
      have HZ3 := keep (show Z12 (((A2.setCell ⟨W0.heap.size, 0, none⟩ (.int .u32 e.c.a)).setCell ⟨W0.heap.size + 1, 0, none⟩ (.bool true)).drew) e.p 0 e.c from
        z12_row (set_other (set_other HEB.out (fun h => n5 h.symm)) (fun h => n6 h.symm)))
      have c7' : (((A2.setCell ⟨W0.heap.size, 0, none⟩ (.int .u32 e.c.a)).setCell ⟨W0.heap.size + 1, 0, none⟩ (.bool true)).drew).cell? ⟨W0.heap.size + 2, 0, none⟩ = some (.slice s1 s2 s3) := upd_cell (set_other (set_other HSS.out (by omega)) (by omega)) 0 _ rfl
      gi_wp2
      obtain ⟨W3, hW3⟩ : ∃ W3, (A2.setCell ⟨W0.heap.size, 0, none⟩ (.int .u32 e.c.a)).setCell ⟨W0.heap.size + 1, 0, none⟩ (.bool true) = W3 := ⟨_, rfl⟩
      rw [hW3] at KSK HAF HSK HZ3 c7' ⊢
      have HE2 := keep (show ∀ W, W.heap[e.p]? = some (.cells e.cells.toArray 78 (0, 0)) → Z12 W e.p 0 e.c from fun W hW => z12_row hW)
      clear hW3 HA3 HEB HJ HSS HRW HY HY2 HR hr y1 y2 c5 f5 c6 f6 c7 f7 HE
      obtain ⟨ep, ec, em, est, esn, ela, ems⟩ := e
      dsimp only at *
      generalize (En.cells ⟨ep, ec, em, est, esn, ela, ems⟩).toArray = ecs at *
      obtain ⟨xk, xf, xa, xb, xo, xs, xp, ⟨x1, x2, x3⟩, ⟨x4, x5, x6⟩, ⟨x7, x8, x9⟩, ⟨x10, x11, x12⟩, ⟨x13, x14, x15⟩, xbl, xdu, xsk, xpr, xbs⟩ := ec
      dsimp only at KSK HAF HSK HZ3 HE2
      refine wpIn_region_held (S := fun w' => Z12 w' ep 0 ⟨xk, xf, xa, xb, xo, xs, xp, ⟨x1, x2, x3⟩, ⟨x4, x5, x6⟩, ⟨x7, x8, x9⟩, ⟨x10, x11, x12⟩, ⟨x13, x14, x15⟩, xbl, xdu, xsk, xpr, xbs⟩) hmix (by kernel_rfl) (by rintro ⟨_, _, hh⟩; exact hh) HZ3.out (fun hHeld => ?_)
      refine wpAnyH_take (i := 1) (oi := ⟨some 29, _, _, _, _, _⟩) (v := ?vf1x1) rfl (by kernel_rfl) (by kernel_rfl) (by kernel_rfl) (fun _ _ _ h => h) (Or.inl ⟨by rfl, ?hyf1x1⟩) (by assumption) ?restf1x1
      case hyf1x1 => (intro wz hSw; go_simp <;> (try with_reducible rfl))
      try simp only [Act.put, List.setIfInBounds_toArray, List.set_cons_zero, List.set_cons_succ]
      refine wpAnyH_take (i := 2) (oi := ⟨some 30, _, _, _, _, _⟩) (v := ?vf2x2) rfl (by kernel_rfl) (by kernel_rfl) (by kernel_rfl) (fun _ _ _ h => h) (Or.inl ⟨by rfl, ?hyf2x2⟩) (by assumption) ?restf2x2
      case hyf2x2 => (intro wz hSw; go_simp <;> (try with_reducible rfl))
      try simp only [Act.put, List.setIfInBounds_toArray, List.set_cons_zero, List.set_cons_succ]
      refine wpAnyH_take (i := 3) (oi := ⟨some 31, _, _, _, _, _⟩) (v := ?vf3x3) rfl (by kernel_rfl) (by kernel_rfl) (by kernel_rfl) (fun _ _ _ h => h) (Or.inl ⟨by rfl, ?hyf3x3⟩) (by assumption) ?restf3x3
      case hyf3x3 => (intro wz hSw; go_simp <;> (try with_reducible rfl))
      try simp only [Act.put, List.setIfInBounds_toArray, List.set_cons_zero, List.set_cons_succ]
      refine wpAnyH_take (i := 4) (oi := ⟨some 32, _, _, _, _, _⟩) (v := ?vf4x4) rfl (by kernel_rfl) (by kernel_rfl) (by kernel_rfl) (fun _ _ _ h => h) (Or.inl ⟨by rfl, ?hyf4x4⟩) (by assumption) ?restf4x4
      case hyf4x4 => (intro wz hSw; obtain ⟨z0, z1, z2, z3, z4, z5, z6, z7, z8, z9, z10, z11⟩ := hSw; dsimp only [Nat.zero_add] at z0 z1 z2 z3 z4 z5 z6 z7 z8 z9 z10 z11; go_simp <;> (try with_reducible rfl))
      try simp only [Act.put, List.setIfInBounds_toArray, List.set_cons_zero, List.set_cons_succ]
      refine wpAnyH_ready (rs := [0]) (by kernel_rfl) (by simp) (AllReadyH.cons (o := ⟨some 28, _, _, _, _, _⟩) rfl (fun K hK => ?_) AllReadyH.nil)
      go_simp
      refine hK.out _ _ HZ3.out (fun hHeld => ?_)
      clear hK K
      try simp only [Act.put, List.setIfInBounds_toArray, List.set_cons_zero, List.set_cons_succ]
      refine wpAnyH_ready (rs := [5]) (by kernel_rfl) (by simp) (AllReadyH.cons (o := ⟨some 33, _, _, _, _, _⟩) rfl (fun K hK => ?_) AllReadyH.nil)
      go_simp
      refine KSK.out.mono ?_
      rintro e1 B ⟨⟨t1, t2, t3⟩, rfl, hSk⟩
      obtain ⟨g1, g2, g3⟩ := HAF.out (t1, t2, t3) B hSk (.slice t1 t2 t3)
      have ct := upd_cell g1 0 _ rfl
      have ft := upd_fz g1 0
      have HG3 := keep g3
      (try go_wp2_with fail)
      refine hK.out _ _ (HE2.out B g2) (fun hHeld => ?_)
      clear hK K g1 g3
      try simp only [Act.put, List.setIfInBounds_toArray, List.set_cons_zero, List.set_cons_succ]
      refine wpAnyH_ready (rs := [6]) (by kernel_rfl) (by simp) (AllReadyH.cons (o := ⟨none, _, _, _, _, _⟩) rfl (fun K hK => ?_) AllReadyH.nil)
      go_simp
      refine hK.out _ _ (HE2.out _ HG3.out) (fun hHeld => ?_)
      clear hK K
      try simp only [Act.put, List.setIfInBounds_toArray, List.set_cons_zero, List.set_cons_succ]
      refine wpAnyH_done (by kernel_rfl) ?_ _
      gi_wp2
      exact ⟨(HSK.out (t1, t2, t3) B hSk).2.from _, trivial, (HSK.out (t1, t2, t3) B hSk).1⟩
  case done =>
    intro D A hD hJ hDd
    rw [hps, hel] at hJ
    obtain ⟨⟨s1, s2, s3⟩, hs, hrow⟩ := hJ.sk
    have g5 := hJ.c5
    have g6 := hJ.c6
    rw [HFE.out] at g5 g6 hrow
    have c0 := upd_cell g5 0 _ rfl
    have c1 := upd_cell g6 0 _ rfl
    have c2 := upd_cell hs 0 _ rfl
    dsimp only at c2 hrow
    have HJ := keep (And.intro hJ.bl hrow)
    have HD := keep hDd
    clear hJ hDd J0 hs hrow g5 g6
    obtain ⟨n', th, l'⟩ := FE
    dsimp only at c0 c1 HJ
    gi_wp2
    gi_region
    gi_wp2
    have hDd : A.drew.heap[D]? = some (.deferred (some [])) := HD.out
    have k1 := StN.putObj (N := W1.heap.size) (.deferred none) hDd rfl hD
    refine ⟨by simp, .inl ⟨_, _, rfl, run_takeDeferred hDd, ?_⟩⟩
    have hrow2 : A.drew.ownsRow (W0.heap.size + 3) 101 2 (.slice s1 s2 s3) s2 (flatF blC l') := HJ.out.2
    have hb2 := k1.below HJ.out.1.drew hs1
    have hrow3 := k1.own hrow2
    rw [hW0.out.2] at hrow3 hb2
    exact ⟨_, results_tmp3 rfl _ _ _, s1, s2, s3, rfl, hW0.out.1.trans hb2, hrow3⟩
end
end Go.Proofs.Ytffjdknmfmlfnaa
