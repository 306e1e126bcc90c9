/- KAN of the stage: texts Q45, GMath, GB, joined. -/
import Derived.Test.YtnlkdlnmffibhaaGreatKAM
import Derived.WalkKit
import Derived.WalkSpells
import Derived.KernelRfl
import Derived.Test.YtnlkdlnmffibhaaGreatProg
import Derived.Test.YtnlkdlnmffibhaaGreatKAB
import Derived.Test.YtnlkdlnmffibhaaGreatKAA
import Derived.Maps.OwnSet
import Derived.Maps.AppendAt
set_option linter.unusedSimpArgs false
set_option linter.unusedVariables false
set_option maxRecDepth 8000
namespace Go.Proofs.YtnlkdlnmffibhaaGreat
open List renaming setIfInBounds_toArray → lA, set_cons_zero → lZ, set_cons_succ → lS
open Go renaming wpAnyH_take → wT
open Go.Act renaming put → aP
section
open Go.RowKit Go.Maps
attribute [local go_sem] Oper.semAt_some
def ordB (x : CZ) : Bool := bits .and .u8 x.fl 4 == 0
def fwE (f : Int) (es : List En) : Nat → Int × Bool × List (Int × Int)
  | 0 => (f, false, [])
  | i + 1 => match es[i]? with | some e => if e.st = 4 then (e.c.a, true, if ordB e.c = true then skL (fwE f es i).2.2 e.c.ou e.c.si else (fwE f es i).2.2) else fwE f es i | none => fwE f es i
theorem fwE_no {f : Int} {es : List En} {i : Nat} {e : En} (he : es[i]? = some e) (h : e.st ≠ 4) : fwE f es (i + 1) = fwE f es i := by
  rw [fwE, he]
  dsimp only
  rw [if_neg h]
theorem fwE_yes {f : Int} {es : List En} {i : Nat} {e : En} (he : es[i]? = some e) (h : e.st = 4) : fwE f es (i + 1) = (e.c.a, true, if ordB e.c = true then skL (fwE f es i).2.2 e.c.ou e.c.si else (fwE f es i).2.2) := by
  rw [fwE, he]
  dsimp only
  rw [if_pos h]
theorem fwE_len (f : Int) (es : List En) : ∀ i, (fwE f es i).2.2.length ≤ i
  | 0 => Nat.le_refl _
  | i + 1 => by
    have ih := fwE_len f es i
    rw [fwE]
    cases es[i]? with
    | none => dsimp only; omega
    | some e =>
      dsimp only
      split
      · dsimp only
        split
        · have := skL_len (fwE f es i).2.2 e.c.ou e.c.si
          omega
        · omega
      · omega
structure FwJ (w : World) (g : SL) (f : Int) (es : List En) (i : Nat) (A : World) : Prop where
  bl : Below w.heap.size w A
  ib : InB (w.heap.size + 3) g [4] A
  c5 : A.heap[w.heap.size]? = some (.cells #[.int .u32 (fwE f es i).1] 22 (0, 0))
  c6 : A.heap[w.heap.size + 1]? = some (.cells #[.bool (fwE f es i).2.1] 4 (0, 0))
  sk : ∃ s : SL, A.heap[w.heap.size + 2]? = some (.cells #[.slice s.1 s.2.1 s.2.2] 38 (0, 0)) ∧ A.ownsRow (w.heap.size + 3) 167 2 (.slice s.1 s.2.1 s.2.2) s.2.1 (flatF blC (fwE f es i).2.2)
theorem FwJ.st {w : World} {g : SL} {f : Int} {es : List En} {i : Nat} {A B : World} {N : Nat} (h : FwJ w g f es i A) (k : StN N A B) (hN : w.heap.size ≤ N) : FwJ w g f es i B := by
  obtain ⟨s, h1, h2⟩ := h.sk
  exact ⟨k.below h.bl hN, h.ib.st k, k.cells h.c5, k.cells h.c6, s, k.cells h1, k.own h2⟩
theorem FwJ.two {w : World} {g : SL} {f : Int} {es : List En} {i : Nat} {A : World} (h : FwJ w g f es i A) {n : Int} {l : List (Int × Int)} (hy : fwE f es (i + 1) = (n, true, l)) (hl : l = (fwE f es i).2.2) : FwJ w g f es (i + 1) ((A.setCell ⟨w.heap.size, 0, none⟩ (.int .u32 n)).setCell ⟨w.heap.size + 1, 0, none⟩ (.bool true)) := by
  obtain ⟨s, h1, h2⟩ := h.sk
  have p1 := part_set A w.heap.size 0 (.int .u32 n)
  have p2 := part_set (A.setCell ⟨w.heap.size, 0, none⟩ (.int .u32 n)) (w.heap.size + 1) 0 (.bool true)
  have k := (Kpt.of_part (ok := fun x => x ≠ w.heap.size ∧ x ≠ w.heap.size + 1) p1 fun _ h => h.1).trans (Kpt.of_part p2 fun _ h => h.2)
  refine ⟨(h.bl.setCell (p := ⟨w.heap.size, 0, none⟩) (Nat.le_refl _) _).setCell (p := ⟨w.heap.size + 1, 0, none⟩) (Nat.le_succ _) _, h.ib.kept k (by omega) (by omega) (by omega), ?_, ?_, s, k.cells _ _ _ _ (by omega) h1, ?_⟩
  · rw [hy]
    exact set_other (heap_setCell_same A w.heap.size 0 _ _ _ h.c5) (by omega)
  · rw [hy]
    exact heap_setCell_same _ (w.heap.size + 1) 0 _ _ _ (set_other h.c6 (by omega))
  · rw [hy, hl]
    exact k.own h2 fun g hg => by have := (h2.lt g hg).1; omega
theorem FwJ.skip {w : World} {g : SL} {f : Int} {es : List En} {i : Nat} {A B : World} {n : Int} {l : List (Int × Int)} {s : SL} {s' : SL} (h : FwJ w g f es i A) (h1 : A.heap[w.heap.size + 2]? = some (.cells #[.slice s.1 s.2.1 s.2.2] 38 (0, 0))) (h2 : A.ownsRow (w.heap.size + 3) 167 2 (.slice s.1 s.2.1 s.2.2) s.2.1 (flatF blC (fwE f es i).2.2)) (hy : fwE f es (i + 1) = (n, true, l))
    (hp : SkP ((A.setCell ⟨w.heap.size, 0, none⟩ (.int .u32 n)).setCell ⟨w.heap.size + 1, 0, none⟩ (.bool true)).drew (w.heap.size + 3) s.1 s.2.1 s.2.2 l s' B) : FwJ w g f es (i + 1) (B.setCell ⟨w.heap.size + 2, 0, none⟩ (.slice s'.1 s'.2.1 s'.2.2)) ∧ KeepsOthers A (B.setCell ⟨w.heap.size + 2, 0, none⟩ (.slice s'.1 s'.2.1 s'.2.2)) := by
  have p1 := part_set A w.heap.size 0 (.int .u32 n)
  have p2 := part_set (A.setCell ⟨w.heap.size, 0, none⟩ (.int .u32 n)) (w.heap.size + 1) 0 (.bool true)
  have p3 := part_set B (w.heap.size + 2) 0 (.slice s'.1 s'.2.1 s'.2.2)
  have hge : ∀ i, (Value.slice s.1 s.2.1 s.2.2).ownBlock = some i → w.heap.size + 3 ≤ i := fun i hi => (h2.lt i hi).1
  have k1 := (Kpt.of_part (ok := fun x => x ≠ w.heap.size ∧ x ≠ w.heap.size + 1) p1 fun _ h => h.1).trans (Kpt.of_part p2 fun _ h => h.2)
  have b1 : Below w.heap.size w ((A.setCell ⟨w.heap.size, 0, none⟩ (.int .u32 n)).setCell ⟨w.heap.size + 1, 0, none⟩ (.bool true)).drew := ((h.bl.setCell (p := ⟨w.heap.size, 0, none⟩) (Nat.le_refl _) _).setCell (p := ⟨w.heap.size + 1, 0, none⟩) (Nat.le_succ _) _).drew
  have hty : ∀ {x : Nat} {cs : Array Value} {t : TypeId} {fr : Nat × Nat}, A.heap[x]? = some (.cells cs t fr) → t ≠ 167 → ¬ (Value.slice s.1 s.2.1 s.2.2).ownBlock = some x := fun hx ht ee => by
    obtain ⟨cur, fr', hcur⟩ := own_cells h2 ee
    exact cells_cells hx hcur ht rfl
  have k2 := Kpt.of_part (ok := fun x => ¬ (Value.slice s.1 s.2.1 s.2.2).ownBlock = some x) hp.part fun _ h => h
  have k3 := Kpt.of_part (ok := fun x => ¬ x = w.heap.size + 2) p3 fun _ h => h
  have i1 : InB (w.heap.size + 3) g [4] ((A.setCell ⟨w.heap.size, 0, none⟩ (.int .u32 n)).setCell ⟨w.heap.size + 1, 0, none⟩ (.bool true)).drew := (h.ib.kept k1 (by omega) (by omega) (by omega)).st (StN.drew 0 _)
  have i2 := (i1.kept k2 (hty h.ib.sb (by decide)) (hty h.ib.db (by decide)) (hty h.ib.tb (by decide))).kept k3 (by omega) (by omega) (by omega)
  refine ⟨⟨(b1.trans ((hp.part.below b1.size fun i hi => by have := hge i hi; omega))).setCell (p := ⟨w.heap.size + 2, 0, none⟩) (by show w.heap.size ≤ w.heap.size + 2; omega) _, i2, ?_, ?_, s', ?_, ?_⟩, ?_⟩
  · rw [hy]
    exact k3.cells _ _ _ _ (by omega) (k2.cells _ _ _ _ (fun ee => by have := hge _ ee; omega) (show (((A.setCell ⟨w.heap.size, 0, none⟩ (.int .u32 n)).setCell ⟨w.heap.size + 1, 0, none⟩ (.bool true)).drew).heap[w.heap.size]? = _ from set_other (heap_setCell_same A w.heap.size 0 _ _ _ h.c5) (by omega)))
  · rw [hy]
    exact k3.cells _ _ _ _ (by omega) (k2.cells _ _ _ _ (fun ee => by have := hge _ ee; omega) (show (((A.setCell ⟨w.heap.size, 0, none⟩ (.int .u32 n)).setCell ⟨w.heap.size + 1, 0, none⟩ (.bool true)).drew).heap[w.heap.size + 1]? = _ from heap_setCell_same _ (w.heap.size + 1) 0 _ _ _ (set_other h.c6 (by omega))))
  · exact heap_setCell_same B (w.heap.size + 2) 0 _ _ _ (k2.cells _ _ _ _ (fun ee => by have := hge _ ee; omega) (show (((A.setCell ⟨w.heap.size, 0, none⟩ (.int .u32 n)).setCell ⟨w.heap.size + 1, 0, none⟩ (.bool true)).drew).heap[w.heap.size + 2]? = _ from k1.cells _ _ _ _ (by omega) h1))
  · rw [hy]
    exact ownsRow_setCell_below hp.row (by show w.heap.size + 2 < w.heap.size + 3; omega) _
  · exact ((((KeepsOthers.setCell _ _ _).trans (KeepsOthers.setCell _ _ _)).trans (KeepsOthers.drew _)).trans hp.ko).trans (KeepsOthers.setCell _ _ _)
theorem FwJ.aft {w A B : World} {n : Int} {l l0 : List (Int × Int)} {s s' : SL} (h1 : A.heap[w.heap.size + 2]? = some (.cells #[.slice s.1 s.2.1 s.2.2] 38 (0, 0))) (h2 : A.ownsRow (w.heap.size + 3) 167 2 (.slice s.1 s.2.1 s.2.2) s.2.1 (flatF blC l0))
    (hp : SkP ((A.setCell ⟨w.heap.size, 0, none⟩ (.int .u32 n)).setCell ⟨w.heap.size + 1, 0, none⟩ (.bool true)).drew (w.heap.size + 3) s.1 s.2.1 s.2.2 l s' B) {p : Nat} {cs : Array Value} (hc : A.heap[p]? = some (.cells cs 96 (0, 0))) (hpl : p < w.heap.size) (v : Value) :
    B.heap[w.heap.size + 2]? = some (.cells #[.slice s.1 s.2.1 s.2.2] 38 (0, 0)) ∧ B.heap[p]? = some (.cells cs 96 (0, 0)) ∧ (B.setCell ⟨w.heap.size + 2, 0, none⟩ v).heap[p]? = some (.cells cs 96 (0, 0)) := by
  have k2 := Kpt.of_part (ok := fun x => ¬ (Value.slice s.1 s.2.1 s.2.2).ownBlock = some x) hp.part fun _ h => h
  have hge : ∀ i, (Value.slice s.1 s.2.1 s.2.2).ownBlock = some i → w.heap.size + 3 ≤ i := fun i hi => (h2.lt i hi).1
  have g1 := k2.cells (w.heap.size + 2) _ _ _ (fun ee => by have := hge _ ee; omega) (show (((A.setCell ⟨w.heap.size, 0, none⟩ (.int .u32 n)).setCell ⟨w.heap.size + 1, 0, none⟩ (.bool true)).drew).heap[w.heap.size + 2]? = _ from set_other (set_other h1 (by omega)) (by omega))
  have g2 := k2.cells p _ _ _ (fun ee => by have := hge _ ee; omega) (show (((A.setCell ⟨w.heap.size, 0, none⟩ (.int .u32 n)).setCell ⟨w.heap.size + 1, 0, none⟩ (.bool true)).drew).heap[p]? = _ from set_other (set_other hc (by omega)) (by omega))
  exact ⟨g1, g2, set_other g2 (by omega)⟩
theorem z12_row {W : World} {e : En} (h : W.heap[e.p]? = some (.cells e.cells.toArray 96 (0, 0))) : Z12 W e.p 0 e.c := Z12.of fun j v hv => by
  rw [Nat.zero_add]
  refine upd_cell h j v ?_
  rw [List.getElem?_toArray, En.cells, List.getElem?_append_left (List.getElem?_eq_some_iff.1 hv).1]
  exact hv
set_option maxRecDepth 100000 in
set_option maxHeartbeats 4000000 in
theorem Forward_any {w : World} {G : Gq} {q : Qm} (h : QA w G q) :
    Calls Tryz.prog 74 #[.pointer (some ⟨G.b, 0, none⟩)] w fun e w' => ∃ s : SL, e = .returned (.tuple #[.int .u32 (fwE (flr q) (q.es.take (dnN q.es)) (dnN q.es)).1, .slice s.1 s.2.1 s.2.2, .bool (fwE (flr q) (q.es.take (dnN q.es)) (dnN q.es)).2.1]) ∧ Below w.heap.size w w' ∧ w'.ownsRow (w.heap.size + 3) 167 2 (.slice s.1 s.2.1 s.2.2) s.2.1 (flatF blC (fwE (flr q) (q.es.take (dnN q.es)) (dnN q.es)).2.2) := by
  have hmix : Tryz.prog.follows .mixedOrders = true := by kernel_rfl
  have F1 : Fence.wide.fn 110 := trivial
  have F2 : Fence.wide.fn 36 := trivial
  have F3 : Fence.wide.fn 109 := trivial
  have F4 : Fence.wide.fn 111 := trivial
  obtain ⟨d, hd⟩ : ∃ d, dnN q.es = d := ⟨_, rfl⟩
  have hdl : d ≤ q.es.length := by rw [← hd]; exact dnN_le q.es
  have HES := keep (fun (A : Option Addr) (c : Nat) (hA : d ≠ 0 → A = G.s.1) => h.es_take hdl c hA)
  have HFL := keep ((Floor_any h).mono (fun e w' hh => show e = .returned (.int .u32 (flr q)) ∧ Hid (Below w.heap.size w w' ∧ w'.heap.size = w.heap.size) from by
    obtain ⟨rfl, k, rfl⟩ := hh
    exact ⟨rfl, keep ⟨below_drewN_sq (Below.refl _ w) k, rfl⟩⟩))
  have HDN := keep (fun W (hb : Below w.heap.size w W) => (done_any (h.step hb)).mono (fun e w' hh => show (∃ A c, e = .returned (.slice A d c) ∧ Hid (d ≠ 0 → A = G.s.1)) ∧ W = w' from by
    obtain ⟨⟨A, c, rfl, _, h2⟩, rfl⟩ := hh
    rw [hd] at h2 ⊢
    exact ⟨⟨A, c, rfl, keep h2⟩, rfl⟩))
  have hle : d ≤ 1024 := Nat.le_trans hdl h.le
  rw [hd]
  obtain ⟨es, hes⟩ : ∃ es, q.es.take d = es := ⟨_, rfl⟩
  have hel : es.length = d := by rw [← hes, List.length_take]; omega
  rw [hes]
  rw [hes] at HES
  obtain ⟨f, hf⟩ : ∃ f, flr q = f := ⟨_, rfl⟩
  rw [hf] at HFL ⊢
  obtain ⟨FE, hFE⟩ : ∃ FE, fwE f es d = FE := ⟨_, rfl⟩
  rw [hFE]
  have HFE := keep hFE
  clear hf hes hd hdl h hFE
  refine (callsIn_wide (n := 5)).1 ?_
  refine callsIn_of_wp_marks Tryz.func74 rfl trivial ?_ rfl
  simp only [Tryz.ntmps74, List.size_toArray, List.length_cons, List.length_nil, Nat.reduceAdd, Nat.reduceSub, Array.replicate_succ, Array.replicate_zero, List.push_toArray, List.append_toArray, List.nil_append, List.cons_append]
  gi_wp2_with (first
    | (gi_at_call 109; refine (callsIn_wide.2 HFL.out).mono ?_; rintro e W0 ⟨rfl, hW0⟩
       have HBW := keep (up (up hW0.out.1 (below_lay W0 (.cells #[.int .u32 f] 22))) (below_lay _ (.cells #[.bool false] 4))))
    | (gi_at_call 110; refine (callsIn_wide.2 (HDN.out _ (up HBW.out (below_lay _ (.cells #[.slice none 0 0] 38))))).mono ?_; rintro e w' ⟨⟨A0, c0, rfl, hA0⟩, rfl⟩)
    | (gi_at_call 36; refine (callsIn_wide.2 (in_any _ _ _ _ _ _ _)).mono ?_; rintro e w' ⟨rfl, rfl⟩))
  have HE0 := keep ((HES.out A0 c0 hA0.out).step hW0.out.1)
  generalize hW1 : World.alloc _ _ = W1
  have J0 : FwJ W0 (A0, d, c0) f es 0 W1 := by
    rw [← hW1]
    have hb := up (up (below_lay W0 (.cells #[.int .u32 f] 22)) (below_lay _ (.cells #[.bool false] 4))) (below_lay _ (.cells #[.slice none 0 0] 38))
    exact ⟨up hb (below_in _ _ _ _), InB.start _ _ (by simp) (A0, d, c0) [4], below_new (below_new (below_new (below_new (below_new (heap_new_at rfl))))), below_new (below_new (below_new (below_new (heap_new_at (by simp))))), (none, 0, 0), below_new (below_new (below_new (heap_new_at (by simp)))), World.ownsRow_nil _ _ _ _⟩
  have hs1 : W0.heap.size ≤ W1.heap.size := J0.bl.size
  clear hW1 hA0 HES HBW
  have hps : (es.map En.p).length = es.length := List.length_map _
  refine rangeFunc_ix (n := 5) rfl (by omega) (gf := 71) (lb := #[.pointer (some ⟨W0.heap.size + 1 + 1 + 1 + 1, 0, none⟩), .pointer (some ⟨W0.heap.size + 1 + 1 + 1 + 1 + 1, 0, none⟩)]) rfl trivial (enters_of Tryz.func71 (by kernel_rfl) rfl) (N := (es.map En.p).length) (enc := encP (es.map En.p)) (fun _ => rfl)
    (InX (es.map En.p) [4]) (fun _ => InOwn (W0.heap.size + 3 + 1) (W0.heap.size + 3 + 2) (A0, d, c0) (some ⟨W0.heap.size + 3, 0, none⟩, 1, 1) (es.map En.p) [4]) (fun _ _ => True)
    (FwJ W0 (A0, d, c0) f es) (fun _ _ => False)
    (in1_seq (5 - 1) (by omega) _ _ _ _ (es.map En.p) [4] (by rw [hps, hel]; exact hle) (by decide) _ _)
    (fun i A B st h => h.st st hs1) (fun _ _ _ _ h => h) (fun i A B st h => in_x st h)
    (fun _ _ _ _ _ _ _ _ _ _ _ _ _ _ => trivial)
    (fun i A h => (HE0.out.step h.bl).own h.ib)
    (fun i A hi h hx => by
      obtain ⟨e, he, _⟩ := ES.get es hi
      have hne : e.st ≠ 4 := fun hh => hx (((HE0.out.step h.bl).x he).2 (by rw [hh]; exact List.mem_singleton.2 rfl))
      obtain ⟨s, h1, h2⟩ := h.sk
      exact ⟨h.bl, h.ib, by rw [fwE_no he hne]; exact h.c5, by rw [fwE_no he hne]; exact h.c6, s, h1, by rw [fwE_no he hne]; exact h2⟩)
    J0 ?round ?done (fun _ _ _ _ h _ => h.elim)
  case round =>
    rintro l i A hl hi hJ hx
    obtain ⟨e, he, hge⟩ := ES.get es hi
    have hst := List.mem_singleton.1 (((HE0.out.step hJ.bl).x he).1 hx)
    simp only [Array.zip, encP]
    rw [hge]
    have HI := keep hi
    have HE := keep he
    have HY := keep (fwE_yes (f := f) he hst)
    clear hJ hx he hge hi hst
    gi_wp2
    refine ⟨by first | rfl | trivial, fun A2 hJ2 hx2 => ?_⟩
    have hee := HE0.out.step hJ2.bl
    have hem := List.mem_of_getElem? HE.out
    have y1 := hee.at_ hem 1 _ rfl
    have y2 := hee.at_ hem 2 _ rfl
    obtain ⟨s, hs, hrow⟩ := hJ2.sk
    have c5 := upd_cell hJ2.c5 0 _ rfl
    have f5 := upd_fz hJ2.c5 0
    have c6 := upd_cell hJ2.c6 0 _ rfl
    have f6 := upd_fz hJ2.c6 0
    have c7 := upd_cell hs 0 _ rfl
    have f7 := upd_fz hs 0
    have HEB := keep (hee.en e hem).1
    have hpl : e.p < W0.heap.size := (Array.getElem?_eq_some_iff.1 (HE0.out.en e hem).1).1
    have n5 : W0.heap.size ≠ e.p := by omega
    have n6 : W0.heap.size + 1 ≠ e.p := by omega
    have HJ := keep hJ2
    have HRW := keep hrow
    have HSS := keep hs
    obtain ⟨s1, s2, s3⟩ := s
    dsimp only at c7 HRW HSS
    have hlen := fwE_len f es i
    have HLN := keep (show s2 ≤ 2000 by
      have h1 := hrow.1
      dsimp only at h1
      rw [flatF_len blC_len] at h1
      have h2 := HI.out
      rw [hps, hel] at h2
      omega)
    clear hJ2 hx2 hee hem hs hrow hlen
    obtain ⟨r, hr⟩ : ∃ r, ordB e.c = r := ⟨_, rfl⟩
    have HR := keep hr
    unfold ordB at hr
    clear HE0
    cases r with
    | false =>
      gi_wp2
      refine ⟨((KeepsOthers.setCell _ _ _).trans (KeepsOthers.setCell _ _ _)).from _, trivial, ?_⟩
      exact HJ.out.two HY.out (by rw [if_neg (by rw [HR.out]; decide)])
    | true =>
      have HY2 := keep (HY.out.trans (by rw [if_pos HR.out]))
      have HA3 := keep (show (((A2.setCell ⟨W0.heap.size, 0, none⟩ (.int .u32 e.c.a)).setCell ⟨W0.heap.size + 1, 0, none⟩ (.bool true)).drew).ownsRow (W0.heap.size + 3) 167 2 (.slice s1 s2 s3) s2 (flatF blC (fwE f es i).2.2) from
        ownsRow_setCell_below (ownsRow_setCell_below HRW.out (by show W0.heap.size < W0.heap.size + 3; omega) _) (by show W0.heap.size + 1 < W0.heap.size + 3; omega) _)
      have HSZ := keep (show W0.heap.size + 3 ≤ A2.heap.size by have := (Array.getElem?_eq_some_iff.1 HSS.out).1; omega)
      have KSK := keep (skipping_any HA3.out HLN.out (by show W0.heap.size + 3 ≤ ((A2.setCell ⟨W0.heap.size, 0, none⟩ (.int .u32 e.c.a)).setCell ⟨W0.heap.size + 1, 0, none⟩ (.bool true)).heap.size; have := HSZ.out; simp; omega) e.c)
      have HAF := keep (fun (s' : SL) (B : World) hp v => FwJ.aft (s := (s1, s2, s3)) (s' := s') (B := B) (n := e.c.a) (l := skL (fwE f es i).2.2 e.c.ou e.c.si) HSS.out HRW.out hp HEB.out hpl v)
      have HSK := keep (fun (s' : SL) (B : World) hp => HJ.out.skip (s := (s1, s2, s3)) (s' := s') (B := B) HSS.out HRW.out HY2.out hp)
      have HZ3 := keep (show Z12 (((A2.setCell ⟨W0.heap.size, 0, none⟩ (.int .u32 e.c.a)).setCell ⟨W0.heap.size + 1, 0, none⟩ (.bool true)).drew) e.p 0 e.c from
        z12_row (set_other (set_other HEB.out (fun h => n5 h.symm)) (fun h => n6 h.symm)))
      have c7' : (((A2.setCell ⟨W0.heap.size, 0, none⟩ (.int .u32 e.c.a)).setCell ⟨W0.heap.size + 1, 0, none⟩ (.bool true)).drew).cell? ⟨W0.heap.size + 2, 0, none⟩ = some (.slice s1 s2 s3) := upd_cell (set_other (set_other HSS.out (by omega)) (by omega)) 0 _ rfl
      gi_wp2
      obtain ⟨W3, hW3⟩ : ∃ W3, (A2.setCell ⟨W0.heap.size, 0, none⟩ (.int .u32 e.c.a)).setCell ⟨W0.heap.size + 1, 0, none⟩ (.bool true) = W3 := ⟨_, rfl⟩
      rw [hW3] at KSK HAF HSK HZ3 c7' ⊢
      have HE2 := keep (show ∀ W, W.heap[e.p]? = some (.cells e.cells.toArray 96 (0, 0)) → Z12 W e.p 0 e.c from fun W hW => z12_row hW)
      clear hW3 HA3 HEB HJ HSS HRW HY HY2 HR hr y1 y2 c5 f5 c6 f6 c7 f7 HE
      obtain ⟨ep, ec, em, est, esn, ela, ems⟩ := e
      dsimp only at *
      generalize (En.cells ⟨ep, ec, em, est, esn, ela, ems⟩).toArray = ecs at *
      obtain ⟨xk, xf, xa, xb, xo, xs, xp, ⟨x1, x2, x3⟩, ⟨x4, x5, x6⟩, ⟨x7, x8, x9⟩, ⟨x10, x11, x12⟩, ⟨x13, x14, x15⟩, xbl, xdu, xsk, xpr, xbs⟩ := ec
      dsimp only at KSK HAF HSK HZ3 HE2
      refine wpIn_region_held (S := fun w' => Z12 w' ep 0 ⟨xk, xf, xa, xb, xo, xs, xp, ⟨x1, x2, x3⟩, ⟨x4, x5, x6⟩, ⟨x7, x8, x9⟩, ⟨x10, x11, x12⟩, ⟨x13, x14, x15⟩, xbl, xdu, xsk, xpr, xbs⟩) hmix (by kernel_rfl) (by rintro ⟨_, _, hh⟩; exact hh) HZ3.out (fun hHeld => ?_)
      refine wT (i := 1) (oi := ⟨some 29, _, _, _, _, _⟩) (v := ?vf1x1) rfl (by kernel_rfl) (by kernel_rfl) (by kernel_rfl) (fun _ _ _ h => h) (Or.inl ⟨by rfl, ?hyf1x1⟩) (by assumption) ?restf1x1
      case hyf1x1 => (intro wz hSw; go_simp <;> try with_reducible rfl)
      try simp only [aP, lA, lZ, lS]
      refine wT (i := 2) (oi := ⟨some 30, _, _, _, _, _⟩) (v := ?vf2x2) rfl (by kernel_rfl) (by kernel_rfl) (by kernel_rfl) (fun _ _ _ h => h) (Or.inl ⟨by rfl, ?hyf2x2⟩) (by assumption) ?restf2x2
      case hyf2x2 => (intro wz hSw; go_simp <;> try with_reducible rfl)
      try simp only [aP, lA, lZ, lS]
      refine wT (i := 3) (oi := ⟨some 31, _, _, _, _, _⟩) (v := ?vf3x3) rfl (by kernel_rfl) (by kernel_rfl) (by kernel_rfl) (fun _ _ _ h => h) (Or.inl ⟨by rfl, ?hyf3x3⟩) (by assumption) ?restf3x3
      case hyf3x3 => (intro wz hSw; go_simp <;> try with_reducible rfl)
      try simp only [aP, lA, lZ, lS]
      refine wT (i := 4) (oi := ⟨some 32, _, _, _, _, _⟩) (v := ?vf4x4) rfl (by kernel_rfl) (by kernel_rfl) (by kernel_rfl) (fun _ _ _ h => h) (Or.inl ⟨by rfl, ?hyf4x4⟩) (by assumption) ?restf4x4
      case hyf4x4 => (intro wz hSw; obtain ⟨z0, z1, z2, z3, z4, z5, z6, z7, z8, z9, z10, z11⟩ := hSw; dsimp only [Nat.zero_add] at z0 z1 z2 z3 z4 z5 z6 z7 z8 z9 z10 z11; go_simp <;> try with_reducible rfl)
      try simp only [aP, lA, lZ, lS]
      refine wpAnyH_ready (rs := [0]) (by kernel_rfl) (by simp) (AllReadyH.cons (o := ⟨some 28, _, _, _, _, _⟩) rfl (fun K hK => ?_) AllReadyH.nil)
      go_simp
      refine hK.out _ _ HZ3.out (fun hHeld => ?_)
      clear hK K
      try simp only [aP, lA, lZ, lS]
      refine wpAnyH_ready (rs := [5]) (by kernel_rfl) (by simp) (AllReadyH.cons (o := ⟨some 33, _, _, _, _, _⟩) rfl (fun K hK => ?_) AllReadyH.nil)
      go_simp
      refine KSK.out.mono ?_
      rintro e1 B ⟨⟨t1, t2, t3⟩, rfl, hSk⟩
      obtain ⟨g1, g2, g3⟩ := HAF.out (t1, t2, t3) B hSk (.slice t1 t2 t3)
      have ct := upd_cell g1 0 _ rfl
      have ft := upd_fz g1 0
      have HG3 := keep g3
      (try go_wp2_with fail)
      refine hK.out _ _ (HE2.out B g2) (fun hHeld => ?_)
      clear hK K g1 g3
      try simp only [aP, lA, lZ, lS]
      refine wpAnyH_ready (rs := [6]) (by kernel_rfl) (by simp) (AllReadyH.cons (o := ⟨none, _, _, _, _, _⟩) rfl (fun K hK => ?_) AllReadyH.nil)
      go_simp
      refine hK.out _ _ (HE2.out _ HG3.out) (fun hHeld => ?_)
      clear hK K
      try simp only [aP, lA, lZ, lS]
      refine wpAnyH_done (by kernel_rfl) ?_ _
      gi_wp2
      exact ⟨(HSK.out (t1, t2, t3) B hSk).2.from _, trivial, (HSK.out (t1, t2, t3) B hSk).1⟩
  case done =>
    intro D A hD hJ hDd
    rw [hps, hel] at hJ
    obtain ⟨⟨s1, s2, s3⟩, hs, hrow⟩ := hJ.sk
    have g5 := hJ.c5
    have g6 := hJ.c6
    rw [HFE.out] at g5 g6 hrow
    have c0 := upd_cell g5 0 _ rfl
    have c1 := upd_cell g6 0 _ rfl
    have c2 := upd_cell hs 0 _ rfl
    dsimp only at c2 hrow
    have HJ := keep (And.intro hJ.bl hrow)
    have HD := keep hDd
    clear hJ hDd J0 hs hrow g5 g6
    obtain ⟨n', th, l'⟩ := FE
    dsimp only at c0 c1 HJ
    gi_wp2
    gi_region
    gi_wp2
    have hDd : A.drew.heap[D]? = some (.deferred (some [])) := HD.out
    have k1 := StN.putObj (N := W1.heap.size) (.deferred none) hDd rfl hD
    refine ⟨by simp, .inl ⟨_, _, rfl, run_takeDeferred hDd, ?_⟩⟩
    have hrow2 : A.drew.ownsRow (W0.heap.size + 3) 167 2 (.slice s1 s2 s3) s2 (flatF blC l') := HJ.out.2
    have hb2 := k1.below HJ.out.1.drew hs1
    have hrow3 := k1.own hrow2
    rw [hW0.out.2] at hrow3 hb2
    exact ⟨_, results_tmp3 rfl _ _ _, s1, s2, s3, rfl, hW0.out.1.trans hb2, hrow3⟩
end
section
def wr (x : Int) : Int := x % 4294967296
theorem wr_lo (x : Int) : 0 ≤ wr x := by unfold wr; omega
theorem wr_hi (x : Int) : wr x < 4294967296 := by unfold wr; omega
theorem wr_add (x y : Int) : wr (wr x + y) = wr (x + y) := by unfold wr; omega
structure Asc (L : List Nat) : Prop where
  up : L.Pairwise (· < ·)
  pos : ∀ h ∈ L, 1 ≤ h
theorem Asc.nil : Asc [] := ⟨List.Pairwise.nil, fun _ h => absurd h List.not_mem_nil⟩
theorem Asc.nodup {L : List Nat} (h : Asc L) : L.Nodup := h.up.imp fun {a b} hab => Nat.ne_of_lt hab
theorem Asc.eq {L M : List Nat} (h : Asc L) (k : Asc M) (e : ∀ x, x ∈ L ↔ x ∈ M) : L = M :=
  ((List.perm_ext_iff_of_nodup h.nodup k.nodup).2 e).eq_of_pairwise (le := (· < ·)) (fun a b _ _ h1 h2 => absurd h1 (Nat.lt_asymm h2)) h.up k.up
def shiftL (d : Nat) (L : List Nat) : List Nat := (L.filter fun h => decide (d < h)).map (· - d)
theorem mem_shiftL {d : Nat} {L : List Nat} {x : Nat} : x ∈ shiftL d L ↔ 1 ≤ x ∧ x + d ∈ L := by
  unfold shiftL
  rw [List.mem_map]
  constructor
  · rintro ⟨y, hy, rfl⟩
    obtain ⟨h1, h2⟩ := List.mem_filter.1 hy
    have h3 : d < y := by simpa using h2
    exact ⟨by omega, by rwa [show y - d + d = y by omega]⟩
  · rintro ⟨h1, h2⟩
    exact ⟨x + d, List.mem_filter.2 ⟨h2, by simp; omega⟩, by omega⟩
theorem Asc.shift {L : List Nat} (h : Asc L) (d : Nat) : Asc (shiftL d L) := by
  refine ⟨?_, fun x hx => (mem_shiftL.1 hx).1⟩
  unfold shiftL
  rw [List.pairwise_map]
  refine (h.up.filter _).imp_of_mem fun {a b} ha hb hab => ?_
  have h1 : d < a := by simpa using (List.mem_filter.1 ha).2
  show a - d < b - d
  omega
theorem shiftL_zero {L : List Nat} (h : Asc L) : shiftL 0 L = L := (h.shift 0).eq h fun x => by
  rw [mem_shiftL]
  exact ⟨fun k => k.2, fun k => ⟨h.pos x k, k⟩⟩
theorem shiftL_shiftL {L : List Nat} (h : Asc L) (a b : Nat) : shiftL b (shiftL a L) = shiftL (a + b) L :=
  ((h.shift a).shift b).eq (h.shift _) fun x => by
    rw [mem_shiftL, mem_shiftL, mem_shiftL, show x + b + a = x + (a + b) by omega]
    exact ⟨fun k => ⟨k.1, k.2.2⟩, fun k => ⟨k.1, by omega, k.2⟩⟩
def insN (h : Nat) : List Nat → List Nat
  | [] => [h]
  | x :: r => if h < x then h :: x :: r else if h = x then x :: r else x :: insN h r
theorem mem_insN {h x : Nat} {L : List Nat} : x ∈ insN h L ↔ x = h ∨ x ∈ L := by
  induction L with
  | nil => simp [insN]
  | cons y r ih =>
    unfold insN
    by_cases h1 : h < y
    · rw [if_pos h1]
      simp
    · rw [if_neg h1]
      by_cases h2 : h = y
      · rw [if_pos h2]
        subst h2
        simp
      · rw [if_neg h2]
        simp only [List.mem_cons, ih]
        constructor
        · rintro (rfl | rfl | h3) <;> simp_all
        · rintro (rfl | rfl | h3) <;> simp_all
theorem Asc.ins {L : List Nat} (k : Asc L) {h : Nat} (hp : 1 ≤ h) : Asc (insN h L) := by
  refine ⟨?_, fun x hx => ?_⟩
  · have := k.up
    clear k
    induction L with
    | nil => exact List.pairwise_singleton _ _
    | cons y r ih =>
      obtain ⟨h1, h2⟩ := List.pairwise_cons.1 this
      unfold insN
      by_cases c1 : h < y
      · rw [if_pos c1]
        refine List.pairwise_cons.2 ⟨fun z hz => ?_, this⟩
        rcases List.mem_cons.1 hz with rfl | hz
        · exact c1
        · exact Nat.lt_trans c1 (h1 z hz)
      · rw [if_neg c1]
        by_cases c2 : h = y
        · rw [if_pos c2]
          exact this
        · rw [if_neg c2]
          refine List.pairwise_cons.2 ⟨fun z hz => ?_, ih h2⟩
          rcases mem_insN.1 hz with rfl | hz
          · omega
          · exact h1 z hz
  · rcases mem_insN.1 hx with rfl | hx
    · exact hp
    · exact k.pos x hx
structure Rise (L : List Nat) (u : Nat) : Prop where
  all : ∀ h, 1 ≤ h → h ≤ u → h ∈ L
  no : u + 1 ∉ L
theorem Rise.one {L : List Nat} {u v : Nat} (h : Rise L u) (k : Rise L v) : u = v := by
  rcases Nat.lt_trichotomy u v with h1 | h1 | h1
  · exact absurd (k.all (u + 1) (by omega) (by omega)) h.no
  · exact h1
  · exact absurd (h.all (v + 1) (by omega) (by omega)) k.no
def riseFrom (L : List Nat) : Nat → Nat → Nat
  | 0, k => k
  | n + 1, k => if L.contains (k + 1) then riseFrom L n (k + 1) else k
theorem riseFrom_spec (L : List Nat) (m : Nat) (hm : ∀ x ∈ L, x ≤ m) : ∀ n k, m < k + n + 1 → (∀ h, 1 ≤ h → h ≤ k → h ∈ L) → Rise L (riseFrom L n k) := by
  intro n
  induction n with
  | zero =>
    intro k hk ha
    show Rise L k
    exact ⟨ha, fun h => by have := hm _ h; omega⟩
  | succ n ih =>
    intro k hk ha
    unfold riseFrom
    by_cases hc : L.contains (k + 1)
    · rw [if_pos hc]
      refine ih (k + 1) (by omega) fun h h1 h2 => ?_
      by_cases he : h = k + 1
      · rw [he]
        simpa using hc
      · exact ha h h1 (by omega)
    · rw [if_neg hc]
      exact ⟨ha, by simpa using hc⟩
def pushRun : List (Nat × Nat) → Nat → List (Nat × Nat)
  | [], h => [(h, h)]
  | (a, b) :: r, h => if h = b + 1 then (a, h) :: r else (h, h) :: (a, b) :: r
theorem push_on {a b h : Nat} {r : List (Nat × Nat)} (e : h = b + 1) : pushRun ((a, b) :: r) h = (a, h) :: r := by rw [pushRun, if_pos e]
theorem push_off {a b h : Nat} {r : List (Nat × Nat)} (e : ¬ h = b + 1) : pushRun ((a, b) :: r) h = (h, h) :: (a, b) :: r := by rw [pushRun, if_neg e]
def runsR (L : List Nat) : List (Nat × Nat) := L.foldl pushRun []
def runs (L : List Nat) : List (Nat × Nat) := (runsR L).reverse.take 64
theorem runsR_snoc (L : List Nat) (h : Nat) : runsR (L ++ [h]) = pushRun (runsR L) h := by simp [runsR]
theorem push_keeps (L : List Nat) : ∀ (x : Nat × Nat) (r : List (Nat × Nat)), ∃ M, L.foldl pushRun (x :: r) = M ++ r := by
  induction L with
  | nil => exact fun x r => ⟨[x], rfl⟩
  | cons h t ih =>
    rintro ⟨a, b⟩ r
    rw [List.foldl_cons]
    by_cases hb : h = b + 1
    · rw [push_on hb]
      exact ih _ _
    · rw [push_off hb]
      obtain ⟨M, hM⟩ := ih (h, h) ((a, b) :: r)
      exact ⟨M ++ [(a, b)], by rw [hM]; simp⟩
theorem runs_full (p t : List Nat) (h a b : Nat) (r : List (Nat × Nat)) (hr : runsR p = (a, b) :: r) (hl : r.length = 63) (hb : ¬ h = b + 1) : runs (p ++ h :: t) = (runsR p).reverse := by
  unfold runs runsR
  rw [List.foldl_append, List.foldl_cons]
  have e : pushRun (p.foldl pushRun []) h = (h, h) :: (a, b) :: r := by
    show pushRun (runsR p) h = _
    rw [hr, push_off hb]
  rw [e]
  obtain ⟨M, hM⟩ := push_keeps t (h, h) ((a, b) :: r)
  rw [hM]
  have hr' : List.foldl pushRun [] p = (a, b) :: r := hr
  rw [hr', List.reverse_append, List.take_append_of_le_length (by simp [hl]), List.take_of_length_le (by simp [hl])]
theorem runs_small (L : List Nat) (h : (runsR L).length ≤ 64) : runs L = (runsR L).reverse := by
  unfold runs
  exact List.take_of_length_le (by simpa using h)
end
section
open Go.RowKit Go.Maps
abbrev K (x : Int) : Lit := .int .u32 x
abbrev Dat := DataW Nat
theorem wf32 {x : Int} (h0 : 0 ≤ x) (h1 : x < 4294967296) : (K x).wf = true := by
  simp [Lit.wf, IntKind.min, IntKind.max, IntKind.signed, IntKind.bits]
  omega
theorem K_key {x : Int} (h0 : 0 ≤ x) (h1 : x < 4294967296) : keyOf Tryz.prog 22 (.int .u32 x) = some (K x) := keyOf_int_mk Tryz.underlying22 (wf32 h0 h1)
theorem keyed : Keyed Tryz.prog 22 := int_keyed Tryz.underlying22
theorem K_lit (x : Int) : WideAt.IsKeyLit (K x) := by simp [WideAt.IsKeyLit]
theorem K_inj {x y : Int} (h : K x = K y) : x = y := by injection h
theorem K_ne {x y : Int} (h : x ≠ y) : K x ≠ K y := fun e => h (K_inj e)
abbrev UE : Value → Option (Dat × List MemPlace) := unitElem
theorem zero_unit (w : World) : (zeroValue 152).run Tryz.prog w = .ok (.agg #[]) w := by kernel_rfl
def ht (f n : Int) : Nat := (dist32 f n).toNat
theorem ht_lt (f n : Int) : ht f n < 4294967296 := by have := dist32_hi f n; have := dist32_lo f n; unfold ht; omega
theorem ht_int (f n : Int) : ((ht f n : Nat) : Int) = dist32 f n := by have := dist32_lo f n; unfold ht; omega
theorem ht_up (f : Int) (d : Nat) (hd : d < 4294967296) : ht f (wr (f + d)) = d := by unfold ht dist32 dist wr; omega
theorem up_ht {f n : Int} (h0 : 0 ≤ n) (h1 : n < 4294967296) : wr (f + ht f n) = n := by rw [ht_int]; unfold dist32 dist wr; omega
theorem ht_inj {f n m : Int} (n0 : 0 ≤ n) (n1 : n < 4294967296) (m0 : 0 ≤ m) (m1 : m < 4294967296) (h : ht f n = ht f m) : n = m := by rw [← up_ht (f := f) n0 n1, h, up_ht m0 m1]
theorem ht_shift {f n : Int} {d : Nat} (h : d ≤ ht f n) : ht (wr (f + d)) n = ht f n - d := by
  have := ht_int f n
  unfold ht dist32 dist wr at *
  omega
theorem ht_round {f n : Int} {d : Nat} (h : ht f n < d) (hd : d < 4294967296) : ht (wr (f + d)) n = ht f n + 4294967296 - d := by
  have := ht_int f n
  unfold ht dist32 dist wr at *
  omega
structure Keys (D : Dat) (f : Int) (L : List Nat) : Prop where
  tidy : Tidy D
  only : ∀ k, has D k = true → ∃ n, k = K n ∧ 0 ≤ n ∧ n < 4294967296
  there : ∀ n, 0 ≤ n → n < 4294967296 → has D (K n) = decide (ht f n ∈ L)
theorem Keys.nil (f : Int) : Keys (.map []) f [] := ⟨tidy_empty, fun k h => (by cases h), fun n _ _ => by simp; rfl⟩
theorem Keys.put {D : Dat} {f : Int} {L : List Nat} (h : Keys D f L) {n : Int} (n0 : 0 ≤ n) (n1 : n < 4294967296) : Keys (D.put (K n) (.agg [])) f (insN (ht f n) L) := by
  refine ⟨h.tidy.put (K_lit n) _, fun k hk => ?_, fun m m0 m1 => ?_⟩
  · by_cases e : k = K n
    · exact ⟨n, e, n0, n1⟩
    · rw [has_put_other e] at hk
      exact h.only k hk
  · by_cases e : m = n
    · subst e
      rw [has_put_same h.tidy.isMap (K_lit m)]
      simp [mem_insN]
    · rw [has_put_other (K_ne e), h.there m m0 m1]
      refine decide_eq_decide.2 ?_
      rw [mem_insN]
      exact ⟨.inr, fun c => c.resolve_left fun c => e (ht_inj m0 m1 n0 n1 c)⟩
theorem Keys.next {D : Dat} {f : Int} {L : List Nat} (h : Keys D f L) (hL : ∀ x ∈ L, 1 ≤ x ∧ x < 4294967296) : Keys (D.del (K (wr (f + 1)))) (wr (f + 1)) (shiftL 1 L) := by
  refine ⟨h.tidy.del _, fun k hk => ?_, fun m m0 m1 => ?_⟩
  · by_cases e : k = K (wr (f + 1))
    · rw [e, has_del_same] at hk
      cases hk
    · rw [has_del_other e] at hk
      exact h.only k hk
  · have e1 : ((1 : Nat) : Int) = 1 := rfl
    by_cases e : m = wr (f + 1)
    · subst e
      rw [has_del_same]
      have : ht (wr (f + 1)) (wr (f + 1)) = 0 := by unfold ht dist32 dist; omega
      rw [this]
      simp [mem_shiftL]
    · rw [has_del_other (K_ne e), h.there m m0 m1]
      refine decide_eq_decide.2 ?_
      rw [mem_shiftL]
      have hlt := ht_lt f m
      have hne : ht f m ≠ 1 := fun c => e (by rw [← up_ht (f := f) m0 m1, c, e1])
      by_cases h0 : ht f m = 0
      · have := ht_round (f := f) (n := m) (d := 1) (by omega) (by omega)
        rw [e1] at this
        rw [this, h0]
        constructor
        · intro c
          have := (hL 0 c).1
          omega
        · rintro ⟨_, c⟩
          have := (hL _ c).2
          omega
      · have := ht_shift (f := f) (n := m) (d := 1) (by omega)
        rw [e1] at this
        rw [this, show ht f m - 1 + 1 = ht f m by omega]
        exact ⟨fun c => ⟨by omega, c⟩, fun c => c.2⟩
theorem Keys.size {D : Dat} {f : Int} {L : List Nat} (h : Keys D f L) {w : World} {k n : Nat} (hown : w.ownsMap Tryz.prog 22 UE k n D) (hn : L.Nodup) (hL : ∀ x ∈ L, x < 4294967296) : Maps.size D = L.length := by
  obtain ⟨es, rfl, hp, hk⟩ := hown.entries keyed
  have hm : ∀ k, has (.map es : Dat) k = true ↔ ∃ p ∈ es, p.1 = k := fun k => by
    rw [has_eq, List.any_eq_true]
    constructor
    · rintro ⟨p, hp1, hp2⟩
      exact ⟨p, hp1, WideAt.sameKey_eq hp2⟩
    · rintro ⟨p, hp1, rfl⟩
      exact ⟨p, hp1, WideAt.sameKey_self (hk p hp1)⟩
  have h1 : (es.map (·.1)).Nodup := by
    unfold List.Nodup
    rw [List.pairwise_map]
    exact hp
  have h2 : (L.map fun (x : Nat) => K (wr (f + (x : Int)))).Nodup := by
    unfold List.Nodup
    rw [List.pairwise_map]
    refine hn.imp_of_mem fun {a b} ha hb hab e => hab ?_
    have := K_inj e
    rw [← ht_up f a (hL a ha), ← ht_up f b (hL b hb), this]
  have h3 := (List.perm_ext_iff_of_nodup h1 h2).2 fun x => by
    rw [List.mem_map, List.mem_map]
    constructor
    · rintro ⟨p, hp1, rfl⟩
      have hh := (hm p.1).2 ⟨p, hp1, rfl⟩
      obtain ⟨m, hm1, m0, m1⟩ := h.only _ hh
      rw [hm1] at hh ⊢
      rw [h.there m m0 m1] at hh
      exact ⟨ht f m, by simpa using hh, by rw [up_ht m0 m1]⟩
    · rintro ⟨x, hx, rfl⟩
      have hh := h.there (wr (f + x)) (wr_lo _) (wr_hi _)
      rw [ht_up f x (hL x hx)] at hh
      exact (hm _).1 (by rw [hh]; simpa using hx)
  have := h3.length_eq
  simpa [Maps.size] using this
theorem ownsMap_tight {w : World} {b n : Nat} {D : Dat} (h : w.ownsMap Tryz.prog 22 UE b n D) : w.ownsMap Tryz.prog 22 UE b (Maps.size D) D := by
  obtain ⟨es, clock, hb, F, hs, hD⟩ := h
  refine ⟨es, clock, hb, F, ?_, hD⟩
  rw [hD]
  simp [Maps.size, length_sorted]
structure Fit (L : List Nat) : Prop where
  asc : Asc L
  top : ∀ h ∈ L, h ≤ 1024
theorem Fit.nil : Fit [] := ⟨Asc.nil, fun _ h => absurd h List.not_mem_nil⟩
theorem Fit.lt {L : List Nat} (h : Fit L) : ∀ x ∈ L, x < 4294967296 := fun x hx => by have := h.top x hx; omega
theorem Fit.both {L : List Nat} (h : Fit L) : ∀ x ∈ L, 1 ≤ x ∧ x < 4294967296 := fun x hx => ⟨h.asc.pos x hx, h.lt x hx⟩
theorem Fit.shift {L : List Nat} (h : Fit L) (d : Nat) : Fit (shiftL d L) := ⟨h.asc.shift d, fun x hx => by have := h.top _ (mem_shiftL.1 hx).2; omega⟩
theorem Fit.ins {L : List Nat} (h : Fit L) {x : Nat} (h1 : 1 ≤ x) (h2 : x ≤ 1024) : Fit (insN x L) := ⟨h.asc.ins h1, fun y hy => by
  rcases mem_insN.1 hy with rfl | hy
  · exact h2
  · exact h.top y hy⟩
theorem asc_len' : ∀ (L : List Nat) (lo m : Nat), L.Pairwise (· < ·) → (∀ x ∈ L, lo < x) → (∀ x ∈ L, x ≤ m) → lo ≤ m → L.length + lo ≤ m
  | [], lo, m, _, _, _, h => by simpa using h
  | x :: r, lo, m, hp, hl, hm, h => by
    obtain ⟨h1, h2⟩ := List.pairwise_cons.1 hp
    have h3 := hl x (by simp)
    have h4 := hm x (by simp)
    have := asc_len' r x m h2 h1 (fun y hy => hm y (by simp [hy])) h4
    simp only [List.length_cons]
    omega
theorem asc_len {L : List Nat} (h : Asc L) (m : Nat) (hm : ∀ x ∈ L, x ≤ m) : L.length ≤ m := by
  have := asc_len' L 0 m h.up (fun x hx => h.pos x hx) hm (Nat.zero_le _)
  omega
theorem Fit.len {L : List Nat} (h : Fit L) : L.length ≤ 1024 := asc_len h.asc 1024 h.top
def MapAt (w : World) (k : Nat) (f : Int) (L : List Nat) : Prop := Fit L ∧ ∃ D : Dat, w.ownsMap Tryz.prog 22 UE k L.length D ∧ Keys D f L
theorem MapAt.of {w : World} {k n : Nat} {D : Dat} {f : Int} {L : List Nat} (h : w.ownsMap Tryz.prog 22 UE k n D) (hf : Fit L) (hk : Keys D f L) : MapAt w k f L :=
  ⟨hf, D, by have := ownsMap_tight h; rwa [hk.size h hf.asc.nodup hf.lt] at this, hk⟩
theorem MapAt.lt {w : World} {k : Nat} {f : Int} {L : List Nat} (h : MapAt w k f L) : k < w.heap.size := by
  obtain ⟨_, D, hD, _⟩ := h
  exact hD.lt
theorem MapAt.kept {S : Nat → Prop} {w w' : World} {k : Nat} {f : Int} {L : List Nat} (h : MapAt w k f L) (hp : Part S w w') (hk : ¬ S k) : MapAt w' k f L := by
  have hlt := h.lt
  obtain ⟨h1, D, ⟨es, clock, hb, r⟩, hs⟩ := h
  exact ⟨h1, D, ⟨es, clock, (hp.block k hlt hk).trans hb, r⟩, hs⟩
def u32s (T : List Int) : List Value := T.map (.int .u32)
theorem u32s_one (T : List Int) : ∀ u ∈ u32s T, u.oneCell' = true := by
  intro u hu
  obtain ⟨_, _, rfl⟩ := List.mem_map.1 hu
  rfl
structure SetAt (w : World) (b k : Nat) (v : Value) (f : Int) (L : List Nat) (T : List Int) : Prop where
  blk : w.heap[b]? = some (.cells #[.int .u32 f, .map (some k), v] 140 (0, 0))
  map : MapAt w k f L
  row : w.ownsRow 0 22 1 v T.length (u32s T)
  lo : 0 ≤ f
  hi : f < 4294967296
  few : T.length ≤ 64
def Ow (b k : Nat) (v : Value) (i : Nat) : Prop := i = b ∨ i = k ∨ v.ownBlock = some i
theorem SetAt.lt {w : World} {b k : Nat} {v : Value} {f : Int} {L : List Nat} {T : List Int} (h : SetAt w b k v f L T) : b < w.heap.size := (Array.getElem?_eq_some_iff.1 h.blk).1
theorem SetAt.ne {w : World} {b k : Nat} {v : Value} {f : Int} {L : List Nat} {T : List Int} (h : SetAt w b k v f L T) : k ≠ b := by
  rintro rfl
  obtain ⟨_, D, ⟨es, clock, hb, _⟩, _⟩ := h.map
  rw [h.blk] at hb
  cases hb
theorem own_cells_gp {w : World} {base : Nat} {e : TypeId} {size : Nat} {v : Value} {n : Nat} {xs : List Value} (h : w.ownsRow base e size v n xs) {g : Nat} (hg : v.ownBlock = some g) : ∃ cur fr, w.heap[g]? = some (.cells cur e fr) := by
  rcases h.2 with ⟨rfl, _⟩ | ⟨g', cap, cur, rfl, _, hgg, _⟩
  · simp [Value.ownBlock] at hg
  · simp [Value.ownBlock] at hg
    subst hg
    exact ⟨cur, _, hgg⟩
theorem SetAt.row_ne {w : World} {b k : Nat} {v : Value} {f : Int} {L : List Nat} {T : List Int} (h : SetAt w b k v f L T) {g : Nat} (hg : v.ownBlock = some g) : g ≠ b ∧ g ≠ k ∧ g < w.heap.size := by
  obtain ⟨cur, fr, hc⟩ := own_cells_gp h.row hg
  refine ⟨?_, ?_, (Array.getElem?_eq_some_iff.1 hc).1⟩
  · rintro rfl
    rw [h.blk] at hc
    simp at hc
  · rintro rfl
    obtain ⟨_, D, ⟨es, clock, hb, _⟩, _⟩ := h.map
    rw [hb] at hc
    cases hc
theorem SetAt.ow_lt {w : World} {b k : Nat} {v : Value} {f : Int} {L : List Nat} {T : List Int} (h : SetAt w b k v f L T) {i : Nat} (hi : Ow b k v i) : i < w.heap.size := by
  rcases hi with rfl | rfl | hi
  · exact h.lt
  · exact h.map.lt
  · exact (h.row_ne hi).2.2
theorem SetAt.kept {S : Nat → Prop} {w w' : World} {b k : Nat} {v : Value} {f : Int} {L : List Nat} {T : List Int} (h : SetAt w b k v f L T) (hp : Part S w w') (hk : ∀ i, Ow b k v i → ¬ S i) : SetAt w' b k v f L T :=
  ⟨(hp.block b h.lt (hk b (.inl rfl))).trans h.blk, h.map.kept hp (hk k (.inr (.inl rfl))), hp.own h.row fun g hg => hk g (.inr (.inr hg)), h.lo, h.hi, h.few⟩
theorem SetAt.step {w w' : World} {b k : Nat} {v : Value} {f : Int} {L : List Nat} {T : List Int} (h : SetAt w b k v f L T) (hp : Below w.heap.size w w') : SetAt w' b k v f L T := h.kept (Part.of_below (fun _ => False) hp) fun _ _ hc => hc
theorem SetAt.c0 {w : World} {b k : Nat} {v : Value} {f : Int} {L : List Nat} {T : List Int} (h : SetAt w b k v f L T) : w.cell? ⟨b, 0, none⟩ = some (.int .u32 f) := by
  rw [cell_of_row w b 0 _ _ _ h.blk]
  rfl
theorem SetAt.c1 {w : World} {b k : Nat} {v : Value} {f : Int} {L : List Nat} {T : List Int} (h : SetAt w b k v f L T) : w.cell? ⟨b, 1, none⟩ = some (.map (some k)) := by
  rw [cell_of_row w b 1 _ _ _ h.blk]
  rfl
theorem SetAt.c2 {w : World} {b k : Nat} {v : Value} {f : Int} {L : List Nat} {T : List Int} (h : SetAt w b k v f L T) : w.cell? ⟨b, 2, none⟩ = some v := by
  rw [cell_of_row w b 2 _ _ _ h.blk]
  rfl
theorem SetAt.fz {w : World} {b k : Nat} {v : Value} {f : Int} {L : List Nat} {T : List Int} (h : SetAt w b k v f L T) (j : Nat) : w.frozen? ⟨b, j, none⟩ = false := by simp [World.frozen?, h.blk]
theorem zero_at (w : World) : (zeroValue 140).run Tryz.prog w = .ok (.agg #[.int .u32 0, .map none, .slice none 0 0]) w := by kernel_rfl
theorem New_any_gp (n : Int) (n0 : 0 ≤ n) (n1 : n < 4294967296) (w : World) :
    Calls Tryz.prog 51 #[.int .u32 n] w fun e w' => ∃ b k, e = .returned (.pointer (some ⟨b, 0, none⟩)) ∧ SetAt w' b k (.slice none 0 0) (wr (n - 1)) [] [] ∧ w.heap.size ≤ b ∧ w.heap.size ≤ k ∧ Below w.heap.size w w' := by
  have e1 : Hid ((n - 1) % 4294967296 = wr (n - 1)) := rfl
  have h0 := zero_at
  have hmm := @run_makeMap Tryz.prog
  go_enter Tryz.func51, Tryz.ntmps51
  go_wp2_with fail
  go_ret
  have hb := heap_alloc_new (w.alloc (.map #[] 0)) (.cells #[.int .u32 ((n - 1) % 4294967296), .map (some w.heap.size), .slice none 0 0] 140)
  have hs : (w.alloc (.map #[] 0)).heap.size = w.heap.size + 1 := by simp
  rw [hs] at hb
  refine ⟨w.heap.size + 1, w.heap.size, rfl, ⟨hb, ?_, World.ownsRow_nil _ _ _ _, wr_lo _, wr_hi _, by decide⟩, by omega, Nat.le_refl _, (below_lay w _).alloc (by omega) _⟩
  exact MapAt.of ((World.ownsMap_made w Tryz.prog 22 UE).alloc _) Fit.nil (Keys.nil _)
end
end Go.Proofs.YtnlkdlnmffibhaaGreat
