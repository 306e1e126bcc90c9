/- Which timer is due first. -/
import Derived.WalkSpells
import Derived.KernelRfl
import Derived.Deep.QuietTactic
import Derived.BigQuiet
import Derived.Laws.IdiomRangeMap
import Derived.Test.YthnhmgdefmahkaaTA
import Derived.Test.YthnhmgdefmahkaaTC
namespace Go.Proofs.Ythnhmgdefmahkaa
open Go.RowKit Go.Maps Go.Sort
set_option linter.unusedVariables false

theorem below_drewN {B : Nat} {a w : World} (h : Below B a w) (n : Nat) : Below B a (w.drewN n) := ⟨h.os, h.tape, h.output, h.size, h.block⟩
theorem below_grow (w : World) (n : Nat) (os : Array Obj) : Below w.heap.size w (grow (w.drewN n) os) :=
  ⟨rfl, rfl, rfl, by simp [grow], fun k hk => heap_grow_old (w.drewN n) os hk⟩
theorem order_bel (x y : Int × Int) (W : World) : Calls Try.prog 22 #[.agg #[.int .i64 x.1, .int .i64 x.2], .agg #[.int .i64 y.1, .int .i64 y.2]] W fun e w' => e = .returned (.int .i64 (ordI x y)) ∧ Below W.heap.size W w' :=
  (order_any x y W).mono fun e w' ⟨he, q, os, hw⟩ => ⟨he, by rw [hw]; exact below_grow W q os⟩

theorem Next_bare {p : Option Addr} {w : World} (h : Bare w p) :
    Calls Try.prog 18 #[.pointer p] w fun e w' => e = .returned (.tuple #[.int .i64 0, .int .i64 0, .bool false]) ∧ Below w.heap.size w w' := by
  have hrg := fun (w : World) => run_range_nilMap (P := Try.prog) w 25 3 3 Try.underlying25
  have hnx : ∀ ty, (Instr.next (.pointer (some ⟨w.heap.size + 1, 0, none⟩)) false ty).run Try.prog ((w.alloc (.cells #[.int .i64 0, .int .i64 0] 56)).alloc (.mapIter none 0 #[] 0)) = .ok (.tuple #[.bool false]) ((w.alloc (.cells #[.int .i64 0, .int .i64 0] 56)).alloc (.mapIter none 0 #[] 0)) := fun ty => by
    have := run_next_nilMap (P := Try.prog) (w.alloc (.cells #[.int .i64 0, .int .i64 0] 56)) ty 0 0 #[]
    have e : (w.alloc (.cells #[.int .i64 0, .int .i64 0] 56)).heap.size = w.heap.size + 1 := by simp
    rw [e] at this
    exact this
  have HA := keep (all_bare (h.step (below_lay w (.cells #[.int .i64 0, .int .i64 0] 56))))
  clear h
  go_enter Try.func18, Try.ntmps18
  go_wp2_with (go_at_call 20; refine HA.out.mono ?_; rintro e w' ⟨rfl, rfl⟩)
  refine wp_loop_rounds 1 ?_
  rw [rounds_succ]
  go_wp2
  go_quiet (fail)
  go_wp2
  go_ret3
  exact ⟨rfl, below_drewN ((below_lay w _).trans ((below_lay _ _).mono (by simp))) _⟩

/-- What has been found so far: nothing, and all is still to come; or the first of what has come. -/
def Found (l : List (Int × Int)) (left : Lit → Bool) (f : Bool) (p : Int × Int) : Prop :=
  (f = false → p = (0, 0) ∧ ∀ q ∈ l, left (K q.1) = true) ∧ (f = true → p ∈ l ∧ ∀ q ∈ l, left (K q.1) = false → bef q p = false)
theorem left_strike {left : Lit → Bool} {x y : Int} : (left (K y) && !(K y).sameKey (K x)) = false → left (K y) = false ∨ y = x := by
  intro h
  cases hl : left (K y)
  · exact .inl rfl
  · rw [hl] at h
    right
    simp at h
    exact K_inj (WideAt.sameKey_eq h)
theorem Found.first {l : List (Int × Int)} {left : Lit → Bool} {p q : Int × Int} (ho : Ord l) (h : Found l left false p) (hq : q ∈ l) : Found l (fun z => left z && !z.sameKey (K q.1)) true q := by
  refine ⟨(fun h => by cases h), fun _ => ⟨hq, fun r hr hl => ?_⟩⟩
  rcases left_strike hl with h1 | h1
  · rw [(h.1 rfl).2 r hr] at h1
    cases h1
  · have := ho.one hr hq h1
    subst this
    rw [bef_no]
    omega
theorem Found.more {l : List (Int × Int)} {left : Lit → Bool} {p q : Int × Int} (ho : Ord l) (h : Found l left true p) (hq : q ∈ l) (hb : bef q p = true) : Found l (fun z => left z && !z.sameKey (K q.1)) true q := by
  refine ⟨(fun h => by cases h), fun _ => ⟨hq, fun r hr hl => ?_⟩⟩
  rcases left_strike hl with h1 | h1
  · have := (h.2 rfl).2 r hr h1
    rw [bef_no] at this ⊢
    rw [bef_iff] at hb
    omega
  · have := ho.one hr hq h1
    subst this
    rw [bef_no]
    omega
theorem Found.less {l : List (Int × Int)} {left : Lit → Bool} {p q : Int × Int} (ho : Ord l) (h : Found l left true p) (hq : q ∈ l) (hb : bef q p = false) : Found l (fun z => left z && !z.sameKey (K q.1)) true p := by
  refine ⟨(fun h => by cases h), fun _ => ⟨(h.2 rfl).1, fun r hr hl => ?_⟩⟩
  rcases left_strike hl with h1 | h1
  · exact (h.2 rfl).2 r hr h1
  · have := ho.one hr hq h1
    subst this
    exact hb
theorem Found.done {l : List (Int × Int)} {left : Lit → Bool} {f : Bool} {p : Int × Int} (ho : Ord l) (h : Found l left f p) (hl : ∀ z, left z = false) : p.1 = hdI l ∧ p.2 = hdA l ∧ f = some' l := by
  cases f
  · obtain ⟨rfl, h1⟩ := h.1 rfl
    cases l with
    | nil => exact ⟨rfl, rfl, rfl⟩
    | cons q r =>
      have := h1 q (by simp)
      rw [hl] at this
      cases this
  · obtain ⟨h1, h2⟩ := h.2 rfl
    obtain ⟨r, rfl⟩ := hd_of ho h1 fun q hq => h2 q hq (hl _)
    exact ⟨rfl, rfl, rfl⟩

/-- The block F is one timer's. -/
def EntAt (w : World) (F : Nat) (p : Int × Int) : Prop := w.heap[F]? = some (.cells #[.int .i64 p.1, .int .i64 p.2] 56 (0, 0))
theorem EntAt.c0 {w : World} {F : Nat} {p : Int × Int} (h : EntAt w F p) : w.cell? ⟨F, 0, none⟩ = some (.int .i64 p.1) := by
  rw [cell_of_row w F 0 _ _ _ h]
  rfl
theorem EntAt.c1 {w : World} {F : Nat} {p : Int × Int} (h : EntAt w F p) : w.cell? ⟨F, 1, none⟩ = some (.int .i64 p.2) := by
  rw [cell_of_row w F 1 _ _ _ h]
  rfl
theorem EntAt.fr {w : World} {F : Nat} {p : Int × Int} (h : EntAt w F p) (j : Nat) : w.frozen? ⟨F, j, none⟩ = false := by simp [World.frozen?, show w.heap[F]? = _ from h]
theorem EntAt.lt {w : World} {F : Nat} {p : Int × Int} (h : EntAt w F p) : F < w.heap.size := (Array.getElem?_eq_some_iff.1 h).1
theorem EntAt.step {w w' : World} {F : Nat} {p : Int × Int} (h : EntAt w F p) (hb : Below w.heap.size w w') : EntAt w' F p := (hb.block F h.lt).trans h
theorem EntAt.set {w : World} {F : Nat} {p q : Int × Int} (h : EntAt w F p) : EntAt ((w.setCell ⟨F, 0, none⟩ (.int .i64 q.1)).setCell ⟨F, 1, none⟩ (.int .i64 q.2)) F q := by
  have h' : w.heap[F]? = _ := h
  unfold EntAt World.setCell
  simp [Array.getElem?_modify, h']
theorem EntAt.new (w : World) (p : Int × Int) : EntAt (w.alloc (.cells #[.int .i64 p.1, .int .i64 p.2] 56)) w.heap.size p := heap_alloc_new w _

theorem grown_set (w : World) (a : Addr) (u : Value) : w.grownBy (w.setCell a u) (some a.block) :=
  ⟨rfl, rfl, rfl, by simp [World.setCell], fun i _ hi => Below.heap_setCell _ _ _ _ fun e => hi (by rw [e])⟩
theorem ranges_set {w : World} {k r n : Nat} {D : Dat} {left : Lit → Bool} {cnt F : Nat} (h : w.ranges Try.prog 3 (plainElem Try.prog 3) k r n D left cnt) (hk : k ≠ F) (hr : r ≠ F) (j : Nat) (u : Value) :
    (w.setCell ⟨F, j, none⟩ u).ranges Try.prog 3 (plainElem Try.prog 3) k r n D left cnt :=
  h.kept (grown_set w _ u) (by simpa using hk) (by simpa using hr)
theorem ranges_step {w w' : World} {k r n : Nat} {D : Dat} {left : Lit → Bool} {cnt : Nat} (h : w.ranges Try.prog 3 (plainElem Try.prog 3) k r n D left cnt) (hb : Below w.heap.size w w') :
    w'.ranges Try.prog 3 (plainElem Try.prog 3) k r n D left cnt :=
  h.kept (row := none) ⟨hb.os, hb.tape, hb.output, hb.size, fun i hi _ => hb.block i hi⟩ (by simp) (by simp)

set_option maxHeartbeats 2000000 in
set_option maxRecDepth 100000 in
theorem Next_set (b : Nat) (m : Option Nat) (l : List (Int × Int)) (w : World) (h : SetAt w b m l) :
    Calls Try.prog 18 #[.pointer (some ⟨b, 0, none⟩)] w fun e w' => e = .returned (.tuple #[.int .i64 (hdI l), .int .i64 (hdA l), .bool (some' l)]) ∧ Below w.heap.size w w' := by
  rcases m with _ | k
  · obtain rfl : l = [] := h.2
    exact Next_bare (.inr ⟨b, rfl, h⟩)
  · obtain ⟨ho, hfit, D, hD, hS⟩ := h.2
    have HA := keep (all_set (h.step (below_lay w (.cells #[.int .i64 0, .int .i64 0] 56))))
    have HO := keep ho
    have HS := keep hS
    have hD' := hD.alloc (.cells #[.int .i64 0, .int .i64 0] 56)
    have HK := keep hD.lt
    clear h ho hfit hS
    go_enter Try.func18, Try.ntmps18
    go_wp2_with (first
      | (go_at_call 20; refine HA.out.mono ?_; rintro e w' ⟨rfl, rfl⟩)
      | (at_range; refine wpList_range_own _ rfl _ 25 rfl 3 3 keyed Try.underlying25 _ k l.length D rfl hD' ?_; intro w0 hrg0 hg0 hs0))
    go_frame
    have esz : (w.alloc (.cells #[.int .i64 0, .int .i64 0] 56)).heap.size = w.heap.size + 1 := by simp
    have hb0 : Below w.heap.size w w0 := (below_lay w _).trans ((Part.of_grown (S := fun _ => False) hg0 fun i hi => by cases hi).below (by rw [esz]; omega) fun _ hi => hi.elim)
    have he0 : EntAt w0 w.heap.size (0, 0) := (hg0.block _ (by rw [esz]; omega) (by simp)).trans (EntAt.new w (0, 0))
    generalize hr : (w.alloc (.cells #[.int .i64 0, .int .i64 0] 56)).heap.size = r at hrg0 ⊢
    rw [esz] at hr
    have HR := keep hr
    clear hD hD' hg0 hs0 esz HA hr
    go_loopw [6] (fun f wr => ∃ (left : Lit → Bool) (cnt : Nat) (p : Int × Int) (fb : Bool), f = .bool fb ∧ wr.ranges Try.prog 3 (plainElem Try.prog 3) k r l.length D left cnt ∧ EntAt wr w.heap.size p ∧ Below w.heap.size w wr ∧ Found l left fb p)
      (fun _ wr => wr.rangeLeft k r)
    case atStart => exact ⟨_, _, _, false, rfl, hrg0, he0, hb0, fun _ => ⟨rfl, fun q hq => HS.out.has_of (id := q.1) (t := q.2) hq⟩, fun h => by cases h⟩
    case round =>
      clear hrg0 he0 hb0
      obtain ⟨left, cnt, p, fb, rfl, hrg, he, hb, hf⟩ := hrel
      have HF := keep hf
      clear hf
      go_wp2_with (at_next; refine wpList_next_ranges_ii _ rfl _ rfl 3 3 .i64 .i64 keyed Try.underlying3 Try.underlying3 k r l.length D left cnt rfl hrg ?_ ?_)
      · intro hc0 hl0
        have HE := keep (HF.out.done HO.out hl0)
        have c0 := he.c0
        have c1 := he.c1
        clear hl0 hc0 hrg
        go_wp2
        go_quiet (fail)
        go_wp2
        go_ret3
        obtain ⟨e1, e2, e3⟩ := HE.out
        exact ⟨by rw [← e1, ← e2, ← e3]; rfl, below_drewN hb _⟩
      · intro x c w1 cnt1 hwx hwc hlx hat hrg1 hlt hg1 hs1 hen
        have HM := keep (HS.out.mem hat)
        have he1 : EntAt w1 w.heap.size p := (hg1.block _ he.lt (by have := HR.out; simp; omega)).trans he
        have hb1 : Below w.heap.size w w1 := hb.grown hg1 hb.size fun i hi => by have := HR.out; cases hi; omega
        have HG := keep hrg1
        have HRo := keep hrg
        have c0 := he1.c0
        have c1 := he1.c1
        have he2 : EntAt (w1.alloc (.cells #[.int .i64 x, .int .i64 c] 56)) w.heap.size p := he1.step (below_lay _ _)
        have g0 := he2.c0
        have g1 := he2.c1
        have f0 := he2.fr 0
        have f1 := he2.fr 1
        have e0 := he1.fr 0
        have e1 := he1.fr 1
        have hsz := he1.lt
        have HE := keep he1
        have HB := keep hb1
        clear hat hwx hwc hlx hrg hrg1 he he1 he2 hb hb1 hg1 hs1
        have hFk : k ≠ w.heap.size := by have := HK.out; omega
        have hFr : r ≠ w.heap.size := by have := HR.out; omega
        have HN := keep (And.intro hFk hFr)
        clear hFk hFr
        cases fb
        · go_wp2
          have hG := (ranges_set (ranges_set HG.out HN.out.1 HN.out.2 0 (.int .i64 x)) HN.out.1 HN.out.2 1 (.int .i64 c)).alloc (.cells #[.int .i64 x, .int .i64 c] 56)
          go_roundw
          case rel => exact ⟨_, cnt1, (x, c), true, rfl, hG, (HE.out.set (q := (x, c))).step (below_lay _ _), ((HB.out.setCell (Nat.le_refl _) _).setCell (Nat.le_refl _) _).alloc (by have := HB.out.size; simp; omega) _, HF.out.first HO.out HM.out⟩
          case measure => rw [hG.left_eq, HRo.out.left_eq]; exact hlt
        · have HC := keep (order_bel (x, c) p (w1.alloc (.cells #[.int .i64 x, .int .i64 c] 56)))
          have hob := ordI_lt (x, c) p
          generalize ordI (x, c) p = o at HC hob
          cases hbf : bef (x, c) p
          · have ho : ¬ o < 0 := by rw [hbf] at hob; simpa using hob
            have HBF := keep hbf
            clear hob hbf
            go_wp2_with (go_at_call 22; refine HC.out.mono ?_; rintro e w3 ⟨rfl, hb3⟩; replace hb3 := keep hb3)
            have hG := ranges_step (HG.out.alloc (.cells #[.int .i64 x, .int .i64 c] 56)) hb3.out
            go_roundw
            case rel => exact ⟨_, cnt1, p, true, rfl, hG, (HE.out.step (below_lay w1 _)).step hb3.out, (HB.out.alloc HB.out.size _).trans (hb3.out.mono (by have := HB.out.size; simp; omega)), HF.out.less HO.out HM.out HBF.out⟩
            case measure => rw [hG.left_eq, HRo.out.left_eq]; exact hlt
          · have ho : o < 0 := by rw [hbf] at hob; simpa using hob
            have HBF := keep hbf
            clear hob hbf
            go_wp2_with (first
              | (go_at_call 22; refine HC.out.mono ?_; rintro e w3 ⟨rfl, hb3⟩
                 have hE3 := (HE.out.step (below_lay w1 (.cells #[.int .i64 x, .int .i64 c] 56))).step hb3
                 have hN3 := (EntAt.new w1 (x, c)).step hb3
                 have k0 := hN3.c0
                 have k1 := hN3.c1
                 have l0 := hE3.c0
                 have l1 := hE3.c1
                 have l2 := hE3.fr 0
                 have l3 := hE3.fr 1
                 replace hE3 := keep hE3
                 clear hN3 g0 g1 f0 f1 c0 c1 e0 e1
                 replace hb3 := keep hb3))
            have hG := ranges_set (ranges_set (ranges_step (HG.out.alloc (.cells #[.int .i64 x, .int .i64 c] 56)) hb3.out) HN.out.1 HN.out.2 0 (.int .i64 x)) HN.out.1 HN.out.2 1 (.int .i64 c)
            go_roundw
            case rel => exact ⟨_, cnt1, (x, c), true, rfl, hG, hE3.out.set (q := (x, c)), (((HB.out.alloc HB.out.size _).trans (hb3.out.mono (by have := HB.out.size; simp; omega))).setCell (Nat.le_refl _) _).setCell (Nat.le_refl _) _, HF.out.more HO.out HM.out HBF.out⟩
            case measure => rw [hG.left_eq, HRo.out.left_eq]; exact hlt
end Go.Proofs.Ythnhmgdefmahkaa
