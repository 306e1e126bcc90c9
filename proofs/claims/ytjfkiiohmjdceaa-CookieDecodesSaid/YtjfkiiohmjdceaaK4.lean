/- cookie.state: the state whose numbers stand in 48 octets. -/
import Derived.Test.YtjfkiiohmjdceaaK3
namespace Go.Proofs.Ytjfkiiohmjdceaa
open Go.RowKit
set_option linter.unusedVariables false

theorem St_size : (Try.prog.info? 28).map (·.size) = some 11 := by kernel_rfl
/-- A state's block, as it lies. -/
def SB (w : World) (g : Nat) (cs : Array Value) : Prop := w.heap[g]? = some (.cells cs 28 (0, 0))
theorem SB.lt {w : World} {g : Nat} {cs : Array Value} (h : SB w g cs) : g < w.heap.size := (Array.getElem?_eq_some_iff.1 h).1
theorem SB.cell {w : World} {g : Nat} {cs : Array Value} (h : SB w g cs) (j : Nat) (v : Value) (hv : cs[j]? = some v) : w.cell? ⟨g, j, none⟩ = some v := by rw [cell_of_row _ _ _ _ _ _ h]; exact hv
theorem SB.fz {w : World} {g : Nat} {cs : Array Value} (h : SB w g cs) (j : Nat) : w.frozen? ⟨g, j, none⟩ = false := frozen_of_row w g j _ _ h
theorem SB.step {w w' : World} {g : Nat} {cs : Array Value} (h : SB w g cs) (hb : Below w.heap.size w w') : SB w' g cs := (hb.block g h.lt).trans h
theorem SB.past {w w' : World} {g k : Nat} {cs : Array Value} (h : SB w g cs) (hg : w.grownBy w' (some k)) (hne : g ≠ k) : SB w' g cs := (hg.block g h.lt (by simpa using hne)).trans h
theorem SB.set {w : World} {g : Nat} {cs : Array Value} (h : SB w g cs) (j : Nat) (v : Value) : SB (w.setCell ⟨g, j, none⟩ v) g (cs.setIfInBounds j v) := heap_setCell_same w g j cs _ v h
theorem SB.else_ {w : World} {g k j : Nat} {cs : Array Value} (h : SB w g cs) (hne : g ≠ k) (v : Value) : SB (w.setCell ⟨k, j, none⟩ v) g cs := (heap_setCell_other w ⟨k, j, none⟩ g v hne).trans h
/-- A state is laid over another one. -/
theorem laid11 {w : World} {g : Nat} {u : CS} (h : SB w g u.cells) (s : CS) :
    SB ((((((((((((w).setCell ⟨g, 0, none⟩ (.int .i64 s.made)).setCell ⟨g, 1, none⟩ (.int .i64 s.life)).setCell ⟨g, 2, none⟩ (.int .u32 s.tag)).setCell ⟨g, 3, none⟩ (.int .u32 s.peer)).setCell ⟨g, 4, none⟩ (.int .u32 s.fst)).setCell ⟨g, 5, none⟩ (.int .u32 s.pf)).setCell ⟨g, 6, none⟩ (.int .u32 s.room)).setCell ⟨g, 7, none⟩ (.int .u16 s.out)).setCell ⟨g, 8, none⟩ (.int .u16 s.inn)).setCell ⟨g, 9, none⟩ (.int .u32 s.t0)).setCell ⟨g, 10, none⟩ (.int .u32 s.t1)) g s.cells := by
  obtain ⟨made, life, tag, peer, fst, pf, room, out, inn, t0, t1⟩ := u
  obtain ⟨made', life', tag', peer', fst', pf', room', out', inn', t0', t1'⟩ := s
  have k0 := heap_setCell_same _ g 0 _ _ (.int .i64 made') h
  simp only [List.setIfInBounds_toArray, List.set_cons_zero] at k0
  have k1 := heap_setCell_same _ g 1 _ _ (.int .i64 life') k0
  simp only [List.setIfInBounds_toArray, List.set_cons_zero, List.set_cons_succ] at k1
  have k2 := heap_setCell_same _ g 2 _ _ (.int .u32 tag') k1
  simp only [List.setIfInBounds_toArray, List.set_cons_zero, List.set_cons_succ] at k2
  have k3 := heap_setCell_same _ g 3 _ _ (.int .u32 peer') k2
  simp only [List.setIfInBounds_toArray, List.set_cons_zero, List.set_cons_succ] at k3
  have k4 := heap_setCell_same _ g 4 _ _ (.int .u32 fst') k3
  simp only [List.setIfInBounds_toArray, List.set_cons_zero, List.set_cons_succ] at k4
  have k5 := heap_setCell_same _ g 5 _ _ (.int .u32 pf') k4
  simp only [List.setIfInBounds_toArray, List.set_cons_zero, List.set_cons_succ] at k5
  have k6 := heap_setCell_same _ g 6 _ _ (.int .u32 room') k5
  simp only [List.setIfInBounds_toArray, List.set_cons_zero, List.set_cons_succ] at k6
  have k7 := heap_setCell_same _ g 7 _ _ (.int .u16 out') k6
  simp only [List.setIfInBounds_toArray, List.set_cons_zero, List.set_cons_succ] at k7
  have k8 := heap_setCell_same _ g 8 _ _ (.int .u16 inn') k7
  simp only [List.setIfInBounds_toArray, List.set_cons_zero, List.set_cons_succ] at k8
  have k9 := heap_setCell_same _ g 9 _ _ (.int .u32 t0') k8
  simp only [List.setIfInBounds_toArray, List.set_cons_zero, List.set_cons_succ] at k9
  have k10 := heap_setCell_same _ g 10 _ _ (.int .u32 t1') k9
  simp only [List.setIfInBounds_toArray, List.set_cons_zero, List.set_cons_succ] at k10
  exact k10
theorem below11 {B : Nat} {a w : World} (h : Below B a w) {g : Nat} (hg : B ≤ g) (x0 x1 x2 x3 x4 x5 x6 x7 x8 x9 x10 : Value) :
    Below B a ((((((((((((w).setCell ⟨g, 0, none⟩ x0).setCell ⟨g, 1, none⟩ x1).setCell ⟨g, 2, none⟩ x2).setCell ⟨g, 3, none⟩ x3).setCell ⟨g, 4, none⟩ x4).setCell ⟨g, 5, none⟩ x5).setCell ⟨g, 6, none⟩ x6).setCell ⟨g, 7, none⟩ x7).setCell ⟨g, 8, none⟩ x8).setCell ⟨g, 9, none⟩ x9).setCell ⟨g, 10, none⟩ x10) :=
  (((((((((((h).setCell (p := ⟨g, 0, none⟩) hg x0).setCell (p := ⟨g, 1, none⟩) hg x1).setCell (p := ⟨g, 2, none⟩) hg x2).setCell (p := ⟨g, 3, none⟩) hg x3).setCell (p := ⟨g, 4, none⟩) hg x4).setCell (p := ⟨g, 5, none⟩) hg x5).setCell (p := ⟨g, 6, none⟩) hg x6).setCell (p := ⟨g, 7, none⟩) hg x7).setCell (p := ⟨g, 8, none⟩) hg x8).setCell (p := ⟨g, 9, none⟩) hg x9).setCell (p := ⟨g, 10, none⟩) hg x10
theorem SB.all {w : World} {g : Nat} {s : CS} (h : SB w g s.cells) :
    (w.cell? ⟨g, 0, none⟩ = some (.int .i64 s.made) ∧ w.cell? ⟨g, 1, none⟩ = some (.int .i64 s.life) ∧ w.cell? ⟨g, 2, none⟩ = some (.int .u32 s.tag) ∧ w.cell? ⟨g, 3, none⟩ = some (.int .u32 s.peer) ∧
    w.cell? ⟨g, 4, none⟩ = some (.int .u32 s.fst) ∧ w.cell? ⟨g, 5, none⟩ = some (.int .u32 s.pf) ∧ w.cell? ⟨g, 6, none⟩ = some (.int .u32 s.room) ∧ w.cell? ⟨g, 7, none⟩ = some (.int .u16 s.out) ∧
    w.cell? ⟨g, 8, none⟩ = some (.int .u16 s.inn) ∧ w.cell? ⟨g, 9, none⟩ = some (.int .u32 s.t0) ∧ w.cell? ⟨g, 10, none⟩ = some (.int .u32 s.t1)) ∧
    (w.frozen? ⟨g, 0, none⟩ = false ∧ w.frozen? ⟨g, 1, none⟩ = false ∧ w.frozen? ⟨g, 2, none⟩ = false ∧ w.frozen? ⟨g, 3, none⟩ = false ∧ w.frozen? ⟨g, 4, none⟩ = false ∧ w.frozen? ⟨g, 5, none⟩ = false ∧
    w.frozen? ⟨g, 6, none⟩ = false ∧ w.frozen? ⟨g, 7, none⟩ = false ∧ w.frozen? ⟨g, 8, none⟩ = false ∧ w.frozen? ⟨g, 9, none⟩ = false ∧ w.frozen? ⟨g, 10, none⟩ = false) :=
  ⟨CB.all h, h.fz 0, h.fz 1, h.fz 2, h.fz 3, h.fz 4, h.fz 5, h.fz 6, h.fz 7, h.fz 8, h.fz 9, h.fz 10⟩
/-- A function that hands back the state of its block. -/
theorem ret_st {fn : Func} {p : Tmp} (hr : fn.results = #[.cell p 28]) (tmps : Array Value) (w : World) (g : Nat) (s : CS) (hp : tmps.getD p undef = .pointer (some ⟨g, 0, none⟩)) (h : SB w g s.cells) :
    (results fn tmps).run Try.prog w = .ok (.agg s.cells) w :=
  results_cell_row hr tmps w g _ s.cells (0, 0) _ hp h Try.underlying28 rfl St_size
theorem ret_st_err {fn : Func} {p u : Tmp} (hr : fn.results = #[.cell p 28, .tmp u]) (tmps : Array Value) (w : World) (g : Nat) (s : CS) (hp : tmps.getD p undef = .pointer (some ⟨g, 0, none⟩)) (h : SB w g s.cells) :
    (results fn tmps).run Try.prog w = .ok (.tuple #[.agg s.cells, tmps.getD u undef]) w := by
  rw [results_cell_tmp hr, hp]
  have := run_loadVar_row w g _ 28 s.cells (0, 0) _ h Try.underlying28 rfl St_size
  simp [asAddr, this]

/-- A reader is not touched where another block's cell has turned. -/
theorem RD.else_ {w : World} {g k j n c : Nat} {A : Option Addr} {bs : List UInt8} {fr : Nat × Nat} (h : RD w g A n c bs) {C : Array Value} {t : TypeId} (hk : w.heap[k]? = some (.cells C t fr)) (ht : t ≠ 79) (ht' : t ≠ 5) (hty : TY w A) (v : Value) : RD (w.setCell ⟨k, j, none⟩ v) g A n c bs ∧ TY (w.setCell ⟨k, j, none⟩ v) A := by
  have hne : ∀ (b : Nat) (D : Array Value) (u : TypeId) (f : Nat × Nat), w.heap[b]? = some (.cells D u f) → u ≠ t → b ≠ k := fun b D u f hb hu e => by
    subst e
    have := hb.symm.trans hk
    simp at this
    exact hu this.2.1
  have key : ∀ (b : Nat) (D : Array Value) (u : TypeId) (f : Nat × Nat), w.heap[b]? = some (.cells D u f) → u ≠ t → (w.setCell ⟨k, j, none⟩ v).heap[b]? = some (.cells D u f) := fun b D u f hb hu =>
    (heap_setCell_other w ⟨k, j, none⟩ b v (hne b D u f hb hu)).trans hb
  refine ⟨⟨key _ _ _ _ h.1 (Ne.symm ht), h.2.1, h.2.2.1, fun hx => ?_⟩, fun a e => ?_⟩
  · obtain ⟨b, o, e, hlt, hc⟩ := h.2.2.2 hx
    obtain ⟨D, hD⟩ := hty _ e
    refine ⟨b, o, e, by simpa [World.setCell] using hlt, fun i w' hw => ?_⟩
    exact (World.cell?_of_block (w := w) (a := ⟨b, o + i, none⟩) ((key _ _ _ _ hD (Ne.symm ht')).trans hD.symm)).trans (hc i w' hw)
  · obtain ⟨D, hD⟩ := hty _ e
    exact ⟨D, key _ _ _ _ hD (Ne.symm ht')⟩

theorem ty_next {w w' : World} {g n c : Nat} {A A' : Option Addr} {bs : List UInt8} (hr : RD w g A n c bs) (ht : TY w A) (hg : w.grownBy w' (some g)) (hs : Stays w g A') : TY w' A' := fun a e => by
  obtain ⟨cs, hc⟩ := hs.ty hr.cell ht a e
  refine ⟨cs, (hg.block a.block (Array.getElem?_eq_some_iff.1 hc).1 fun e' => ?_).trans hc⟩
  injection e' with e'
  have := hr.1
  rw [← e', hc] at this
  simp at this
/-- What the state holds when the first j of the seven numbers are read. -/
def arr (bs : List UInt8) (j : Nat) (o i : Int) : Array Value :=
  #[.int .i64 (wrap64 (n8 bs 0)), .int .i64 (wrap64 (n8 bs 8)), .int .u32 (if 0 < j then n4 bs 16 else 0), .int .u32 (if 1 < j then n4 bs 20 else 0), .int .u32 (if 2 < j then n4 bs 24 else 0), .int .u32 (if 3 < j then n4 bs 28 else 0), .int .u32 (if 4 < j then n4 bs 32 else 0),
    .int .u16 o, .int .u16 i, .int .u32 (if 5 < j then n4 bs 36 else 0), .int .u32 (if 6 < j then n4 bs 40 else 0)]
def pos (j : Nat) : Nat := [2, 3, 4, 5, 6, 9, 10].getD j 0
def ptrs (S : Nat) : Array Value := #[.pointer (some ⟨S, 2, none⟩), .pointer (some ⟨S, 3, none⟩), .pointer (some ⟨S, 4, none⟩), .pointer (some ⟨S, 5, none⟩), .pointer (some ⟨S, 6, none⟩), .pointer (some ⟨S, 9, none⟩), .pointer (some ⟨S, 10, none⟩)]
theorem ptrs_get (S j : Nat) (hj : j < 7) : (ptrs S)[j]? = some (.pointer (some ⟨S, pos j, none⟩)) := by
  rcases j with _ | _ | _ | _ | _ | _ | _ | j <;> first | rfl | omega
theorem arr_old (bs : List UInt8) (j : Nat) (hj : j < 7) : (arr bs j 0 0)[pos j]? = some (.int .u32 0) := by
  rcases j with _ | _ | _ | _ | _ | _ | _ | j <;> first | rfl | omega
theorem arr_next (bs : List UInt8) (j : Nat) (hj : j < 7) : (arr bs j 0 0).setIfInBounds (pos j) (.int .u32 (n4 bs (16 + 4 * j))) = arr bs (j + 1) 0 0 := by
  rcases j with _ | _ | _ | _ | _ | _ | _ | j <;> first | rfl | omega
theorem arr_all (bs : List UInt8) : arr bs 7 (n2 bs 44) (n2 bs 46) = (stateOf bs).cells := rfl

/-- What stands while the seven are read: the reader, the state's block, the pointers' block, the result's. -/
structure Hold (w : World) (S Pb g : Nat) (W : World) (bs : List UInt8) (cs : Array Value) (k : Nat) : Prop where
  rd : ∃ A n c, RD W g A n c (bs.drop k) ∧ TY W A
  sb : SB W S cs
  pb : W.heap[Pb]? = some (.cells (ptrs S) 61 (0, 0))
  rb : SB W w.heap.size CS.zero.cells
  below : Below w.heap.size w W
  gS : g ≠ S
  gP : g ≠ Pb
  gR : w.heap.size < g
  sR : w.heap.size < S

set_option maxRecDepth 100000 in
set_option maxHeartbeats 2000000 in
theorem state_any (A : Option Addr) (c : Nat) (bs : List UInt8) (w : World) (hb : BS w A 48 c bs) :
    Calls Try.prog 14 #[.slice A 48 c] w fun e w' => e = .returned (.agg (stateOf bs).cells) ∧ Below w.heap.size w w' := by
  have l1 := below_lay w (.cells CS.zero.cells 28)
  have KN1 := keep (new_any A 48 c bs _ (hb.step l1) (by omega))
  have HL := keep hb.len
  have R1 := keep (show SB (w.alloc (.cells CS.zero.cells 28)) w.heap.size CS.zero.cells from heap_alloc_new w _)
  replace l1 := keep l1
  clear hb
  go_enter Try.func14, Try.ntmps14
  go_wp2_with fail
  refine KN1.out.mono ?_
  rintro e w1 ⟨g, A1, n1, c1, rfl, hr1, hg1, hb1, ht1⟩
  have l2 := below_lay w1 (.cells CS.zero.cells 28)
  have hn1 : n1 = 48 := by have := hr1.2.len; have := HL.out; omega
  subst hn1
  have K2 := keep (read64_some g A1 48 c1 bs (by omega) _ (hr1.step l2))
  clear KN1
  go_wp2_with fail
  refine K2.out.mono ?_
  rintro e w3 ⟨rfl, A3, n3, c3, hr3, hg3, hs3⟩
  have hn3 : n3 = 40 := by have := hr3.2.len; rw [List.length_drop] at this; have := HL.out; omega
  subst hn3
  have K3 := read64_some g A3 40 c3 (bs.drop 8) (by omega) w3 hr3
  rw [show n8 (bs.drop 8) 0 = n8 bs 8 by unfold n8; rw [n4_drop bs 8 0 8 rfl, n4_drop bs 8 (0 + 4) (8 + 4) rfl], List.drop_drop] at K3
  replace K3 := keep K3
  clear K2
  go_wp2_with fail
  refine K3.out.mono ?_
  rintro e w4 ⟨rfl, A4, n4_, c4, hr4, hg4, hs4⟩
  clear K3
  obtain ⟨S, hSd⟩ : ∃ S, w1.heap.size = S := ⟨_, rfl⟩
  have hgS : g < S := by have := hr1.lt; omega
  have hw1 : w.heap.size < S := by have := hb1.size; simp at this; omega
  have hwg : w.heap.size < g := by simp at hg1; omega
  have S1 : SB (w1.alloc (.cells CS.zero.cells 28)) S CS.zero.cells := by rw [← hSd]; exact heap_alloc_new w1 _
  have S4 := (S1.past hg3 (by omega)).past hg4 (by omega)
  have R4 := (((R1.out.step hb1).step l2).past hg3 (by omega)).past hg4 (by omega)
  have T4 := ty_next hr3 (ty_next (hr1.step l2) (ht1.step l2) hg3 hs3) hg4 hs4
  have B1 : Below w.heap.size w w1 := up l1.out hb1
  have B2 : Below w.heap.size w (w1.alloc (.cells CS.zero.cells 28)) := B1.trans (l2.mono B1.size)
  have B3 : Below w.heap.size w w3 := B2.grown hg3 B2.size (fun k e => by cases e; omega)
  have B4 : Below w.heap.size w w4 := B3.grown hg4 B3.size (fun k e => by cases e; omega)
  have c0 := S4.cell 0 (.int .i64 0) rfl
  have c1' := S4.cell 1 (.int .i64 0) rfl
  have f0 := S4.fz 0
  have f1 := S4.fz 1
  have H4 := keep (And.intro hr4 (And.intro S4 (And.intro R4 (And.intro T4 B4))))
  have HX := keep (And.intro hgS (And.intro hw1 hwg))
  obtain ⟨m8, hm8⟩ : ∃ m, n8 bs 0 = m := ⟨_, rfl⟩
  obtain ⟨l8, hl8⟩ : ∃ m, n8 bs 8 = m := ⟨_, rfl⟩
  rw [hm8, hl8]
  replace hm8 := keep hm8
  replace hl8 := keep hl8
  have S4lt := S4.lt
  rw [hSd] at *
  clear hr4 S4 R4 T4 B4 B3 B2 B1 S1 hgS hw1 hwg hr3 hg3 hs3 hr1 hg1 hb1 ht1 l2 hg4 hs4 R1 l1 hSd
  go_wp2_with fail
  go_loopw [28] (fun i wr => ∃ j : Nat, j ≤ 7 ∧ i = .int .i64 j ∧ Hid (Hold w S w4.heap.size g wr bs (arr bs j 0 0) (16 + 4 * j))) (fun i _ => 7 - (intOf i).toNat)
  case atStart =>
    obtain ⟨hr4, S4, R4, T4, B4⟩ := H4.out
    obtain ⟨hgS, hw1, hwg⟩ := HX.out
    obtain ⟨r5, t5⟩ := hr4.else_ (j := 0) S4 (by decide) (by decide) T4 (.int .i64 (wrap64 m8))
    have S5 := S4.set 0 (.int .i64 (wrap64 m8))
    obtain ⟨r6, t6⟩ := r5.else_ (j := 1) S5 (by decide) (by decide) t5 (.int .i64 (wrap64 l8))
    have S6 := S5.set 1 (.int .i64 (wrap64 l8))
    have R6 := (R4.else_ (j := 0) (show w.heap.size ≠ S by omega) (.int .i64 (wrap64 m8))).else_ (j := 1) (show w.heap.size ≠ S by omega) (.int .i64 (wrap64 l8))
    have B6 := (B4.setCell (p := ⟨S, 0, none⟩) (show w.heap.size ≤ S by omega) (.int .i64 (wrap64 m8))).setCell (p := ⟨S, 1, none⟩) (show w.heap.size ≤ S by omega) (.int .i64 (wrap64 l8))
    have l7 := below_lay ((w4.setCell ⟨S, 0, none⟩ (.int .i64 (wrap64 m8))).setCell ⟨S, 1, none⟩ (.int .i64 (wrap64 l8))) (.cells (ptrs S) 61)
    refine ⟨0, by omega, rfl, keep ⟨⟨A4, n4_, c4, r6.step l7, t6.step l7⟩, ?_, ?_, R6.step l7, B6.alloc B6.size _, by omega, by have := S4.lt; omega, hwg, hw1⟩⟩
    · have := S6.step l7
      rw [← hm8.out, ← hl8.out] at this
      rw [← hm8.out, ← hl8.out]
      exact this
    · have := heap_alloc_new ((w4.setCell ⟨S, 0, none⟩ (.int .i64 (wrap64 m8))).setCell ⟨S, 1, none⟩ (.int .i64 (wrap64 l8))) (.cells (ptrs S) 61)
      have hsz : ((w4.setCell ⟨S, 0, none⟩ (.int .i64 (wrap64 m8))).setCell ⟨S, 1, none⟩ (.int .i64 (wrap64 l8))).heap.size = w4.heap.size := by simp [World.setCell]
      rw [hsz] at this
      exact this
  case round =>
    obtain ⟨j, hj, rfl, H⟩ := hrel
    clear H4 HX hm8 hl8 c0 c1' f0 f1
    obtain ⟨A5, n5, c5, hr5, ht5⟩ := H.out.rd
    have hn5 : n5 = 32 - 4 * j := by have := hr5.2.len; rw [List.length_drop] at this; have := HL.out; omega
    subst hn5
    by_cases hlt : j < 7
    · have K5 := get32_some g A5 (32 - 4 * j) c5 _ (by omega) wr hr5
      rw [n4_drop bs (16 + 4 * j) 0 (16 + 4 * j) rfl, List.drop_drop] at K5
      replace K5 := keep K5
      have cp := (show wr.cell? ⟨w4.heap.size, j, none⟩ = some (.pointer (some ⟨S, pos j, none⟩)) by rw [cell_of_row _ _ _ _ _ _ H.out.pb]; exact ptrs_get S j hlt)
      have HR5 := keep (And.intro hr5 ht5)
      obtain ⟨v, hv⟩ : ∃ v, n4 bs (16 + 4 * j) = v := ⟨_, rfl⟩
      rw [hv] at K5
      replace hv := keep hv
      obtain ⟨p, hp⟩ : ∃ p, pos j = p := ⟨_, rfl⟩
      rw [hp] at cp
      replace hp := keep hp
      clear hr5 ht5
      go_wp2_with (go_at_call 27; refine K5.out.mono ?_; rintro e w6 ⟨rfl, A6, n6, c6, hr6, hg6, hs6⟩
                   have S6 := H.out.sb.past hg6 (Ne.symm H.out.gS)
                   have c6' := S6.cell p (.int .u32 0) (by rw [← hp.out]; exact arr_old bs j hlt)
                   have f6 := S6.fz p
                   have H6 := keep (And.intro hr6 (And.intro hg6 hs6))
                   replace S6 := keep S6
                   clear K5 hr6 hg6 hs6)
      go_roundw
      case rel =>
        obtain ⟨hr6, hg6, hs6⟩ := H6.out
        obtain ⟨r7, t7⟩ := hr6.else_ (j := p) S6.out (by decide) (by decide) (ty_next HR5.out.1 HR5.out.2 hg6 hs6) (.int .u32 v)
        have hS := S6.out.set p (.int .u32 v)
        rw [← hv.out, ← hp.out, arr_next bs j hlt] at hS
        have gS := H.out.gS
        have gP := H.out.gP
        have gR := H.out.gR
        have sR := H.out.sR
        refine ⟨j + 1, by omega, by go_num, keep ⟨⟨A6, n6, c6, ?_, t7⟩, ?_, ?_, (H.out.rb.past hg6 (by omega)).else_ (by omega) _, ?_, gS, gP, gR, sR⟩⟩
        · rw [show 16 + 4 * (j + 1) = 16 + 4 * j + 4 by omega]
          exact r7
        · rw [← hv.out, ← hp.out]
          exact hS
        · exact (heap_setCell_other w6 ⟨S, p, none⟩ w4.heap.size _ (by simp only; omega)).trans ((hg6.block _ (Array.getElem?_eq_some_iff.1 H.out.pb).1 (by simpa using Ne.symm gP)).trans H.out.pb)
        · exact (H.out.below.grown hg6 H.out.below.size (fun k e => by cases e; omega)).setCell (p := ⟨S, p, none⟩) (by simp only; omega) _
      case measure => simp [intOf]; omega
    · obtain rfl : j = 7 := by omega
      have K5 := get16_some g A5 4 c5 _ (by omega) wr hr5
      rw [n2_drop bs (16 + 4 * 7) 0 44 rfl, List.drop_drop] at K5
      replace K5 := keep K5
      have HR5 := keep (And.intro hr5 ht5)
      obtain ⟨x, hx⟩ : ∃ x, n2 bs 44 = x := ⟨_, rfl⟩
      obtain ⟨y, hy⟩ : ∃ y, n2 bs 46 = y := ⟨_, rfl⟩
      rw [hx] at K5
      replace hx := keep hx
      replace hy := keep hy
      clear hr5 ht5
      go_wp2_with fail
      refine K5.out.mono ?_
      rintro e w6 ⟨rfl, A6, n6, c6, hr6, hg6, hs6⟩
      have gS := H.out.gS
      have gR := H.out.gR
      have sR := H.out.sR
      have S6 := H.out.sb.past hg6 (Ne.symm gS)
      have c6' := S6.cell 7 (.int .u16 0) rfl
      have f6 := S6.fz 7
      obtain ⟨r7, t7⟩ := hr6.else_ (j := 7) S6 (by decide) (by decide) (ty_next HR5.out.1 HR5.out.2 hg6 hs6) (.int .u16 x)
      have S7 := S6.set 7 (.int .u16 x)
      have R7 := (H.out.rb.past hg6 (by omega)).else_ (k := S) (j := 7) (by omega) (.int .u16 x)
      have B7 := (H.out.below.grown hg6 H.out.below.size (fun k e => by cases e; omega)).setCell (p := ⟨S, 7, none⟩) (by simp only; omega) (.int .u16 x)
      have hn6 : n6 = 2 := by have := r7.2.len; rw [List.length_drop] at this; have := HL.out; omega
      subst hn6
      have K7 := get16_some g A6 2 c6 _ (by omega) _ r7
      rw [n2_drop bs (16 + 4 * 7 + 2) 0 46 rfl, hy.out] at K7
      replace K7 := keep K7
      have HH := keep (And.intro S7 (And.intro R7 B7))
      clear hr6 hg6 hs6 S6 r7 t7 S7 R7 B7 K5 H HR5
      go_wp2_with fail
      refine K7.out.mono ?_
      rintro e w8 ⟨rfl, A8, n8_, c8, hr8, hg8, hs8⟩
      obtain ⟨S7, R7, B7⟩ := HH.out
      have S8 := S7.past hg8 (Ne.symm gS)
      have R8 := R7.past hg8 (by omega)
      have B8 := B7.grown hg8 B7.size (fun k e => by cases e; omega)
      obtain ⟨⟨made, life, tag, peer, fst, pf, room, out, inn, t0, t1⟩, hs1⟩ : ∃ s1 : CS, s1 = ⟨wrap64 (n8 bs 0), wrap64 (n8 bs 8), n4 bs 16, n4 bs 20, n4 bs 24, n4 bs 28, n4 bs 32, x, 0, n4 bs 36, n4 bs 40⟩ := ⟨_, rfl⟩
      have S8' : SB w8 S (CS.cells ⟨made, life, tag, peer, fst, pf, room, out, inn, t0, t1⟩) := by rw [hs1]; exact S8
      have HS1 := keep hs1
      obtain ⟨⟨a0, a1, a2, a3, a4, a5, a6, a7, a8, a9, a10⟩, z0, z1, z2, z3, z4, z5, z6, z7, z8, z9, z10⟩ := S8'.all
      obtain ⟨⟨r0, r1, r2, r3, r4, r5, r6, r7, r8, r9, r10⟩, y0, y1, y2, y3, y4, y5, y6, y7, y8, y9, y10⟩ := R8.all
      have HN := keep (And.intro gR sR)
      have hne : ¬ S = w.heap.size := by omega
      have hne' : ¬ w.heap.size = S := by omega
      have HE := keep (And.intro S8' (And.intro R8 B8))
      clear S8 S8' R8 B8 S7 R7 B7 hr8 hg8 hs8 HH K7 gS gR sR hs1 c6' f6
      go_wp2_with fail
      obtain ⟨S9, R9, B9⟩ := HE.out
      obtain ⟨gR, sR⟩ := HN.out
      (try simp only [Exit.inBlock, Exit.then])
      refine bodyPost_ret (ret_st rfl _ _ w.heap.size ⟨made, life, tag, peer, fst, pf, room, out, y, t0, t1⟩ rfl ?_) rfl ⟨?_, ?_⟩
      · exact laid11 (u := CS.zero) (R9.else_ (k := S) (j := 8) (by omega) (.int .u16 y)) ⟨made, life, tag, peer, fst, pf, room, out, y, t0, t1⟩
      · have h1 := HS1.out
        cases h1
        rw [show stateOf bs = ⟨wrap64 (n8 bs 0), wrap64 (n8 bs 8), n4 bs 16, n4 bs 20, n4 bs 24, n4 bs 28, n4 bs 32, n2 bs 44, n2 bs 46, n4 bs 36, n4 bs 40⟩ from rfl, hx.out, hy.out]
      · exact below11 (B9.setCell (p := ⟨S, 8, none⟩) (by simp only; omega) _) (Nat.le_refl _) _ _ _ _ _ _ _ _ _ _ _
end Go.Proofs.Ytjfkiiohmjdceaa
