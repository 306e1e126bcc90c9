/- The reference: Decode; what is refused at once. -/
import Derived.Test.YtapaiknghnbfmaaDoorD5
import Derived.Test.YtapaiknghnbfmaaDoorDV4
namespace Go.Proofs.YtapaiknghnbfmaaDoor
open Go.RowKit
set_option linter.unusedVariables false

theorem Rq_size : (Tryd.prog.info? 32).map (·.size) = some 5 := by kernel_rfl
/-- An opening's block, as it lies. -/
def SQ (w : World) (g : Nat) (o : OV) : Prop := w.heap[g]? = some (.cells o.cells.toArray 32 (0, 0))
theorem SQ.lt {w : World} {g : Nat} {o : OV} (h : SQ w g o) : g < w.heap.size := (Array.getElem?_eq_some_iff.1 h).1
theorem SQ.ob {w : World} {g : Nat} {o : OV} (h : SQ w g o) : OB w g o := OB.of h
theorem SQ.fz {w : World} {g : Nat} {o : OV} (h : SQ w g o) (j : Nat) : w.frozen? ⟨g, j, none⟩ = false := frozen_of_row w g j _ _ h
theorem SQ.step {w w' : World} {g : Nat} {o : OV} (h : SQ w g o) (hb : Below w.heap.size w w') : SQ w' g o := (hb.block g h.lt).trans h
theorem SQ.past {w w' : World} {g k : Nat} {o : OV} (h : SQ w g o) (hg : w.grownBy w' (some k)) (hne : g ≠ k) : SQ w' g o := (hg.block g h.lt (by simpa using hne)).trans h
theorem SQ.else_ {w : World} {g k j : Nat} {o : OV} (h : SQ w g o) (hne : g ≠ k) (v : Value) : SQ (w.setCell ⟨k, j, none⟩ v) g o := (heap_setCell_other w ⟨k, j, none⟩ g v hne).trans h
theorem SQ.laid (w : World) (o : OV) : SQ (w.alloc (.cells o.cells.toArray 32)) w.heap.size o := heap_alloc_new w _
theorem SQ.put0 {w : World} {g : Nat} {o : OV} (h : SQ w g o) (x : Int) : SQ (w.setCell ⟨g, 0, none⟩ (.int .u8 x)) g { o with k := x } := heap_setCell_same w g 0 _ _ _ h
theorem SQ.put1 {w : World} {g : Nat} {o : OV} (h : SQ w g o) (x : Int) : SQ (w.setCell ⟨g, 1, none⟩ (.int .u16 x)) g { o with p := x } := heap_setCell_same w g 1 _ _ _ h
theorem SQ.put2 {w : World} {g : Nat} {o : OV} (h : SQ w g o) (x : Int) : SQ (w.setCell ⟨g, 2, none⟩ (.int .u32 x)) g { o with l := x } := heap_setCell_same w g 2 _ _ _ h
theorem SQ.put3 {w : World} {g : Nat} {o : OV} (h : SQ w g o) (x : ByteArray) : SQ (w.setCell ⟨g, 3, none⟩ (.string x)) g { o with la := x } := heap_setCell_same w g 3 _ _ _ h
theorem SQ.put4 {w : World} {g : Nat} {o : OV} (h : SQ w g o) (x : ByteArray) : SQ (w.setCell ⟨g, 4, none⟩ (.string x)) g { o with pr := x } := heap_setCell_same w g 4 _ _ _ h
/-- An opening is laid over another one. -/
theorem SQ.laid5 {w : World} {g : Nat} {u : OV} (h : SQ w g u) (o : OV) : SQ (((((w.setCell ⟨g, 0, none⟩ (.int .u8 o.k)).setCell ⟨g, 1, none⟩ (.int .u16 o.p)).setCell ⟨g, 2, none⟩ (.int .u32 o.l)).setCell ⟨g, 3, none⟩ (.string o.la)).setCell ⟨g, 4, none⟩ (.string o.pr)) g o :=
  ((((h.put0 o.k).put1 o.p).put2 o.l).put3 o.la).put4 o.pr
theorem ret_rq1 {fn : Func} {p u : Tmp} (hr : fn.results = #[.cell p 32, .tmp u]) (tmps : Array Value) (w : World) (g : Nat) (o : OV) (hp : tmps.getD p undef = .pointer (some ⟨g, 0, none⟩)) (h : SQ w g o) :
    (results fn tmps).run Tryd.prog w = .ok (.tuple #[.agg o.cells.toArray, tmps.getD u undef]) w := by
  rw [results_cell_tmp hr, hp]
  have := run_loadVar_row w g _ 32 o.cells.toArray (0, 0) _ h Tryd.underlying32 rfl Rq_size
  simp [asAddr, this]
set_option maxHeartbeats 4000000 in
theorem decodeR_early (A : Option Addr) (n c : Nat) (bs : List UInt8) (w : World) (hb : BS w A n c bs) (hn : n ≤ 100000) (h : (bs ≠ [] ∧ bs.headD 0 ≠ 3) ∨ bs.length < 12) :
    Calls Tryd.prog 17 #[.slice A n c] w (DecP bs w) := by
  have l1 := keep (below_lay w (.cells oZ.cells.toArray 32))
  have R1 := keep (SQ.laid w oZ)
  have hl := hb.len
  by_cases h0 : bs = []
  · subst h0
    obtain rfl : n = 0 := hl
    have hE : decE [] = 2 := rfl
    go_enter Tryd.func17, Tryd.ntmps17
    go_wp2_with fail
    refine bodyPost_ret (ret_rq1 rfl _ _ w.heap.size oZ rfl ?_) rfl (decP_bad hE (by decide) rfl ?_)
    · exact R1.out
    · exact l1.out
  · obtain ⟨b, o, rfl, hlt, hc0⟩ := hb.br.at_ (j := 0) (List.length_pos_iff.2 h0)
    have hn0 : (0 : Int) < (n : Int) := by have := List.length_pos_iff.2 h0; omega
    obtain ⟨x, r, rfl⟩ : ∃ x r, bs = x :: r := by cases bs with
      | nil => exact absurd rfl h0
      | cons x r => exact ⟨x, r, rfl⟩
    have hc1 : (w.alloc (.cells oZ.cells.toArray 32)).cell? ⟨b, o, none⟩ = some (.int .u8 (x.toNat : Int)) := by
      have := (l1.out.cell (p := ⟨b, o + 0, none⟩) hlt).trans hc0
      simpa [bc] using this
    have hl2 : n = r.length + 1 := by simpa using hl
    by_cases hx : x = 3
    · subst hx
      have hE : decE (3 :: r) = 2 := by
        refine decE_short (by simp) ?_
        rcases h with ⟨_, h⟩ | h
        · exact absurd rfl h
        · exact h
      have hlt12 : (n : Int) < 12 := by
        rcases h with ⟨_, h⟩ | h
        · exact absurd rfl h
        · have h' : (3 :: r).length < 12 := h
          rw [List.length_cons] at h'
          omega
      have hc2 : (w.alloc (.cells oZ.cells.toArray 32)).cell? ⟨b, o, none⟩ = some (.int .u8 3) := hc1
      dsimp only [oZ, OV.cells] at hc2
      clear hc0 hc1 hb h hl hl2
      go_enter Tryd.func17, Tryd.ntmps17
      go_wp2_with fail
      refine bodyPost_ret (ret_rq1 rfl _ _ w.heap.size oZ rfl ?_) rfl (decP_bad hE (by decide) rfl ?_)
      · exact R1.out
      · exact l1.out
    · have hE : decE (x :: r) = 3 := decE_form (by simp) (by simpa using hx)
      have hx3 : ((x.toNat : Int) == 3) = false := by
        have := u8_beq x 3 (by decide)
        rw [show ((3 : Nat) : Int) = 3 from rfl] at this
        rw [this]
        simpa using hx
      have hx4 : ((x.toNat : Int) != 3) = true := by rw [bne, hx3]; rfl
      dsimp only [oZ, OV.cells] at hc1
      clear hc0 hb h hl hl2
      go_enter Tryd.func17, Tryd.ntmps17
      go_wp2_with fail
      refine bodyPost_ret (ret_rq1 rfl _ _ w.heap.size oZ rfl ?_) rfl (decP_bad hE (by decide) rfl ?_)
      · exact R1.out
      · exact l1.out
end Go.Proofs.YtapaiknghnbfmaaDoor
