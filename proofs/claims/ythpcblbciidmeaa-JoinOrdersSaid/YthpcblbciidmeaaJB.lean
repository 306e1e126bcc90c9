/- A join's stream; how much it holds; what waits is ready, as long as it is next. -/
import Derived.Test.YthpcblbciidmeaaJA
namespace Go.Proofs.Ythpcblbciidmeaa
open Go.RowKit Go.Maps
set_option linter.unusedVariables false

section
variable {w w' : World} {G : Gh} {j : Jn} {o : Int}
theorem JA.c0 (h : JA w G j o) : w.cell? ⟨G.b, 0, none⟩ = some (.map (some G.k)) := by rw [cell_of_row _ _ _ _ _ _ h.blk]; rfl
theorem JA.c1 (h : JA w G j o) : w.cell? ⟨G.b, 1, none⟩ = some (.slice (some ⟨G.sb, 0, none⟩) G.n G.n) := by rw [cell_of_row _ _ _ _ _ _ h.blk]; rfl
theorem JA.c2 (h : JA w G j o) : w.cell? ⟨G.b, 2, none⟩ = some G.v := by rw [cell_of_row _ _ _ _ _ _ h.blk]; rfl
theorem JA.c3 (h : JA w G j o) : w.cell? ⟨G.b, 3, none⟩ = some (.int .i64 o) := by rw [cell_of_row _ _ _ _ _ _ h.blk]; rfl
theorem JA.fz (h : JA w G j o) (i : Nat) : w.frozen? ⟨G.b, i, none⟩ = false := by simp [World.frozen?, h.blk]
theorem JA.s0 (h : JA w G j o) {s : Nat} (hs : s < G.n) : w.cell? ⟨G.sb, s * 2, none⟩ = some (.map (some (G.wm s))) := by
  obtain ⟨cs, hc, hcs⟩ := h.sa.row
  rw [cell_of_row _ _ _ _ _ _ hc]
  exact (hcs s hs).1
theorem JA.s1 (h : JA w G j o) {s : Nat} (hs : s < G.n) : w.cell? ⟨G.sb, s * 2 + 1, none⟩ = some (.int .u16 (j.nx s)) := by
  obtain ⟨cs, hc, hcs⟩ := h.sa.row
  rw [cell_of_row _ _ _ _ _ _ hc]
  exact (hcs s hs).2
theorem JA.sfz (h : JA w G j o) (i : Nat) : w.frozen? ⟨G.sb, i, none⟩ = false := by
  obtain ⟨cs, hc, hcs⟩ := h.sa.row
  simp [World.frozen?, hc]
theorem wrap_small {x : Int} (h0 : 0 ≤ x) (h1 : x < 9223372036854775808) : IntKind.i64.wrap x = x := by
  simp [IntKind.wrap, IntKind.signed, IntKind.bits]
  omega
/-! ### find -/
theorem find_ok (h : JA w G j o) (hn64 : G.n ≤ 64) {s : Nat} (hs : s < G.n) :
    Calls Try.prog 24 #[.pointer (some ⟨G.b, 0, none⟩), .int .u16 (s : Int)] w fun e w' => e = .returned (.pointer (some ⟨G.sb, s * 2, none⟩)) ∧ w = w' := by
  have c1 := h.c1
  have hlt : ¬ (G.n : Int) ≤ (s : Int) := by omega
  have hw := wrap_small (x := (s : Int)) (by omega) (by omega)
  clear h
  obtain ⟨b, k, sb, n, v, pb, pc, far, wm, gs, rs, O, F⟩ := G
  dsimp only at *
  go_enter Try.func24, Try.ntmps24
  go_wp2
  go_ret
  exact ⟨rfl, rfl⟩
theorem find_no (h : JA w G j o) (hn64 : G.n ≤ 64) {x : Int} (hx0 : 0 ≤ x) (hx1 : x < 65536) (hs : ¬ x < G.n) :
    Calls Try.prog 24 #[.pointer (some ⟨G.b, 0, none⟩), .int .u16 x] w fun e w' => e = .returned (.pointer none) ∧ w = w' := by
  have c1 := h.c1
  have hlt : (G.n : Int) ≤ x := by omega
  have hw := wrap_small (x := x) (by omega) (by omega)
  clear h
  obtain ⟨b, k, sb, n, v, pb, pc, far, wm, gs, rs, O, F⟩ := G
  dsimp only at *
  go_enter Try.func24, Try.ntmps24
  go_wp2
  go_ret
  exact ⟨rfl, rfl⟩
end
theorem find_nil (x : Int) (w : World) : Calls Try.prog 24 #[.pointer none, .int .u16 x] w fun e w' => e = .returned (.pointer none) ∧ w = w' := by
  go_enter Try.func24, Try.ntmps24
  go_wp2
  go_ret
  exact ⟨rfl, rfl⟩
theorem Held_nil (w : World) : Calls Try.prog 14 #[.pointer none] w fun e w' => e = .returned (.int .i64 0) ∧ w = w' := by
  go_enter Try.func14, Try.ntmps14
  go_wp2
  go_ret
  exact ⟨rfl, rfl⟩
theorem Take_nil (w : World) : Calls Try.prog 13 #[.pointer none] w fun e w' => e = .returned (.slice none 0 0) ∧ w = w' := by
  go_enter Try.func13, Try.ntmps13
  go_wp2
  go_ret
  exact ⟨rfl, rfl⟩
theorem Held_any {w : World} {G : Gh} {j : Jn} {o : Int} (h : JA w G j o) : Calls Try.prog 14 #[.pointer (some ⟨G.b, 0, none⟩)] w fun e w' => e = .returned (.int .i64 o) ∧ w = w' := by
  have c3 := h.c3
  clear h
  go_enter Try.func14, Try.ntmps14
  go_wp2
  go_ret
  exact ⟨rfl, rfl⟩
/-! ### release -/
theorem zero_msg (w : World) : (zeroValue 44).run Try.prog w = .ok (.agg MX.zero.cells.toArray) w := by kernel_rfl
theorem msg_info : (Try.prog.info? 44).map (fun i => (i.zero, i.size, i.bytes)) = some (some (.agg #[.int .u16 0, .bool false, .int .u32 0, .slice none 0 0]), 4, 32) := by kernel_rfl
theorem wgV_at (G : Gh) (s : Nat) (k : Int) : wgV (G.gs s) k = (G.gs s k).map fun x => .agg x.cells.toArray := rfl
theorem same_set {w W : World} {g : Nat} {a : Addr} {v : Value} (h : W.heap[g]? = w.heap[g]?) (hne : g ≠ a.block) : (W.setCell a v).heap[g]? = w.heap[g]? := (heap_setCell_other W a g v hne).trans h
theorem same_lay {w W : World} {g : Nat} {o : Obj} (h : W.heap[g]? = w.heap[g]?) (hlt : g < W.heap.size) : (W.alloc o).heap[g]? = w.heap[g]? := ((below_lay W o).block g hlt).trans h
/-- What the block of a stream says, and its map. -/
theorem rel_look {w : World} {G : Gh} {j : Jn} {o : Int} (h : JA w G j o) (hw : Wf j) {s : Nat} (hs : s < G.n) (W : World) (h1 : W.heap[G.sb]? = w.heap[G.sb]?) (h2 : W.heap[G.wm s]? = w.heap[G.wm s]?) :
    W.cell? ⟨G.sb, s * 2, none⟩ = some (.map (some (G.wm s))) ∧ W.cell? ⟨G.sb, s * 2 + 1, none⟩ = some (.int .u16 (j.nx s)) ∧
      (Instr.lookup 64 (.map (some (G.wm s))) (.int .u16 (j.nx s)) true).run Try.prog W = .ok (.tuple #[(wgV (G.gs s) (j.nx s)).getD (.agg MX.zero.cells.toArray), .bool (wgV (G.gs s) (j.nx s)).isSome]) W :=
  ⟨(World.cell?_of_block (a := ⟨G.sb, s * 2, none⟩) h1).trans (h.s0 hs), (World.cell?_of_block (a := ⟨G.sb, s * 2 + 1, none⟩) h1).trans (h.s1 hs), ((h.sa.maps s hs).same h2).look_ok Try.underlying27 Try.underlying64 (zero_msg _) (wf16 (hw.nx s).1 (hw.nx s).2)⟩
set_option maxHeartbeats 2000000 in
theorem release_none {w : World} {G : Gh} {j : Jn} {o : Int} (h : JA w G j o) (hw : Wf j) {s : Nat} (hs : s < G.n) (hno : hasS j.st s (j.nx s) = none) :
    Calls Try.prog 35 #[.pointer (some ⟨G.b, 0, none⟩), .pointer (some ⟨G.sb, s * 2, none⟩)] w fun e w' => e = .returned (.bool false) ∧ Below w.heap.size w w' := by
  have hlt := h.olt _ h.sa.osb
  have hltm := h.olt _ (h.sa.ow s hs)
  have hg : wgV (G.gs s) (j.nx s) = none := by
    have := h.sa.msg s hs (j.nx s)
    rw [hno] at this
    rw [wgV_at]
    cases hg : G.gs s (j.nx s) with
    | none => rfl
    | some x => rw [hg] at this; cases this
  have HR := rel_look h hw hs
  rw [hg] at HR
  dsimp only [Option.getD, Option.isSome, MX.zero, MX.cells] at HR
  obtain ⟨s0, s1, s2⟩ := HR w rfl rfl
  replace HR := keep HR
  clear h hno hg hw hs
  obtain ⟨b, k, sb, n, v, pb, pc, far, wm, gs, rs, O, F⟩ := G
  dsimp only at *
  generalize j.nx s = nx at *
  have hne : sb ≠ w.heap.size := by omega
  have hnm : wm s ≠ w.heap.size := by omega
  generalize wm s = wms at *
  go_enter Try.func35, Try.ntmps35
  go_wp2
  go_region_held3 (fun w' => w'.cell? ⟨sb, s * 2, none⟩ = some (.map (some wms)) ∧ w'.cell? ⟨sb, s * 2 + 1, none⟩ = some (.int .u16 nx) ∧ (Instr.lookup 64 (.map (some wms)) (.int .u16 nx) true).run Try.prog w' = .ok (.tuple #[.agg #[.int .u16 0, .bool false, .int .u32 0, .slice none 0 0], .bool false]) w')
    (first | exact HR.out _ rfl rfl | exact HR.out _ (same_lay rfl hlt) (same_lay rfl hltm) | exact HR.out _ (same_set (same_lay rfl hlt) hne) (same_set (same_lay rfl hltm) hnm))
    (first | fail)
  all_goals go_wp2
  all_goals (go_ret; exact ⟨rfl, by first | exact (below_lay w _).drew | exact (below_lay w _).drew.setCell (Nat.le_refl _) _ | exact ((below_lay w _).setCell (Nat.le_refl _) _).drew | exact (below_lay w _).setCell (Nat.le_refl _) _⟩)
end Go.Proofs.Ythpcblbciidmeaa
