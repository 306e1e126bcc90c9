/- Ack: an answer that is none; what lies where while an answer is taken in. -/
import Derived.Test.YtbkepkiaabeliaaQ25
import Derived.Laws.ResultCell
namespace Go.Proofs.Ytbkepkiaabeliaa
open Go.RowKit Go.Maps
set_option linter.unusedVariables false

theorem res_size : (Try.prog.info? 54).map (·.size) = some 4 := by kernel_rfl
/-- A block with a result. -/
def RsB (W : World) (g : Nat) (b sa : Int) (lo mo : Bool) : Prop := W.heap[g]? = some (.cells #[.int .i64 b, .int .i64 sa, .bool lo, .bool mo] 54 (0, 0))
theorem ret_res {fn : Func} {p u : Tmp} (hr : fn.results = #[.cell p 54, .tmp u]) (tmps : Array Value) (w : World) (g : Nat) (b sa : Int) (lo mo : Bool) (hp : tmps.getD p undef = .pointer (some ⟨g, 0, none⟩)) (h : RsB w g b sa lo mo) :
    (results fn tmps).run Try.prog w = .ok (.tuple #[.agg #[.int .i64 b, .int .i64 sa, .bool lo, .bool mo], tmps.getD u undef]) w := by
  rw [results_cell_tmp hr, hp]
  have := run_loadVar_row w g _ 54 #[.int .i64 b, .int .i64 sa, .bool lo, .bool mo] (0, 0) _ h Try.underlying54 rfl res_size
  simp [asAddr, this]
theorem RsB.step {W W' : World} {g : Nat} {b sa : Int} {lo mo : Bool} (h : RsB W g b sa lo mo) (hb : Below W.heap.size W W') : RsB W' g b sa lo mo := (hb.block _ (Array.getElem?_eq_some_iff.1 h).1).trans h
theorem RsB.cells {W : World} {g : Nat} {b sa : Int} {lo mo : Bool} (h : RsB W g b sa lo mo) : W.cell? ⟨g, 0, none⟩ = some (.int .i64 b) ∧ W.cell? ⟨g, 1, none⟩ = some (.int .i64 sa) ∧ W.cell? ⟨g, 2, none⟩ = some (.bool lo) ∧ W.cell? ⟨g, 3, none⟩ = some (.bool mo) :=
  ⟨upd_cell h 0 _ rfl, upd_cell h 1 _ rfl, upd_cell h 2 _ rfl, upd_cell h 3 _ rfl⟩
def ackOut (r : AckR) (ok : Bool) : Value := .tuple #[.agg #[.int .i64 (r.by_ : Int), .int .i64 r.sa, .bool r.lo, .bool r.mo], .bool ok]
def ackNone : Value := .tuple #[.agg #[.int .i64 0, .int .i64 0, .bool false, .bool false], .bool false]
theorem RsB.fzs {W : World} {g : Nat} {b sa : Int} {lo mo : Bool} (h : RsB W g b sa lo mo) : W.frozen? ⟨g, 0, none⟩ = false ∧ W.frozen? ⟨g, 1, none⟩ = false ∧ W.frozen? ⟨g, 2, none⟩ = false ∧ W.frozen? ⟨g, 3, none⟩ = false := ⟨upd_fz h 0, upd_fz h 1, upd_fz h 2, upd_fz h 3⟩
theorem res4_at {W : World} {g : Nat} {b0 s0 : Int} {l0 m0 : Bool} (h : RsB W g b0 s0 l0 m0) (b sa : Int) (lo mo : Bool) : RsB ((((W.setCell ⟨g, 0, none⟩ (.int .i64 b)).setCell ⟨g, 1, none⟩ (.int .i64 sa)).setCell ⟨g, 2, none⟩ (.bool lo)).setCell ⟨g, 3, none⟩ (.bool mo)) g b sa lo mo :=
  heap_setCell_same _ g 3 _ _ _ (heap_setCell_same _ g 2 _ _ _ (heap_setCell_same _ g 1 _ _ _ (heap_setCell_same W g 0 _ _ _ h)))
theorem below4 {a W : World} {N g : Nat} (h : Below N a W) (hg : N ≤ g) (v0 v1 v2 v3 : Value) : Below N a ((((W.setCell ⟨g, 0, none⟩ v0).setCell ⟨g, 1, none⟩ v1).setCell ⟨g, 2, none⟩ v2).setCell ⟨g, 3, none⟩ v3) :=
  (((h.setCell hg _).setCell hg _).setCell hg _).setCell hg _
theorem Ack_nil (cum now : Int) (s : SL) (w : World) : Calls Try.prog 23 #[.pointer none, .int .u32 cum, .slice s.1 s.2.1 s.2.2, .int .i64 now] w fun e w' => e = .returned ackNone ∧ Below w.heap.size w w' := by
  have hb := keep (up (below_lay w (.cells #[.int .i64 now] 3)) (below_lay _ (.cells #[.int .i64 0, .int .i64 0, .bool false, .bool false] 54)))
  have hr := keep (show RsB ((w.alloc (.cells #[.int .i64 now] 3)).alloc (.cells #[.int .i64 0, .int .i64 0, .bool false, .bool false] 54)) (w.heap.size + 1) 0 0 false false from heap_new_at (by simp))
  obtain ⟨s1, s2, s3⟩ := s
  go_enter Try.func23, Try.ntmps23
  go_wp2_with (go_at_call 52; refine (reached_nil _ _).mono ?_; rintro e w' ⟨rfl, rfl⟩)
  exact bodyPost_ret (ret_res rfl _ _ (w.heap.size + 1) 0 0 false false rfl hr.out) rfl ⟨rfl, hb.out⟩
theorem Ack_no {w : World} {G : Gq} {q : Qm} (h : QA w G q) (cum now : Int) (s : SL) (hno : reachedB q cum = false) : Calls Try.prog 23 #[.pointer (some ⟨G.b, 0, none⟩), .int .u32 cum, .slice s.1 s.2.1 s.2.2, .int .i64 now] w fun e w' => e = .returned ackNone ∧ Below w.heap.size w w' := by
  have hb := keep (up (below_lay w (.cells #[.int .i64 now] 3)) (below_lay _ (.cells #[.int .i64 0, .int .i64 0, .bool false, .bool false] 54)))
  have hr := keep (show RsB ((w.alloc (.cells #[.int .i64 now] 3)).alloc (.cells #[.int .i64 0, .int .i64 0, .bool false, .bool false] 54)) (w.heap.size + 1) 0 0 false false from heap_new_at (by simp))
  have K := reached_any (h.step hb.out) cum
  rw [hno] at K
  replace K := keep K
  clear h hno
  obtain ⟨s1, s2, s3⟩ := s
  go_enter Try.func23, Try.ntmps23
  go_wp2_with (go_at_call 52; refine K.out.mono ?_; rintro e w' ⟨rfl, hbw⟩; replace hbw := keep hbw; obtain ⟨z0, z1, z2, z3⟩ := (hr.out.step hbw.out).cells; obtain ⟨f0, f1, f2, f3⟩ := (hr.out.step hbw.out).fzs)
  exact bodyPost_ret (ret_res rfl _ _ (w.heap.size + 1) 0 0 false false rfl (res4_at (hr.out.step hbw.out) 0 0 false false)) rfl ⟨rfl, below4 (hb.out.trans (hbw.out.mono hb.out.size)) (Nat.le_succ _) _ _ _ _⟩
end Go.Proofs.Ytbkepkiaabeliaa
