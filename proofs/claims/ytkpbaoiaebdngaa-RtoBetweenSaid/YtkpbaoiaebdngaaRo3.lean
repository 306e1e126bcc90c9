/- Package rto: reckon. -/
import Derived.Test.YtkpbaoiaebdngaaRo2
namespace Go.Proofs.Ytkpbaoiaebdngaa
open Go.RowKit
set_option linter.unusedVariables false

def rsm (s : RS) (r : Int) : Int := if s.kn = true then (7 * s.sm + r) / 8 else r
def rva (s : RS) (r : Int) : Int := if s.kn = true then (3 * s.va + max (s.sm - r) (r - s.sm)) / 4 else r / 2
structure Fit (s : RS) (r : Int) : Prop where
  r0 : 0 ≤ r
  r1 : r ≤ 1073741824
  s0 : 0 ≤ s.sm
  s1 : s.sm ≤ 2147483648
  v0 : 0 ≤ s.va
  v1 : s.va ≤ 2147483648
  w0 : 0 ≤ s.wa
  w1 : s.wa ≤ 2147483648

theorem below_drewN {B : Nat} {a w : World} (h : Below B a w) (k : Nat) : Below B a (w.drewN k) := ⟨h.os, h.tape, h.output, h.size, h.block⟩
theorem ret_two {k : IntKind} {a b c d : Int} (h : a = b) (h' : c = d) : Ending.returned (.tuple #[.int k a, .int k c]) = .returned (.tuple #[.int k b, .int k d]) := by rw [h, h']
theorem reckon_new (s : RS) (r : Int) (h0 : 0 ≤ r) (h1 : r ≤ 1073741824) (hk : s.kn = false) (w : World) :
    Calls Try.prog 16 #[.agg s.cells, .int .i64 r] w fun e w' => e = .returned (.tuple #[.int .i64 (rsm s r), .int .i64 (rva s r)]) ∧ Below w.heap.size w w' := by
  have l1 := below_lay w (.cells s.cells 23)
  have e1 : rsm s r = r := by unfold rsm; rw [hk]; rfl
  have e2 : rva s r = r.tdiv 2 := by unfold rva; rw [hk, Int.tdiv_eq_ediv_of_nonneg h0]; rfl
  have a1 : wrap64 (r.tdiv 2) = r.tdiv 2 := (wrap_in _ (by rw [Int.tdiv_eq_ediv_of_nonneg h0]; omega)).2
  obtain ⟨sm, va, wa, kn⟩ := s
  dsimp only at hk
  subst hk
  rw [e1, e2]
  clear e1 e2
  replace l1 := keep l1
  clear h0 h1
  dsimp only [RS.cells] at l1 ⊢
  go_enter Try.func16, Try.ntmps16
  go_wp2_with fail
  go_ret2
  exact ⟨ret_two rfl a1, l1.out⟩

set_option maxHeartbeats 1000000 in
theorem reckon_old (s : RS) (r : Int) (hf : Fit s r) (hk : s.kn = true) (w : World) :
    Calls Try.prog 16 #[.agg s.cells, .int .i64 r] w fun e w' => e = .returned (.tuple #[.int .i64 (rsm s r), .int .i64 (rva s r)]) ∧ Below w.heap.size w w' := by
  have l1 := below_lay w (.cells s.cells 23)
  have e1 : rsm s r = (7 * s.sm + r) / 8 := by unfold rsm; rw [hk]; rfl
  have e2 : rva s r = (3 * s.va + max (s.sm - r) (r - s.sm)) / 4 := by unfold rva; rw [hk]; rfl
  obtain ⟨sm, va, wa, kn⟩ := s
  obtain ⟨r0, r1, s0, s1, v0, v1, w0, w1⟩ := hf
  dsimp only at hk r0 r1 s0 s1 v0 v1 w0 w1 e1 e2
  subst hk
  have a1 := (wrap_in (7 * sm) (by omega)).1
  have a2 := (wrap_in (7 * sm + r) (by omega)).1
  have a3 := (wrap_in (3 * va) (by omega)).1
  have a4 := (wrap_in (sm - r) (by omega)).1
  have a5 := (wrap_in (r - sm) (by omega)).1
  obtain ⟨d, hd⟩ : ∃ d, max (sm - r) (r - sm) = d := ⟨_, rfl⟩
  have hd0 : 0 ≤ d ∧ d ≤ 2147483648 := by omega
  rw [hd] at e2
  have a6 := (wrap_in (3 * va + d) (by omega)).1
  have a7 : (7 * sm + r).tdiv 8 = (7 * sm + r) / 8 := Int.tdiv_eq_ediv_of_nonneg (by omega)
  have a8 : (3 * va + d).tdiv 4 = (3 * va + d) / 4 := Int.tdiv_eq_ediv_of_nonneg (by omega)
  have a9 : (if sm - r < r - sm then r - sm else sm - r) = d := by omega
  have b1 := (wrap_in ((7 * sm + r).tdiv 8) (by rw [a7]; omega)).2
  have b2 := (wrap_in ((3 * va + d).tdiv 4) (by rw [a8]; omega)).2
  rw [← a7] at e1
  rw [← a8] at e2
  clear r0 r1 s0 s1 v0 v1 w0 w1 hd hd0 a7 a8
  replace l1 := keep l1
  replace e1 := keep e1
  replace e2 := keep e2
  dsimp only [RS.cells] at l1 ⊢
  go_enter Try.func16, Try.ntmps16
  go_wp2_with fail
  all_goals go_quiet (fail)
  all_goals (try go_wp2_with fail)
  go_ret2
  exact ⟨ret_two (b1.trans e1.out.symm) (b2.trans e2.out.symm), below_drewN l1.out _⟩

theorem reckon_any (s : RS) (r : Int) (hf : Fit s r) (w : World) :
    Calls Try.prog 16 #[.agg s.cells, .int .i64 r] w fun e w' => e = .returned (.tuple #[.int .i64 (rsm s r), .int .i64 (rva s r)]) ∧ Below w.heap.size w w' := by
  rcases h : s.kn with _ | _
  · exact reckon_new s r hf.r0 hf.r1 h w
  · exact reckon_old s r hf h w
def okR (s : RS) (r : Int) : Bool := inB 1073741824 r && inB 2147483648 s.sm && inB 2147483648 s.va && inB 2147483648 s.wa
def morI (v : Int) : Int := max (4 * v) 1
def RS.samp (s : RS) (r : Int) : RS := if okR s r = true then ⟨rsm s r, rva s r, clampI (rsm s r + morI (rva s r)), true⟩ else s
theorem Fit.of {s : RS} {r : Int} (h : okR s r = true) : Fit s r := by
  simp only [okR, Bool.and_eq_true, inB_iff] at h
  obtain ⟨⟨⟨a, b⟩, c⟩, d⟩ := h
  exact ⟨a.1, a.2, b.1, b.2, c.1, c.2, d.1, d.2⟩
theorem Fit.sm {s : RS} {r : Int} (h : Fit s r) : 0 ≤ rsm s r ∧ rsm s r ≤ 2147483648 := by
  obtain ⟨r0, r1, s0, s1, v0, v1, w0, w1⟩ := h
  unfold rsm
  split <;> omega
theorem Fit.va {s : RS} {r : Int} (h : Fit s r) : 0 ≤ rva s r ∧ rva s r ≤ 2147483648 := by
  obtain ⟨r0, r1, s0, s1, v0, v1, w0, w1⟩ := h
  unfold rva
  split <;> omega
end Go.Proofs.Ytkpbaoiaebdngaa
