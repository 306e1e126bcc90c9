/- The library's sort at numbers of 16 bits: the drawn places: xorshift's next number, a power of two. -/
import Derived.Test.YtofebpikihandaaSo2
import Derived.Sort.LotD1
namespace Go.Proofs.Ytofebpikihandaa
open Go.RowKit Go.Sort
set_option linter.unusedVariables false

/-- The block s holds the drawn number. -/
def Xs (w : World) (s : Nat) : Prop := ∃ r : Int, (0 ≤ r ∧ r < 18446744073709551616) ∧ w.heap[s]? = some (.cells #[.int .u64 r] 74 (0, 0))
theorem Xs.drew {w : World} {s : Nat} (h : Xs w s) (q : Nat) : Xs (w.drewN q) s := h
theorem Xs.set {w : World} {s : Nat} (h : Xs w s) (v : Int) (h0 : 0 ≤ v) (h1 : v < 18446744073709551616) : Xs (w.setCell ⟨s, 0, none⟩ (.int .u64 v)) s := by
  obtain ⟨k, _, h⟩ := h
  refine ⟨v, ⟨h0, h1⟩, ?_⟩
  unfold World.setCell
  simp [Array.getElem?_modify, h]
theorem u64_in (x : Int) : 0 ≤ IntKind.u64.wrap x ∧ IntKind.u64.wrap x < 18446744073709551616 := by
  simp only [IntKind.wrap, IntKind.signed, IntKind.bits]
  constructor
  · simp; omega
  · simp; omega
theorem xor_in (a b : Int) : 0 ≤ bits .xor .u64 a b ∧ bits .xor .u64 a b < 18446744073709551616 := u64_in _

/-- The block s holds v, and no other block has turned since w. -/
structure Xq (w0 : World) (s : Nat) (v : Int) (w : World) : Prop where
  at_ : w.heap[s]? = some (.cells #[.int .u64 v] 74 (0, 0))
  part : Part (fun i => i = s) w0 w
theorem Xq.cell {w0 w : World} {s : Nat} {v : Int} (h : Xq w0 s v w) : w.cell? ⟨s, 0, none⟩ = some (.int .u64 v) := by rw [cell_of_row w s 0 _ _ _ h.at_]; rfl
theorem Xq.fz {w0 w : World} {s : Nat} {v : Int} (h : Xq w0 s v w) : w.frozen? ⟨s, 0, none⟩ = false := by simp [World.frozen?, h.at_]
theorem Xq.set {w0 w W : World} {s : Nat} {v u : Int} (h : Xq w0 s v w) (e : w.setCell ⟨s, 0, none⟩ (.int .u64 u) = W) : Xq w0 s u W := by
  subst e
  exact ⟨heap_setCell_same w s 0 _ _ _ h.at_, h.part.setCell (p := ⟨s, 0, none⟩) (.inl rfl) _⟩
theorem Xq.setd {w0 w W : World} {s : Nat} {v u : Int} (h : Xq w0 s v w) (e : w.drew.setCell ⟨s, 0, none⟩ (.int .u64 u) = W) : Xq w0 s u W := by
  subst e
  exact ⟨heap_setCell_same w.drew s 0 _ _ _ h.at_, (h.part.drew).setCell (p := ⟨s, 0, none⟩) (.inl rfl) _⟩

set_option maxHeartbeats 1000000 in
theorem Next_any {s : Nat} {w : World} (h : Xs w s) :
    Calls Try.prog 50 #[.pointer (some ⟨s, 0, none⟩)] w fun e w' => ∃ r : Int, e = .returned (.int .u64 r) ∧ (0 ≤ r ∧ r < 18446744073709551616) ∧ Xs w' s ∧ Part (fun i => i = s) w w' := by
  obtain ⟨k, _, hk⟩ := h
  have Q0 : Xq w s k w := ⟨hk, Part.refl _ _⟩
  have k3 := Q0.cell
  have f3 := Q0.fz
  replace Q0 := keep Q0
  clear hk
  go_enter Try.func50, Try.ntmps50
  go_wp2_with fail
  go_region
  go_wp2_with fail
  generalize bits BinOp.xor IntKind.u64 _ _ = x1
  generalize hW1 : World.setCell _ _ _ = W1
  have Q1 : Xq w s x1 W1 := by first | exact Q0.out.set hW1 | exact Q0.out.setd hW1
  have k4 := Q1.cell
  have f4 := Q1.fz
  replace Q1 := keep Q1
  clear hW1 k3 f3
  go_region
  go_wp2_with fail
  generalize bits BinOp.xor IntKind.u64 _ _ = x2
  generalize hW2 : World.setCell _ _ _ = W2
  have Q2 : Xq w s x2 W2 := by first | exact Q1.out.set hW2 | exact Q1.out.setd hW2
  have k5 := Q2.cell
  have f5 := Q2.fz
  replace Q2 := keep Q2
  clear hW2 k4 f4
  go_region
  go_wp2_with fail
  have hx := keep (xor_in x2 (IntKind.u64.wrap (x2 * 131072)))
  generalize bits BinOp.xor IntKind.u64 _ _ = x3 at hx ⊢
  generalize hW3 : World.setCell _ _ _ = W3
  have Q3 : Xq w s x3 W3 := by first | exact Q2.out.set hW3 | exact Q2.out.setd hW3
  have k6 := Q3.cell
  have f6 := Q3.fz
  replace Q3 := keep Q3
  clear hW3 k5 f5
  go_wp2_with fail
  go_ret
  exact ⟨x3, rfl, hx.out, ⟨x3, hx.out, Q3.out.at_⟩, Q3.out.part.drew.drew.drew⟩
end Go.Proofs.Ytofebpikihandaa
