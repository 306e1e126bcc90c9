/- The walk of the law SipRounds. -/
import Derived.Test.YtjfkiiohmjdceaaSipWk
import Derived.OpenShut
namespace Go.Proofs.Ytjfkiiohmjdceaa
open Go.RowKit
set_option linter.unusedVariables false

theorem of_u64 {a : Int} (h : (Lit.int .u64 a).wf = true) : ∃ x : BitVec 64, a = (x.toNat : Int) := by
  obtain ⟨h0, h1⟩ := bounds_u64 h
  refine ⟨BitVec.ofNat 64 a.toNat, ?_⟩
  rw [BitVec.toNat_ofNat, Nat.mod_eq_of_lt (by omega)]
  omega
theorem refRound_at (a b c d : BitVec 64) (u : V4) (h : Hid (rnd ⟨a, b, c, d⟩ = u)) (w : World) :
    Calls Try.prog 42 #[.int .u64 (a.toNat : Int), .int .u64 (b.toNat : Int), .int .u64 (c.toNat : Int), .int .u64 (d.toNat : Int)] w fun e w' => e = .returned (.tuple #[.int .u64 (u.a.toNat : Int), .int .u64 (u.b.toNat : Int), .int .u64 (u.c.toNat : Int), .int .u64 (u.d.toNat : Int)]) ∧ w = w' := by
  have := refRound_any a b c d w
  rw [h.out] at this
  exact this
theorem Round_at (a b c d : BitVec 64) (u : V4) (h : Hid (rnd ⟨a, b, c, d⟩ = u)) (w : World) :
    Calls Try.prog 48 #[.agg #[.int .u64 (a.toNat : Int), .int .u64 (b.toNat : Int), .int .u64 (c.toNat : Int), .int .u64 (d.toNat : Int)]] w fun e w' => e = .returned (.agg #[.int .u64 (u.a.toNat : Int), .int .u64 (u.b.toNat : Int), .int .u64 (u.c.toNat : Int), .int .u64 (u.d.toNat : Int)]) ∧ Below w.heap.size w w' :=
  Round_any ⟨a, b, c, d⟩ u h w

end Go.Proofs.Ytjfkiiohmjdceaa
