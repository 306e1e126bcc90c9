/- The walk of the law SipRounds. -/
import Derived.Test.YtacjbfmmjcfomaaSipWk
import Derived.OpenShut
namespace Go.Proofs.Ytacjbfmmjcfomaa
open Go.RowKit
set_option linter.unusedVariables false

theorem of_u64 {a : Int} (h : (Lit.int .u64 a).wf = true) : ∃ x : BitVec 64, a = (x.toNat : Int) := by
  obtain ⟨h0, h1⟩ := bounds_u64 h
  refine ⟨BitVec.ofNat 64 a.toNat, ?_⟩
  rw [BitVec.toNat_ofNat, Nat.mod_eq_of_lt (by omega)]
  omega
theorem refRound_at (a b c d : BitVec 64) (u : V4) (h : Hid (rnd ⟨a, b, c, d⟩ = u)) (w : World) :
    Calls Try.prog 9 #[.int .u64 (a.toNat : Int), .int .u64 (b.toNat : Int), .int .u64 (c.toNat : Int), .int .u64 (d.toNat : Int)] w fun e w' => e = .returned (.tuple #[.int .u64 (u.a.toNat : Int), .int .u64 (u.b.toNat : Int), .int .u64 (u.c.toNat : Int), .int .u64 (u.d.toNat : Int)]) ∧ w = w' := by
  have := refRound_any a b c d w
  rw [h.out] at this
  exact this
theorem Round_at (a b c d : BitVec 64) (u : V4) (h : Hid (rnd ⟨a, b, c, d⟩ = u)) (w : World) :
    Calls Try.prog 8 #[.agg #[.int .u64 (a.toNat : Int), .int .u64 (b.toNat : Int), .int .u64 (c.toNat : Int), .int .u64 (d.toNat : Int)]] w fun e w' => e = .returned (.agg #[.int .u64 (u.a.toNat : Int), .int .u64 (u.b.toNat : Int), .int .u64 (u.c.toNat : Int), .int .u64 (u.d.toNat : Int)]) ∧ Below w.heap.size w w' :=
  Round_any ⟨a, b, c, d⟩ u h w

set_option maxRecDepth 100000 in
theorem sipRounds_walk (a b c d : Int) (w : World) (ha : (Lit.int .u64 a).wf = true) (hb : (Lit.int .u64 b).wf = true) (hc : (Lit.int .u64 c).wf = true) (hd : (Lit.int .u64 d).wf = true) :
    Calls Try.prog 3 #[.int .u64 a, .int .u64 b, .int .u64 c, .int .u64 d] w fun e w' => e = .returned (.bool true) ∧ Below w.heap.size w w' := by
  obtain ⟨a, rfl⟩ := of_u64 ha
  obtain ⟨b, rfl⟩ := of_u64 hb
  obtain ⟨c, rfl⟩ := of_u64 hc
  obtain ⟨d, rfl⟩ := of_u64 hd
  clear ha hb hc hd
  obtain ⟨u, hu⟩ : ∃ u, rnd ⟨a, b, c, d⟩ = u := ⟨_, rfl⟩
  have HU := keep hu
  clear hu
  go_enter Try.func3, Try.ntmps3
  go_wp2_with (first
    | (go_at_call 7; refine (awake_any _).mono ?_; rintro e w1 ⟨rfl, hb1⟩; replace hb1 := keep hb1)
    | (go_at_call 8; refine (Round_at a b c d u HU _).mono ?_; rintro e w2 ⟨rfl, hb2⟩; have hb3 := keep (hb1.out.trans (hb2.mono hb1.out.size)); clear hb1 hb2)
    | (go_at_call 9; refine (refRound_at a b c d u HU _).mono ?_; rintro e w4 ⟨rfl, rfl⟩))
  go_ret
  exact ⟨rfl, hb3.out.alloc hb3.out.size _⟩
end Go.Proofs.Ytacjbfmmjcfomaa
