/- The walk of the law SipUnturns. -/
import Derived.Test.YtacjbfmmjcfomaaSipWRounds
namespace Go.Proofs.Ytacjbfmmjcfomaa
open Go.RowKit
set_option linter.unusedVariables false

theorem rr_rl (x : BitVec 64) (k : Nat) (hk : k < 64) : (x.rotateLeft k) >>> k ||| (x.rotateLeft k) <<< (64 - k) = x := by
  apply BitVec.eq_of_getLsbD_eq
  intro i hi
  simp only [BitVec.getLsbD_or, BitVec.getLsbD_ushiftRight, BitVec.getLsbD_shiftLeft, BitVec.getLsbD_rotateLeft, Nat.mod_eq_of_lt hk]
  by_cases h : i < 64 - k
  · have h1 : ¬ k + i < k := by omega
    have h2 : k + i < 64 := by omega
    have h3 : k + i - k = i := by omega
    simp [h, h1, h2, h3]
  · have h1 : ¬ k + i < k := by omega
    have h2 : ¬ k + i < 64 := by omega
    have h4 : i - (64 - k) < k := by omega
    have h5 : 64 - k + (i - (64 - k)) = i := by omega
    simp [h, h1, h2, h4, h5, hi]
theorem unrot (x z : BitVec 64) (k : Int) (h : Rot x k z) (p q : Int) (hp : p = 2 ^ k.toNat) (hq : q = 2 ^ (64 - k.toNat)) :
    bits .or .u64 ((z.toNat : Int) / p) (IntKind.u64.wrap ((z.toNat : Int) * q)) = (x.toNat : Int) := by
  have h1 := h.lo
  have h2 := h.hi
  rw [hp, hq, shl64, shr64, or64, ← h.eq, rr_rl x k.toNat (by omega)]
theorem unxor (x y z : BitVec 64) (h : bits .xor .u64 (x.toNat : Int) (y.toNat : Int) = (z.toNat : Int)) : bits .xor .u64 (z.toNat : Int) (y.toNat : Int) = (x.toNat : Int) := by
  rw [xor64] at h
  have h1 : x ^^^ y = z := BitVec.eq_of_toNat_eq (Int.ofNat_inj.1 h)
  rw [xor64, ← h1, BitVec.xor_assoc, BitVec.xor_self, BitVec.xor_zero]
theorem unadd (x y z : BitVec 64) (h : IntKind.u64.wrap ((x.toNat : Int) + (y.toNat : Int)) = (z.toNat : Int)) : IntKind.u64.wrap ((z.toNat : Int) - (y.toNat : Int)) = (x.toNat : Int) := by
  rw [add64] at h
  have h1 : x + y = z := BitVec.eq_of_toNat_eq (Int.ofNat_inj.1 h)
  rw [sub64, ← h1, BitVec.add_sub_cancel]

set_option maxRecDepth 100000 in
set_option maxHeartbeats 1000000 in
theorem sipUnturns_walk (a b c d : Int) (w : World) (ha : (Lit.int .u64 a).wf = true) (hb : (Lit.int .u64 b).wf = true) (hc : (Lit.int .u64 c).wf = true) (hd : (Lit.int .u64 d).wf = true) :
    Calls Try.prog 6 #[.int .u64 a, .int .u64 b, .int .u64 c, .int .u64 d] w fun e w' => e = .returned (.bool true) ∧ Below w.heap.size w w' := by
  obtain ⟨a, rfl⟩ := of_u64 ha
  obtain ⟨b, rfl⟩ := of_u64 hb
  obtain ⟨c, rfl⟩ := of_u64 hc
  obtain ⟨d, rfl⟩ := of_u64 hd
  clear ha hb hc hd
  obtain ⟨a1, b1, b2, a2, c1, d1, d2, a3, d3, d4, c2, b3, b4, c3, ⟨E, A1, B1, B2, A2, C1, D1, D2, A3, D3, D4, C2, B3, B4, C3⟩⟩ := steps a b c d
  have F1 := unrot _ _ _ C3 4294967296 4294967296 (by decide) (by decide)
  have F2 := unxor _ _ _ B4
  have F3 := unrot _ _ _ B3 131072 140737488355328 (by decide) (by decide)
  have F4 := unadd _ _ _ C2
  have F5 := unxor _ _ _ D4
  have F6 := unrot _ _ _ D3 2097152 8796093022208 (by decide) (by decide)
  have F7 := unadd _ _ _ A3
  have F8 := unxor _ _ _ D2
  have F9 := unrot _ _ _ D1 65536 281474976710656 (by decide) (by decide)
  have F10 := unadd _ _ _ C1
  have F11 := unrot _ _ _ A2 4294967296 4294967296 (by decide) (by decide)
  have F12 := unxor _ _ _ B2
  have F13 := unrot _ _ _ B1 8192 2251799813685248 (by decide) (by decide)
  have F14 := unadd _ _ _ A1
  clear A1 B1 B2 A2 C1 D1 D2 A3 D3 D4 C2 B3 B4 C3
  go_enter Try.func6, Try.ntmps6
  go_wp2_with (first
    | (go_at_call 7; refine (awake_any _).mono ?_; rintro e w1 ⟨rfl, hb1⟩; replace hb1 := keep hb1)
    | (go_at_call 8; refine (Round_at a b c d ⟨a3, b4, c3, d4⟩ E _).mono ?_; rintro e w2 ⟨rfl, hb2⟩; have hb3 := keep (hb1.out.trans (hb2.mono hb1.out.size)); clear hb1 hb2))
  go_ret
  exact ⟨rfl, hb3.out.alloc hb3.out.size _⟩
end Go.Proofs.Ytacjbfmmjcfomaa
