/- The arithmetic of a state: what stays within bounds. -/
import Derived.Test.YtkpbaoiaebdngaaRo6
namespace Go.Proofs.Ytkpbaoiaebdngaa
set_option linter.unusedVariables false

structure InR (s : RS) : Prop where
  s0 : 0 ≤ s.sm
  s1 : s.sm ≤ 1073741824
  v0 : 0 ≤ s.va
  v1 : s.va ≤ 1073741824
  w0 : 1000 ≤ s.wa
  w1 : s.wa ≤ 60000
theorem InR.start : InR RS.start := by constructor <;> decide
theorem clampI_in (n : Int) : 1000 ≤ clampI n ∧ clampI n ≤ 60000 := by unfold clampI held; omega
theorem InR.samp {s : RS} (h : InR s) (r : Int) : InR (s.samp r) := by
  unfold RS.samp
  split
  · rename_i hok
    obtain ⟨r0, r1, _, _, _, _, _, _⟩ := Fit.of hok
    obtain ⟨s0, s1, v0, v1, w0, w1⟩ := h
    have hc := clampI_in (rsm s r + morI (rva s r))
    refine ⟨?_, ?_, ?_, ?_, hc.1, hc.2⟩ <;> dsimp only <;> (first | unfold rsm | unfold rva) <;> split <;> omega
  · exact h
theorem InR.bk {s : RS} (h : InR s) : InR ⟨s.sm, s.va, bk s.wa, s.kn⟩ := by
  obtain ⟨s0, s1, v0, v1, w0, w1⟩ := h
  have hc := clampI_in (2 * s.wa)
  have : 1000 ≤ Go.Proofs.Ytkpbaoiaebdngaa.bk s.wa ∧ Go.Proofs.Ytkpbaoiaebdngaa.bk s.wa ≤ 60000 := by
    unfold Go.Proofs.Ytkpbaoiaebdngaa.bk
    split <;> omega
  exact ⟨s0, s1, v0, v1, this.1, this.2⟩
/-- What j times waiting longer has made at least. -/
def lo (j : Nat) : Int := min 60000 (1000 * 2 ^ (j - 1))
def Step (j : Nat) (last v : Int) : Prop := (j = 0 ∧ last = 0 ∧ 0 ≤ v ∧ v ≤ 2147483648) ∨ (1 ≤ j ∧ last = v ∧ lo j ≤ v ∧ 1000 ≤ v ∧ v ≤ 60000)
theorem bk_in {v : Int} (h0 : 0 ≤ v) (h1 : v ≤ 2147483648) : bk v = clampI (2 * v) := by
  unfold bk
  rw [if_pos (inB_iff.2 ⟨h0, h1⟩)]
theorem bk_out {v : Int} (h : ¬ (0 ≤ v ∧ v ≤ 2147483648)) : bk v = v := by
  unfold bk
  rw [if_neg (fun x => h (inB_iff.1 x))]
theorem Step.next {j : Nat} {last v : Int} (h : Step j last v) : last ≤ bk v ∧ Step (j + 1) (bk v) (bk v) := by
  rcases h with ⟨rfl, rfl, h0, h1⟩ | ⟨hj, rfl, hl, h0, h1⟩
  · rw [bk_in h0 h1]
    have hc := clampI_in (2 * v)
    refine ⟨by omega, .inr ⟨by omega, rfl, ?_, hc.1, hc.2⟩⟩
    have : lo (0 + 1) = 1000 := by decide
    rw [this]
    exact hc.1
  · rw [bk_in (by omega) (by omega)]
    have hc := clampI_in (2 * last)
    refine ⟨by unfold clampI held; omega, .inr ⟨by omega, rfl, ?_, hc.1, hc.2⟩⟩
    obtain ⟨i, rfl⟩ : ∃ i, j = i + 1 := ⟨j - 1, by omega⟩
    unfold lo at hl ⊢
    simp only [Nat.add_sub_cancel] at hl ⊢
    rw [Int.pow_succ]
    generalize (2 : Int) ^ i = q at hl ⊢
    unfold clampI held
    omega
theorem Step.last {last v : Int} (h : Step 16 last v) : v = 60000 := by
  rcases h with ⟨h, _⟩ | ⟨_, _, hl, _, h1⟩
  · cases h
  · have : lo 16 = 60000 := by decide
    omega
theorem samp_start {k : Int} (h0 : 0 ≤ k) (h1 : k < 1073741824) : RS.samp ⟨0, 0, 3000, false⟩ k = ⟨k, k / 2, clampI (k + morI (k / 2)), true⟩ := by
  unfold RS.samp
  rw [if_pos (by simp only [okR, Bool.and_eq_true, inB_iff]; omega)]
  rfl
theorem samp_same {k v wa : Int} (h0 : 0 ≤ k) (h1 : k < 1073741824) (v0 : 0 ≤ v) (v1 : v ≤ 1073741824) (w0 : 1000 ≤ wa) (w1 : wa ≤ 60000) :
    RS.samp ⟨k, v, wa, true⟩ k = ⟨k, 3 * v / 4, clampI (k + morI (3 * v / 4)), true⟩ := by
  unfold RS.samp
  rw [if_pos (by simp only [okR, Bool.and_eq_true, inB_iff]; omega)]
  have e1 : rsm ⟨k, v, wa, true⟩ k = k := by simp [rsm]; omega
  have e2 : rva ⟨k, v, wa, true⟩ k = 3 * v / 4 := by simp [rva]
  rw [e1, e2]
theorem wait_less {k v : Int} (v0 : 0 ≤ v) : clampI (k + morI (3 * v / 4)) ≤ clampI (k + morI v) := by
  unfold clampI held morI
  omega
theorem wait_least {k v : Int} : min (max k 1000) 60000 ≤ clampI (k + morI v) := by
  unfold clampI held morI
  omega
/-- Between what it was and the sample. -/
theorem between {s : RS} {k : Int} (h : InR s) (h0 : 0 ≤ k) (h1 : k < 1073741824) :
    ∃ x y, s.samp k = ⟨x, y, clampI (x + morI y), true⟩ ∧ 0 ≤ x ∧ (s.kn = false → x = k) ∧ (s.kn = true → min s.sm k - 1 ≤ x ∧ x ≤ max s.sm k) ∧ min x 60000 ≤ clampI (x + morI y) := by
  obtain ⟨s0, s1, v0, v1, w0, w1⟩ := h
  refine ⟨rsm s k, rva s k, ?_, ?_, ?_, ?_, ?_⟩
  · unfold RS.samp
    rw [if_pos (by simp only [okR, Bool.and_eq_true, inB_iff]; omega)]
  · unfold rsm
    split <;> omega
  · intro hk
    unfold rsm
    rw [hk]
    rfl
  · intro hk
    unfold rsm
    rw [hk, if_pos rfl]
    omega
  · unfold clampI held morI
    omega
theorem and_i64 (i : Int) (k : Nat) (hk : k ≤ 32) : bits .and .i64 i ((2 ^ k - 1 : Nat) : Int) = i % ((2 ^ k : Nat) : Int) := by
  have hp : 2 ^ k ≤ 2 ^ 32 := Nat.pow_le_pow_right (by omega) hk
  have hq : 0 < 2 ^ k := Nat.two_pow_pos k
  have h2 : (BitVec.ofInt 64 ((2 ^ k - 1 : Nat) : Int)).toNat = 2 ^ k - 1 := by
    rw [BitVec.ofInt_natCast, BitVec.toNat_ofNat]; exact Nat.mod_eq_of_lt (by omega)
  show IntKind.i64.wrap ((BitVec.ofInt 64 i &&& BitVec.ofInt 64 ((2 ^ k - 1 : Nat) : Int)).toNat : Int) = _
  rw [BitVec.toNat_and, h2, Nat.and_two_pow_sub_one_eq_mod, BitVec.toNat_ofInt]
  have hd : ((2 ^ k : Nat) : Int) ∣ ((2 ^ 64 : Nat) : Int) := by
    refine Int.natCast_dvd_natCast.2 (Nat.pow_dvd_pow 2 (by omega))
  have h3 : (((i % ((2 ^ 64 : Nat) : Int)).toNat % 2 ^ k : Nat) : Int) = i % ((2 ^ k : Nat) : Int) := by
    rw [Int.natCast_emod, Int.toNat_of_nonneg (Int.emod_nonneg _ (by decide))]
    exact Int.emod_emod_of_dvd i hd
  rw [h3]
  have h4 := Int.emod_nonneg i (show ((2 ^ k : Nat) : Int) ≠ 0 by omega)
  have h5 := Int.emod_lt_of_pos i (show (0 : Int) < ((2 ^ k : Nat) : Int) by omega)
  have : ((2 ^ k : Nat) : Int) ≤ 4294967296 := by omega
  generalize i % ((2 ^ k : Nat) : Int) = r at *
  simp [IntKind.wrap, IntKind.signed, IntKind.bits]
  omega

theorem and30 (i : Int) : ∃ k, bits .and .i64 i 1073741823 = k ∧ 0 ≤ k ∧ k < 1073741824 := by
  have h := and_i64 i 30 (by decide)
  refine ⟨i % 1073741824, h.trans rfl, by omega, by omega⟩
theorem and8 (i : Int) : ∃ k : Nat, bits .and .i64 i 255 = (k : Int) ∧ k < 256 := by
  have h := and_i64 i 8 (by decide)
  refine ⟨(i % 256).toNat, h.trans ?_, by omega⟩
  show i % 256 = _
  omega
end Go.Proofs.Ytkpbaoiaebdngaa
