/- The document's readers of layer 1 once more: which slices they hand back is said outright (parts of the one that came). -/
import Derived.Test.YtaifigmbjcebeaaRf1
namespace Go.Proofs.Ytaifigmbjcebeaa
open Go.RowKit
set_option linter.unusedVariables false

/-- Where a slice begins behind its first k elements. -/
def cutA (A : Option Addr) (c k : Nat) : Option Addr := if c = k then A else A.map (·.add k)
theorem BS.cutA {w : World} {A : Option Addr} {n c : Nat} {bs : List UInt8} (h : BS w A n c bs) (k : Nat) (hk : k ≤ n) : BS w (cutA A c k) (n - k) (c - k) (bs.drop k) := h.drop k hk

theorem refbytes_ex (A : Option Addr) (n c : Nat) (bs : List UInt8) (k : Nat) (hk : k ≤ n) (w : World) (ha : BS w A n c bs) :
    Calls Try.prog 39 #[.slice A n c, .int .i64 (k : Int)] w fun e w' => e = .returned (.tuple #[.slice A k c, .slice (cutA A c k) (n - k) (c - k), .int .i64 0]) ∧ ∃ m, w' = w.drewN m := by
  have hcap := ha.cap
  unfold cutA
  by_cases e : c = k
  · rw [if_pos e]
    have HE := keep e
    go_enter Try.func39, Try.ntmps39
    go_wp2_with fail
    go_quiet (fail)
    go_wp2
    go_ret3
    exact ⟨by simp [HE.out], _, rfl⟩
  · rw [if_neg e]
    go_enter Try.func39, Try.ntmps39
    go_wp2_with fail
    go_quiet (fail)
    go_wp2
    go_ret3
    exact ⟨by simp, _, rfl⟩

theorem refget_ex (A : Option Addr) (n c : Nat) (bs : List UInt8) (k : Nat) (hk0 : 0 < k) (hk4 : k ≤ 4) (hk : k ≤ n) (w : World) (ha : BS w A n c bs) :
    Calls Try.prog 38 #[.slice A n c, .int .i64 (k : Int)] w fun e w' => e = .returned (.tuple #[.int .u32 (numB (bs.take k)), .slice (cutA A c k) (n - k) (c - k), .int .i64 0]) ∧ ∃ m, w' = w.drewN m := by
  have HL := keep ha.len
  have HA := keep ha.br
  have hcap := ha.cap
  obtain ⟨b, o, rfl, hlt, _⟩ := ha.br.at_ (j := 0) (by have := ha.len; omega)
  go_enter Try.func38, Try.ntmps38
  go_wp2_with fail
  go_loop [7, 8] (fun v i => ∃ j : Nat, j ≤ k ∧ i = .int .i64 j ∧ v = .int .u32 (numB (bs.take j))) (fun _ i => k - (intOf i).toNat)
  case atStart => exact ⟨0, Nat.zero_le _, rfl, rfl⟩
  case round =>
    obtain ⟨j, hj, rfl, rfl⟩ := hrel
    by_cases hlt : j < k
    · have hjb : j < bs.length := by have := HL.out; omega
      obtain ⟨b', o', e', _, hcell⟩ := HA.out.at_ (j := j) hjb
      injection e' with e'
      injection e' with e1 e2
      subst e1
      subst e2
      have HS := keep (num_step bs j (by omega) hjb)
      go_wp2
      go_round
      case rel => exact ⟨j + 1, by omega, by go_num, int_val HS.out⟩
      case measure => simp [intOf]; omega
    · obtain rfl : k = j := by omega
      by_cases e : c = k
      · have HE := keep e
        go_wp2_with fail
        go_quiet (fail)
        go_wp2
        go_ret3
        exact ⟨by simp [cutA, HE.out], _, rfl⟩
      · have HE := keep e
        go_wp2_with fail
        go_quiet (fail)
        go_wp2
        go_ret3
        exact ⟨by simp [cutA, HE.out, Addr.add_lit], _, rfl⟩

def UnpadEx (w : World) (A : Option Addr) (c : Nat) (m n : Nat) (bs : List UInt8) (e : Ending) (w' : World) : Prop :=
  (bs.take m = List.replicate m 0 ∧ e = .returned (.tuple #[.slice (cutA A c m) (n - m) (c - m), .int .i64 0]) ∧ w = w') ∨
  (¬ bs.take m = List.replicate m 0 ∧ e = .returned (.tuple #[.slice A n c, .int .i64 3]) ∧ w = w')
theorem refunpad_ex (A : Option Addr) (n c : Nat) (bs : List UInt8) (k m : Nat) (hk : k ≤ 9223372036854775807) (hm : m = (4 - k % 4) % 4) (hn : m ≤ n) (w : World) (ha : BS w A n c bs) :
    Calls Try.prog 40 #[.slice A n c, .int .i64 (k : Int)] w (UnpadEx w A c m n bs) := by
  have HL := keep ha.len
  have HA := keep ha.br
  have hcap := ha.cap
  have hm' : (4 - (k : Int) % 4) % 4 = (m : Int) := by omega
  have hm4 : m < 4 := by omega
  clear hm
  by_cases hm0 : m = 0
  · subst hm0
    go_enter Try.func40, Try.ntmps40
    go_wp2_with fail
    refine wp_loop_rounds 1 ?_
    rw [rounds_succ]
    go_wp2_with fail
    go_ret2
    refine .inl ⟨by simp, ?_, rfl⟩
    unfold cutA
    by_cases e : c = 0
    · simp [e]
    · rw [if_neg e]
      cases A <;> simp [Addr.add]
  · obtain ⟨b, o, rfl, hlt, _⟩ := ha.br.at_ (j := 0) (by have := ha.len; omega)
    go_enter Try.func40, Try.ntmps40
    go_wp2_with fail
    go_loop [7] (fun i => ∃ j : Nat, j ≤ m ∧ i = .int .i64 j ∧ bs.take j = List.replicate j 0) (fun i => m - (intOf i).toNat)
    case atStart => exact ⟨0, Nat.zero_le _, rfl, by simp⟩
    case round =>
      obtain ⟨j, hj, rfl, hz⟩ := hrel
      have HZ := keep hz
      clear hz
      by_cases hlt : j < m
      · have hjb : j < bs.length := by have := HL.out; omega
        obtain ⟨b', o', e', _, hcell⟩ := HA.out.at_ (j := j) hjb
        injection e' with e'
        injection e' with e1 e2
        subst e1
        subst e2
        by_cases h0 : bs[j] = 0
        · have HN := keep (take_zeros bs j hjb HZ.out h0)
          have hv : bs[j].toNat = 0 := by rw [h0]; rfl
          rw [hv] at hcell
          clear hv h0
          go_wp2
          go_round
          case rel => exact ⟨j + 1, by omega, by go_num, HN.out⟩
          case measure => simp [intOf]; omega
        · have HN := keep (take_not bs j m hlt hjb h0)
          have hv : 0 < (bs[j].toNat : Int) := by
            have : bs[j].toNat ≠ 0 := fun h => h0 (UInt8.toNat_inj.1 (by simpa using h))
            omega
          clear h0
          go_wp2
          go_ret2
          exact .inr ⟨HN.out, rfl, rfl⟩
      · obtain rfl : m = j := by omega
        by_cases e : c = m
        · have HE := keep e
          go_wp2_with fail
          go_ret2
          refine .inl ⟨HZ.out, ?_, rfl⟩
          simp [cutA]
        · have HE := keep e
          go_wp2_with fail
          go_ret2
          refine .inl ⟨HZ.out, ?_, rfl⟩
          simp [cutA, HE.out, Addr.add_lit]
end Go.Proofs.Ytaifigmbjcebeaa
