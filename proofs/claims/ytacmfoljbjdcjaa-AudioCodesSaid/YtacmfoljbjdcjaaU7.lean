/- Package audio: whether a packet may be; whether it comes behind the last one, and its new Seq. -/
import Derived.Test.YtacmfoljbjdcjaaU6
import Derived.Maps.AppendAt
import Derived.BigQuiet
import Derived.Deep.QuietTactic
import Derived.Deep.RegionHeld3
import Derived.Deep.MidRow
namespace Go.Proofs.Ytacmfoljbjdcjaa
open Go.RowKit Go.Maps
set_option linter.unusedVariables false
set_option linter.unusedSimpArgs false

/-- Why a packet may not be. -/
def fE (kd : Int) (n : Nat) : Int := if 128 ≤ kd then 1 else if 1188 < n then 10 else 0
theorem fault_any (mr : Bool) (kd sq st so : Int) (A : Option Addr) (n c : Nat) (W : World) : Calls Try.prog 24 #[.agg #[.bool mr, .int .u8 kd, .int .u16 sq, .int .u32 st, .int .u32 so, .slice A n c]] W fun e w' => e = .returned (.int .i64 (fE kd n)) ∧ Below W.heap.size W w' := by
  have HB := keep (below_lay W (.cells #[.bool mr, .int .u8 kd, .int .u16 sq, .int .u32 st, .int .u32 so, .slice A n c] 26))
  by_cases h1 : 128 ≤ kd
  · have e : fE kd n = 1 := by unfold fE; rw [if_pos h1]
    rw [e]
    clear e
    go_enter Try.func24, Try.ntmps24
    go_wp2
    go_ret
    exact ⟨rfl, HB.out⟩
  · by_cases h2 : 1188 < n
    · have e : fE kd n = 10 := by unfold fE; rw [if_neg h1, if_pos h2]
      rw [e]
      have h2I : (1188 : Int) < (n : Int) := by omega
      clear e h2
      go_enter Try.func24, Try.ntmps24
      go_wp2
      go_ret
      exact ⟨rfl, HB.out⟩
    · have e : fE kd n = 0 := by unfold fE; rw [if_neg h1, if_neg h2]
      rw [e]
      have h2I : ¬ (1188 : Int) < (n : Int) := by omega
      clear e h2
      go_enter Try.func24, Try.ntmps24
      go_wp2
      go_ret
      exact ⟨rfl, HB.out⟩
theorem below_drewN {B : Nat} {W w : World} (h : Below B W w) (n : Nat) : Below B W (w.drewN n) := ⟨h.os, h.tape, h.output, h.size, h.block⟩
set_option maxHeartbeats 2000000 in
theorem before_any (s : Sp) (mr : Bool) (kd sq st so : Int) (A : Option Addr) (n c : Nat) (bs : List UInt8) (W : World) : Calls Try.prog 46 #[.agg #[.bool s.kn, .int .u32 s.so, .int .u16 s.ow, .int .u16 s.nw], .agg #[.bool mr, .int .u8 kd, .int .u16 sq, .int .u32 st, .int .u32 so, .slice A n c]] W fun e w' =>
    e = .returned (.bool (befB s ⟨mr, kd, sq, st, so, bs⟩)) ∧ Below W.heap.size W w' := by
  obtain ⟨kn, so0, ow, nw⟩ := s
  dsimp only
  have b1 := below_lay W (.cells #[.bool kn, .int .u32 so0, .int .u16 ow, .int .u16 nw] 79)
  have HB := keep (b1.trans ((below_lay _ (.cells #[.bool mr, .int .u8 kd, .int .u16 sq, .int .u32 st, .int .u32 so, .slice A n c] 26)).mono b1.size))
  have K := keep fun w => Less16_any ow sq w
  unfold befB
  dsimp only
  cases kn with
  | false =>
    go_enter Try.func46, Try.ntmps46
    go_wp2
    go_ret
    exact ⟨rfl, HB.out⟩
  | true =>
    by_cases hs : so0 = so
    · subst hs
      obtain ⟨q, hq⟩ : ∃ q, less16 ow sq = q := ⟨_, rfl⟩
      rw [hq]
      rw [hq] at K
      clear hq
      go_enter Try.func46, Try.ntmps46
      go_wp2_with (go_at_call 48; refine (K.out _).mono ?_; rintro e w2 ⟨rfl, rfl⟩)
      go_ret
      exact ⟨by simp, HB.out⟩
    · have hs2 : (so0 == so) = false := by simpa using hs
      rw [hs2]
      go_enter Try.func46, Try.ntmps46
      go_wp2
      go_ret
      exact ⟨rfl, HB.out⟩
set_option maxHeartbeats 2000000 in
theorem follow_any (s : Sp) (mr : Bool) (kd sq st so : Int) (A : Option Addr) (n c : Nat) (bs : List UInt8) (W : World) : Calls Try.prog 47 #[.agg #[.bool s.kn, .int .u32 s.so, .int .u16 s.ow, .int .u16 s.nw], .agg #[.bool mr, .int .u8 kd, .int .u16 sq, .int .u32 st, .int .u32 so, .slice A n c]] W fun e w' =>
    e = .returned (.int .u16 (folI s ⟨mr, kd, sq, st, so, bs⟩)) ∧ Below W.heap.size W w' := by
  obtain ⟨kn, so0, ow, nw⟩ := s
  dsimp only
  have b1 := below_lay W (.cells #[.bool kn, .int .u32 so0, .int .u16 ow, .int .u16 nw] 79)
  have HB := keep (b1.trans ((below_lay _ (.cells #[.bool mr, .int .u8 kd, .int .u16 sq, .int .u32 st, .int .u32 so, .slice A n c] 26)).mono b1.size))
  unfold folI
  dsimp only
  cases kn with
  | false =>
    rw [if_pos rfl]
    go_enter Try.func47, Try.ntmps47
    go_wp2
    go_ret
    exact ⟨rfl, HB.out⟩
  | true =>
    rw [if_neg (by decide)]
    by_cases hs : so0 = so
    · subst hs
      rw [if_pos rfl]
      go_enter Try.func47, Try.ntmps47
      go_wp2
      go_ret
      exact ⟨ret_int (by simp only [wrap_u16]; omega), HB.out⟩
    · rw [if_neg hs]
      have hs2 : (so0 == so) = false := by simpa using hs
      go_enter Try.func47, Try.ntmps47
      go_wp2
      go_ret
      exact ⟨ret_int (by simp only [wrap_u16]), HB.out⟩
end Go.Proofs.Ytacmfoljbjdcjaa
