/- Contracts of octet's readers: Bytes and Pad; and all of a reader that is nil. -/
import Derived.Test.YtacmfoljbjdcjaaRd4
namespace Go.Proofs.Ytacmfoljbjdcjaa
open Go.RowKit
set_option linter.unusedVariables false

theorem rd_then {w w1 w2 : World} {g : Nat} {bs : List UInt8} (h : RdPost w g bs w1) (hb : Below w1.heap.size w1 w2) : RdPost w g bs w2 := by
  obtain ⟨A, n, c, hr, hg, hs⟩ := h
  exact ⟨A, n, c, hr.step hb, grown_then hg hb, hs⟩

theorem bytes_some (g : Nat) (A : Option Addr) (n c : Nat) (bs : List UInt8) (k : Nat) (hk : k ≤ n) (hbig : n ≤ 281474976710000) (w : World) (hr : RD w g A n c bs) :
    Calls Try.prog 33 #[.pointer (some ⟨g, 0, none⟩), .int .i64 (k : Int)] w fun e w' => ∃ A' c', e = .returned (.tuple #[.slice A' k c', .int .i64 0]) ∧ BS w' A' k c' (bs.take k) ∧ RdPost w g (bs.drop k) w' ∧ TY w' A' := by
  have K1 := keep (next_some g A n c bs k hk w hr)
  have K2 := keep (skip_some g A n c bs k hk w hr)
  go_enter Try.func33, Try.ntmps33
  go_wp2_with (first | (go_at_call 43; refine K1.out.mono ?_; rintro e w' ⟨rfl, rfl⟩) | (go_at_call 44; refine K2.out.mono ?_; rintro e w1 ⟨rfl, hp⟩))
  obtain ⟨A1, n1, c1, hr1, hg1, hst1⟩ := hp
  have hb := (hr.2.take k k hk (Nat.le_refl _)).past hr hg1
  refine (lay_ret A none k 0 k 0 _ [] w1 hb (BS.nil _) (by omega)).mono ?_
  rintro e w2 ⟨A2, n2, c2, rfl, hs2, hb2, ho2⟩
  rw [List.append_nil] at hs2
  obtain rfl : n2 = k := by rw [hs2.len, ← hb.len]
  go_wp2_with fail
  go_ret2
  exact ⟨A2, c2, rfl, hs2, rd_then ⟨A1, n1, c1, hr1, hg1, hst1⟩ hb2, TY.own ho2.out⟩
theorem bytes_neg (g : Nat) (k : Int) (hk : k < 0) (w : World) :
    Calls Try.prog 33 #[.pointer (some ⟨g, 0, none⟩), .int .i64 k] w fun e w' => e = .returned (.tuple #[.slice none 0 0, .int .i64 1]) ∧ w = w' := by
  have K1 := keep (next_neg g k hk w)
  go_enter Try.func33, Try.ntmps33
  go_wp2_with (go_at_call 43; refine K1.out.mono ?_; rintro e w' ⟨rfl, rfl⟩)
  go_ret2
  exact ⟨rfl, rfl⟩
theorem bytes_short (g : Nat) (A : Option Addr) (n c : Nat) (bs : List UInt8) (k : Int) (hk0 : 0 ≤ k) (hk : (n : Int) < k) (w : World) (hr : RD w g A n c bs) :
    Calls Try.prog 33 #[.pointer (some ⟨g, 0, none⟩), .int .i64 k] w fun e w' => e = .returned (.tuple #[.slice none 0 0, .int .i64 2]) ∧ w = w' := by
  have K1 := keep (next_short g A n c bs k hk0 hk w hr)
  go_enter Try.func33, Try.ntmps33
  go_wp2_with (go_at_call 43; refine K1.out.mono ?_; rintro e w' ⟨rfl, rfl⟩)
  go_ret2
  exact ⟨rfl, rfl⟩
theorem bytes_nil (k : Int) (w : World) :
    Calls Try.prog 33 #[.pointer none, .int .i64 k] w fun e w' => e = .returned (.tuple #[.slice none 0 0, .int .i64 1]) ∧ w = w' := by
  have K1 := keep (next_nil k w)
  go_enter Try.func33, Try.ntmps33
  go_wp2_with (go_at_call 43; refine K1.out.mono ?_; rintro e w' ⟨rfl, rfl⟩)
  go_ret2
  exact ⟨rfl, rfl⟩
theorem get8_nil (w : World) : Calls Try.prog 30 #[.pointer none] w fun e w' => e = .returned (.tuple #[.int .u8 0, .int .i64 1]) ∧ w = w' := by
  have K := keep (number_nil 1 w)
  go_enter Try.func30, Try.ntmps30
  go_wp2_with (go_at_call 42; refine K.out.mono ?_; rintro e w' ⟨rfl, rfl⟩)
  go_ret2
  exact ⟨rfl, rfl⟩
theorem get16_nil (w : World) : Calls Try.prog 31 #[.pointer none] w fun e w' => e = .returned (.tuple #[.int .u16 0, .int .i64 1]) ∧ w = w' := by
  have K := keep (number_nil 2 w)
  go_enter Try.func31, Try.ntmps31
  go_wp2_with (go_at_call 42; refine K.out.mono ?_; rintro e w' ⟨rfl, rfl⟩)
  go_ret2
  exact ⟨rfl, rfl⟩
theorem get32_nil (w : World) : Calls Try.prog 32 #[.pointer none] w fun e w' => e = .returned (.tuple #[.int .u32 0, .int .i64 1]) ∧ w = w' := by
  have K := keep (number_nil 4 w)
  go_enter Try.func32, Try.ntmps32
  go_wp2_with (go_at_call 42; refine K.out.mono ?_; rintro e w' ⟨rfl, rfl⟩)
  go_ret2
  exact ⟨rfl, rfl⟩

/-- What Pad answers where enough octets are left: the m next ones are zeros, and read; or they are not. -/
def RPadPost (m : Nat) (w : World) (g : Nat) (bs : List UInt8) (e : Ending) (w' : World) : Prop :=
  (bs.take m = List.replicate m 0 ∧ e = .returned (.int .i64 0) ∧ RdPost w g (bs.drop m) w') ∨
  (¬ bs.take m = List.replicate m 0 ∧ e = .returned (.int .i64 3) ∧ w = w')
theorem take_zeros (bs : List UInt8) (j : Nat) (h : j < bs.length) (hz : bs.take j = List.replicate j 0) (h0 : bs[j] = 0) : bs.take (j + 1) = List.replicate (j + 1) 0 := by
  rw [List.take_succ_eq_append_getElem h, hz, h0, List.replicate_succ']
theorem take_not (bs : List UInt8) (j m : Nat) (hj : j < m) (hm : j < bs.length) (h0 : bs[j] ≠ 0) : ¬ bs.take m = List.replicate m 0 := by
  intro h
  have h1 : (bs.take m)[j]? = some bs[j] := by rw [List.getElem?_take, if_pos hj, List.getElem?_eq_getElem hm]
  rw [h, List.getElem?_replicate, if_pos hj] at h1
  injection h1 with h1
  exact h0 h1.symm
end Go.Proofs.Ytacmfoljbjdcjaa
