/- Contracts of octet's readers: number, Get8, Get16, Get32, Bytes, Pad. -/
import Derived.Test.YtacmfoljbjdcjaaRd3
namespace Go.Proofs.Ytacmfoljbjdcjaa
open Go.RowKit
set_option linter.unusedVariables false

/-- The number of octets, the highest first. -/
def numB (bs : List UInt8) : Nat := bs.foldl (fun v x => v * 256 + x.toNat) 0
theorem numB_snoc (l : List UInt8) (x : UInt8) : numB (l ++ [x]) = numB l * 256 + x.toNat := by simp [numB]
theorem numB_take (bs : List UInt8) (j : Nat) (h : j < bs.length) : numB (bs.take (j + 1)) = numB (bs.take j) * 256 + bs[j].toNat := by
  rw [List.take_succ_eq_append_getElem h, numB_snoc]
theorem numB_take_lt (bs : List UInt8) : ∀ j, j ≤ bs.length → numB (bs.take j) < 256 ^ j
  | 0, _ => by simp [numB]
  | j + 1, h => by
    rw [numB_take bs j (by omega), Nat.pow_succ]
    have := numB_take_lt bs j (by omega)
    have := bs[j].toNat_lt
    omega
theorem or_low (a x : Nat) (ha : a < 16777216) (hx : x < 256) : bits .or .u32 ((a : Int) * 256 % 4294967296) ((x : Int) % 4294967296) = ((a * 256 + x : Nat) : Int) := by
  rw [show (a : Int) * 256 % 4294967296 = ((a * 256 : Nat) : Int) by omega, show (x : Int) % 4294967296 = (x : Int) by omega, u32_or_nat _ _ (by omega) (by omega)]
  have h := Nat.shiftLeft_add_eq_or_of_lt (i := 8) (show x < 2 ^ 8 by omega) a
  rw [Nat.shiftLeft_eq] at h
  exact_mod_cast h.symm
theorem num_step (bs : List UInt8) (j : Nat) (hj : j < 4) (h : j < bs.length) :
    bits .or .u32 ((numB (bs.take j) : Int) * 256 % 4294967296) ((bs[j].toNat : Int) % 4294967296) = (numB (bs.take (j + 1)) : Int) := by
  have h1 := numB_take_lt bs j (by omega)
  have h2 : 256 ^ j ≤ 256 ^ 3 := Nat.pow_le_pow_right (by omega) (by omega)
  rw [or_low _ _ (by omega) bs[j].toNat_lt, numB_take bs j h]
theorem int_val {k : IntKind} {a b : Int} (h : a = b) : Value.int k a = Value.int k b := by rw [h]

theorem number_some (g : Nat) (A : Option Addr) (n c : Nat) (bs : List UInt8) (k : Nat) (hk0 : 0 < k) (hk4 : k ≤ 4) (hk : k ≤ n) (w : World) (hr : RD w g A n c bs) :
    Calls Try.prog 42 #[.pointer (some ⟨g, 0, none⟩), .int .i64 (k : Int)] w fun e w' => e = .returned (.tuple #[.int .u32 (numB (bs.take k)), .int .i64 0]) ∧ RdPost w g (bs.drop k) w' := by
  have HL := keep hr.2.len
  have K1 := keep (next_some g A n c bs k hk w hr)
  have K2 := keep (skip_some g A n c bs k hk w hr)
  have HA := keep hr.2.br
  obtain ⟨b, o, rfl, hlt, _⟩ := hr.2.br.at_ (j := 0) (by have := hr.2.len; omega)
  go_enter Try.func42, Try.ntmps42
  go_wp2_with (go_at_call 43; refine K1.out.mono ?_; rintro e w' ⟨rfl, rfl⟩)
  go_loop [8, 22] (fun v i => ∃ j : Nat, j ≤ k ∧ i = .int .i64 j ∧ v = .int .u32 (numB (bs.take j))) (fun _ i => k - (intOf i).toNat)
  case atStart => exact ⟨0, Nat.zero_le _, rfl, rfl⟩
  case round =>
    obtain ⟨j, hj, rfl, rfl⟩ := hrel
    by_cases hlt : j < k
    · have hjb : j < bs.length := by have := HL.out; omega
      obtain ⟨b', o', e', _, hcell⟩ := HA.out.at_ (j := j) hjb
      injection e' with e'
      injection e' with e1 e2
      subst e1
      subst e2
      have HS := keep (num_step bs j (by omega) hjb)
      go_wp2
      go_round
      case rel => exact ⟨j + 1, by omega, by go_num, int_val HS.out⟩
      case measure => simp [intOf]; omega
    · obtain rfl : k = j := by omega
      go_wp2_with (go_at_call 44; refine K2.out.mono ?_; rintro e w' ⟨rfl, hp⟩)
      go_ret2
      exact ⟨rfl, hp⟩
theorem number_short (g : Nat) (A : Option Addr) (n c : Nat) (bs : List UInt8) (k : Nat) (hk : n < k) (w : World) (hr : RD w g A n c bs) :
    Calls Try.prog 42 #[.pointer (some ⟨g, 0, none⟩), .int .i64 (k : Int)] w fun e w' => e = .returned (.tuple #[.int .u32 0, .int .i64 2]) ∧ w = w' := by
  have K1 := keep (next_short g A n c bs k (by omega) (by omega) w hr)
  go_enter Try.func42, Try.ntmps42
  go_wp2_with (go_at_call 43; refine K1.out.mono ?_; rintro e w' ⟨rfl, rfl⟩)
  go_ret2
  exact ⟨rfl, rfl⟩
theorem number_nil (k : Int) (w : World) :
    Calls Try.prog 42 #[.pointer none, .int .i64 k] w fun e w' => e = .returned (.tuple #[.int .u32 0, .int .i64 1]) ∧ w = w' := by
  have K1 := keep (next_nil k w)
  go_enter Try.func42, Try.ntmps42
  go_wp2_with (go_at_call 43; refine K1.out.mono ?_; rintro e w' ⟨rfl, rfl⟩)
  go_ret2
  exact ⟨rfl, rfl⟩

/-- What a reader of numbers answers: the number of the next k octets, or 'too short'. -/
def NumPost (k : IntKind) (m : Nat) (w : World) (g : Nat) (n : Nat) (bs : List UInt8) (e : Ending) (w' : World) : Prop :=
  (m ≤ n ∧ e = .returned (.tuple #[.int k (numB (bs.take m)), .int .i64 0]) ∧ RdPost w g (bs.drop m) w') ∨
  (n < m ∧ e = .returned (.tuple #[.int k 0, .int .i64 2]) ∧ w = w')
theorem get32_any (g : Nat) (A : Option Addr) (n c : Nat) (bs : List UInt8) (w : World) (hr : RD w g A n c bs) :
    Calls Try.prog 32 #[.pointer (some ⟨g, 0, none⟩)] w (NumPost .u32 4 w g n bs) := by
  by_cases h : 4 ≤ n
  · have K := keep (number_some g A n c bs 4 (by omega) (by omega) h w hr)
    have HN : numB (bs.take 4) < 256 ^ 4 := numB_take_lt bs 4 (by rw [← hr.2.len]; exact h)
    go_enter Try.func32, Try.ntmps32
    go_wp2_with (go_at_call 42; refine K.out.mono ?_; rintro e w' ⟨rfl, hp⟩)
    go_ret2
    exact .inl ⟨h, rfl, hp⟩
  · have K := keep (number_short g A n c bs 4 (by omega) w hr)
    go_enter Try.func32, Try.ntmps32
    go_wp2_with (go_at_call 42; refine K.out.mono ?_; rintro e w' ⟨rfl, rfl⟩)
    go_ret2
    exact .inr ⟨by omega, rfl, rfl⟩
theorem get16_any (g : Nat) (A : Option Addr) (n c : Nat) (bs : List UInt8) (w : World) (hr : RD w g A n c bs) :
    Calls Try.prog 31 #[.pointer (some ⟨g, 0, none⟩)] w (NumPost .u16 2 w g n bs) := by
  by_cases h : 2 ≤ n
  · have K := keep (number_some g A n c bs 2 (by omega) (by omega) h w hr)
    have HN : numB (bs.take 2) < 256 ^ 2 := numB_take_lt bs 2 (by rw [← hr.2.len]; exact h)
    go_enter Try.func31, Try.ntmps31
    go_wp2_with (go_at_call 42; refine K.out.mono ?_; rintro e w' ⟨rfl, hp⟩)
    go_ret2
    exact .inl ⟨h, rfl, hp⟩
  · have K := keep (number_short g A n c bs 2 (by omega) w hr)
    go_enter Try.func31, Try.ntmps31
    go_wp2_with (go_at_call 42; refine K.out.mono ?_; rintro e w' ⟨rfl, rfl⟩)
    go_ret2
    exact .inr ⟨by omega, rfl, rfl⟩
theorem get8_any (g : Nat) (A : Option Addr) (n c : Nat) (bs : List UInt8) (w : World) (hr : RD w g A n c bs) :
    Calls Try.prog 30 #[.pointer (some ⟨g, 0, none⟩)] w (NumPost .u8 1 w g n bs) := by
  by_cases h : 1 ≤ n
  · have K := keep (number_some g A n c bs 1 (by omega) (by omega) h w hr)
    have HN : numB (bs.take 1) < 256 ^ 1 := numB_take_lt bs 1 (by rw [← hr.2.len]; exact h)
    go_enter Try.func30, Try.ntmps30
    go_wp2_with (go_at_call 42; refine K.out.mono ?_; rintro e w' ⟨rfl, hp⟩)
    go_ret2
    exact .inl ⟨h, rfl, hp⟩
  · have K := keep (number_short g A n c bs 1 (by omega) w hr)
    go_enter Try.func30, Try.ntmps30
    go_wp2_with (go_at_call 42; refine K.out.mono ?_; rintro e w' ⟨rfl, rfl⟩)
    go_ret2
    exact .inr ⟨by omega, rfl, rfl⟩
end Go.Proofs.Ytacmfoljbjdcjaa
