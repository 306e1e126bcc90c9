/- What readers answer where it is known what was put. -/
import Derived.Test.YthhohcagngjfnaaWParts
namespace Go.Proofs.Ythhohcagngjfnaa
open Go.RowKit
set_option linter.unusedVariables false

theorem num1 (a : Int) (h0 : 0 ≤ a) (h1 : a < 256) : (numB [b8 a] : Int) = a := by
  have := b8_of a h0 h1
  simp only [numB, List.foldl_cons, List.foldl_nil]
  omega
theorem num2 (a : Int) (h0 : 0 ≤ a) (h1 : a < 65536) : (numB [b8 (a / 256), b8 a] : Int) = a := by
  have := b8_of (a / 256) (by omega) (by omega)
  have := b8_toNat a
  simp only [numB, List.foldl_cons, List.foldl_nil]
  omega
theorem num4 (a : Int) (h0 : 0 ≤ a) (h1 : a < 4294967296) : (numB [b8 (a / 16777216), b8 (a / 65536), b8 (a / 256), b8 a] : Int) = a := by
  have := b8_of (a / 16777216) (by omega) (by omega)
  have := b8_toNat (a / 65536)
  have := b8_toNat (a / 256)
  have := b8_toNat a
  simp only [numB, List.foldl_cons, List.foldl_nil]
  omega
theorem get8_put (g : Nat) (A : Option Addr) (n c : Nat) (a : Int) (l : List UInt8) (h0 : 0 ≤ a) (h1 : a < 256) (w : World) (hr : RD w g A n c (b8 a :: l)) :
    Calls Try.prog 18 #[.pointer (some ⟨g, 0, none⟩)] w fun e w' => e = .returned (.tuple #[.int .u8 a, .int .i64 0]) ∧ RdPost w g l w' := by
  refine (get8_any g A n c _ w hr).mono fun e w' h => ?_
  rcases h with ⟨_, he, hp⟩ | ⟨hlt, _⟩
  · exact ⟨by rw [he, List.take_succ_cons, List.take_zero, num1 a h0 h1], hp⟩
  · have := hr.2.len; simp at this; omega
theorem get16_put (g : Nat) (A : Option Addr) (n c : Nat) (a : Int) (l : List UInt8) (h0 : 0 ≤ a) (h1 : a < 65536) (w : World) (hr : RD w g A n c (b8 (a / 256) :: b8 a :: l)) :
    Calls Try.prog 20 #[.pointer (some ⟨g, 0, none⟩)] w fun e w' => e = .returned (.tuple #[.int .u16 a, .int .i64 0]) ∧ RdPost w g l w' := by
  refine (get16_any g A n c _ w hr).mono fun e w' h => ?_
  rcases h with ⟨_, he, hp⟩ | ⟨hlt, _⟩
  · exact ⟨by rw [he, List.take_succ_cons, List.take_succ_cons, List.take_zero, num2 a h0 h1], hp⟩
  · have := hr.2.len; simp at this; omega
theorem get32_put (g : Nat) (A : Option Addr) (n c : Nat) (a : Int) (l : List UInt8) (h0 : 0 ≤ a) (h1 : a < 4294967296) (w : World) (hr : RD w g A n c (b8 (a / 16777216) :: b8 (a / 65536) :: b8 (a / 256) :: b8 a :: l)) :
    Calls Try.prog 21 #[.pointer (some ⟨g, 0, none⟩)] w fun e w' => e = .returned (.tuple #[.int .u32 a, .int .i64 0]) ∧ RdPost w g l w' := by
  refine (get32_any g A n c _ w hr).mono fun e w' h => ?_
  rcases h with ⟨_, he, hp⟩ | ⟨hlt, _⟩
  · exact ⟨by rw [he, List.take_succ_cons, List.take_succ_cons, List.take_succ_cons, List.take_succ_cons, List.take_zero, num4 a h0 h1], hp⟩
  · have := hr.2.len; simp at this; omega
end Go.Proofs.Ythhohcagngjfnaa
