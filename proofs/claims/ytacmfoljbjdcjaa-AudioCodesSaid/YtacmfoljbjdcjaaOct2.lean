/- Contracts of octet.Put8, Put16, Put32, Pad: what stood there, and behind it the number's octets, the highest first, or zeros up to a multiple of four. -/
import Derived.Test.YtacmfoljbjdcjaaOct1
namespace Go.Proofs.Ytacmfoljbjdcjaa
open Go.RowKit
set_option linter.unusedVariables false

/-- A row of numbers that was just laid. -/
theorem put8_any (A : Option Addr) (n c : Nat) (bs : List UInt8) (v : Int) (h0 : 0 ≤ v) (h1 : v < 256) (w : World) (ha : BS w A n c bs) (hn : n ≤ 281474976710000) :
    Calls Try.prog 25 #[.slice A n c, .int .u8 v] w (RetB w (bs ++ [b8 v])) := by
  have hl := below_lay w (.cells #[.int .u8 v] 5)
  have k := lay_ret A (some ⟨w.heap.size, 0, none⟩) n 1 c 1 bs [b8 v] _ (ha.step hl) (BS.laid w 5 [v] (by simp; omega)) (by omega)
  have K := keep k
  clear k
  go_enter Try.func25, Try.ntmps25
  go_wp2_with fail
  refine K.out.mono ?_
  rintro e w1 ⟨A1, n1, c1, rfl, hs1, hb1, ho1⟩
  go_wp2_with fail
  go_ret
  exact ⟨A1, n1, c1, rfl, hs1, up hl hb1, own_mono ho1.out hl.size⟩

theorem put16_any (A : Option Addr) (n c : Nat) (bs : List UInt8) (v : Int) (h0 : 0 ≤ v) (h1 : v < 65536) (w : World) (ha : BS w A n c bs) (hn : n ≤ 281474976710000) :
    Calls Try.prog 26 #[.slice A n c, .int .u16 v] w (RetB w (bs ++ [b8 (v / 256), b8 v])) := by
  have hl := below_lay w (.cells #[.int .u8 (v / 256), .int .u8 (v % 256)] 5)
  have k := lay_ret A (some ⟨w.heap.size, 0, none⟩) n 2 c 2 bs [b8 (v / 256), b8 (v % 256)] _ (ha.step hl) (BS.laid w 5 [v / 256, v % 256] (by simp; omega)) (by omega)
  rw [b8_mod] at k
  have K := keep k
  clear k
  go_enter Try.func26, Try.ntmps26
  go_wp2_with fail
  refine K.out.mono ?_
  rintro e w1 ⟨A1, n1, c1, rfl, hs1, hb1, ho1⟩
  go_wp2_with fail
  go_ret
  exact ⟨A1, n1, c1, rfl, hs1, up hl hb1, own_mono ho1.out hl.size⟩

theorem put32_any (A : Option Addr) (n c : Nat) (bs : List UInt8) (v : Int) (h0 : 0 ≤ v) (h1 : v < 4294967296) (w : World) (ha : BS w A n c bs) (hn : n ≤ 281474976710000) :
    Calls Try.prog 27 #[.slice A n c, .int .u32 v] w (RetB w (bs ++ [b8 (v / 16777216), b8 (v / 65536), b8 (v / 256), b8 v])) := by
  have hl := below_lay w (.cells #[.int .u8 (v / 16777216), .int .u8 (v / 65536 % 256), .int .u8 (v / 256 % 256), .int .u8 (v % 256)] 5)
  have k := lay_ret A (some ⟨w.heap.size, 0, none⟩) n 4 c 4 bs [b8 (v / 16777216), b8 (v / 65536 % 256), b8 (v / 256 % 256), b8 (v % 256)] _ (ha.step hl) (BS.laid w 5 [v / 16777216, v / 65536 % 256, v / 256 % 256, v % 256] (by simp; omega)) (by omega)
  rw [b8_mod, b8_mod, b8_mod] at k
  have K := keep k
  clear k
  go_enter Try.func27, Try.ntmps27
  go_wp2_with fail
  refine K.out.mono ?_
  rintro e w1 ⟨A1, n1, c1, rfl, hs1, hb1, ho1⟩
  go_wp2_with fail
  go_ret
  exact ⟨A1, n1, c1, rfl, hs1, up hl hb1, own_mono ho1.out hl.size⟩

/-- Octets filled up to a multiple of four. -/
def padB (bs : List UInt8) : List UInt8 := bs ++ List.replicate ((4 - bs.length % 4) % 4) 0
theorem bc_zeros (n : Nat) : bc (List.replicate n 0) = List.replicate n (.int .u8 0) := by simp [bc]

end Go.Proofs.Ytacmfoljbjdcjaa
