/- Contracts of octet.Put8, Put16, Put32, Pad: what stood there, and behind it the number's octets, the highest first, or zeros up to a multiple of four. -/
import Derived.Test.YtaifigmbjcebeaaOct1
namespace Go.Proofs.Ytaifigmbjcebeaa
open Go.RowKit
set_option linter.unusedVariables false

theorem put16_any (A : Option Addr) (n c : Nat) (bs : List UInt8) (v : Int) (h0 : 0 ≤ v) (h1 : v < 65536) (w : World) (ha : BS w A n c bs) (hn : n ≤ 281474976710000) :
    Calls Try.prog 32 #[.slice A n c, .int .u16 v] w (RetB w (bs ++ [b8 (v / 256), b8 v])) := by
  have hl := below_lay w (.cells #[.int .u8 (v / 256), .int .u8 (v % 256)] 5)
  have k := lay_ret A (some ⟨w.heap.size, 0, none⟩) n 2 c 2 bs [b8 (v / 256), b8 (v % 256)] _ (ha.step hl) (BS.laid w 5 [v / 256, v % 256] (by simp; omega)) (by omega)
  rw [b8_mod] at k
  have K := keep k
  clear k
  go_enter Try.func32, Try.ntmps32
  go_wp2_with fail
  refine K.out.mono ?_
  rintro e w1 ⟨A1, n1, c1, rfl, hs1, hb1, ho1⟩
  go_wp2_with fail
  go_ret
  exact ⟨A1, n1, c1, rfl, hs1, up hl hb1, own_mono ho1.out hl.size⟩

/-- Octets filled up to a multiple of four. -/
def padB (bs : List UInt8) : List UInt8 := bs ++ List.replicate ((4 - bs.length % 4) % 4) 0
theorem bc_zeros (n : Nat) : bc (List.replicate n 0) = List.replicate n (.int .u8 0) := by simp [bc]

theorem pad_any (A : Option Addr) (n c : Nat) (bs : List UInt8) (w : World) (ha : BS w A n c bs) (hn : n ≤ 281474976710000) :
    Calls Try.prog 33 #[.slice A n c] w (RetB w (padB bs)) := by
  obtain ⟨i0, hi0, hz0, hz1, hz2⟩ := info_parts u8_info
  go_enter Try.func33, Try.ntmps33
  go_wp2_with (first
   | (at_make; refine wpl_make rfl _ _ 26 rfl 5 i0 (.int .u8 0) Try.underlying26 hi0 hz0 hz1 rfl ((4 - n % 4) % 4) _ rfl rfl rfl (by rw [hz2]; omega) (by unfold maxLen; omega) ?_; intro w1 hg1 hb1 hs1)
   | (go_at_call 42; refine (fillers_any n (by omega) _).mono ?_; rintro e w' ⟨rfl, rfl⟩))
  have hz : BS w1 (some ⟨w.heap.size, 0, none⟩) ((4 - n % 4) % 4) ((4 - n % 4) % 4) (List.replicate ((4 - n % 4) % 4) 0) :=
    ⟨by simp, Nat.le_refl _, BR.row (t := 5) (fr := (0, 0)) (by rw [bc_zeros]; exact hg1.out)⟩
  refine (lay_ret A _ n _ c _ bs _ w1 (ha.step hb1) hz (by omega)).mono ?_
  rintro e w2 ⟨A1, n1, c1, rfl, hs2, hb2, ho2⟩
  go_wp2_with fail
  go_ret
  have h2 := own_mono ho2.out hb1.size
  rw [ha.len] at hs2 h2
  exact ⟨A1, n1, c1, rfl, hs2, up hb1 hb2, h2⟩
end Go.Proofs.Ytaifigmbjcebeaa
