/- Contracts of octet.Put8, Put16, Put32, Pad: what stood there, and behind it the number's octets, the highest first, or zeros up to a multiple of four. -/
import Derived.Test.YthhohcagngjfnaaOct1
namespace Go.Proofs.Ythhohcagngjfnaa
open Go.RowKit
set_option linter.unusedVariables false

/-- A row of numbers that was just laid. -/
theorem BS.laid (w : World) (t : TypeId) (l : List Int) (h : ∀ n ∈ l, 0 ≤ n ∧ n < 256) : BS (w.alloc (.cells (l.map (Value.int .u8)).toArray t)) (some ⟨w.heap.size, 0, none⟩) l.length l.length (l.map b8) := by
  refine ⟨by simp, Nat.le_refl _, BR.row (t := t) (fr := (0, 0)) ?_⟩
  rw [bc_nums l h]
  exact heap_alloc_new w _
theorem below_lay (w : World) (o : Obj) : Below w.heap.size w (w.alloc o) := (Below.refl _ _).alloc (Nat.le_refl _) o

theorem put8_any (A : Option Addr) (n c : Nat) (bs : List UInt8) (v : Int) (h0 : 0 ≤ v) (h1 : v < 256) (w : World) (ha : BS w A n c bs) (hn : n ≤ 281474976710000) :
    Calls Try.prog 11 #[.slice A n c, .int .u8 v] w (RetB w (bs ++ [b8 v])) := by
  have hl := below_lay w (.cells #[.int .u8 v] 5)
  have k := lay_ret A (some ⟨w.heap.size, 0, none⟩) n 1 c 1 bs [b8 v] _ (ha.step hl) (BS.laid w 5 [v] (by simp; omega)) (by omega)
  have K := keep k
  clear k
  go_enter Try.func11, Try.ntmps11
  go_wp2_with fail
  refine K.out.mono ?_
  rintro e w1 ⟨A1, n1, c1, rfl, hs1, hb1, ho1⟩
  go_wp2_with fail
  go_ret
  exact ⟨A1, n1, c1, rfl, hs1, up hl hb1, own_mono ho1.out hl.size⟩

theorem put16_any (A : Option Addr) (n c : Nat) (bs : List UInt8) (v : Int) (h0 : 0 ≤ v) (h1 : v < 65536) (w : World) (ha : BS w A n c bs) (hn : n ≤ 281474976710000) :
    Calls Try.prog 13 #[.slice A n c, .int .u16 v] w (RetB w (bs ++ [b8 (v / 256), b8 v])) := by
  have hl := below_lay w (.cells #[.int .u8 (v / 256), .int .u8 (v % 256)] 5)
  have k := lay_ret A (some ⟨w.heap.size, 0, none⟩) n 2 c 2 bs [b8 (v / 256), b8 (v % 256)] _ (ha.step hl) (BS.laid w 5 [v / 256, v % 256] (by simp; omega)) (by omega)
  rw [b8_mod] at k
  have K := keep k
  clear k
  go_enter Try.func13, Try.ntmps13
  go_wp2_with fail
  refine K.out.mono ?_
  rintro e w1 ⟨A1, n1, c1, rfl, hs1, hb1, ho1⟩
  go_wp2_with fail
  go_ret
  exact ⟨A1, n1, c1, rfl, hs1, up hl hb1, own_mono ho1.out hl.size⟩

theorem put32_any (A : Option Addr) (n c : Nat) (bs : List UInt8) (v : Int) (h0 : 0 ≤ v) (h1 : v < 4294967296) (w : World) (ha : BS w A n c bs) (hn : n ≤ 281474976710000) :
    Calls Try.prog 14 #[.slice A n c, .int .u32 v] w (RetB w (bs ++ [b8 (v / 16777216), b8 (v / 65536), b8 (v / 256), b8 v])) := by
  have hl := below_lay w (.cells #[.int .u8 (v / 16777216), .int .u8 (v / 65536 % 256), .int .u8 (v / 256 % 256), .int .u8 (v % 256)] 5)
  have k := lay_ret A (some ⟨w.heap.size, 0, none⟩) n 4 c 4 bs [b8 (v / 16777216), b8 (v / 65536 % 256), b8 (v / 256 % 256), b8 (v % 256)] _ (ha.step hl) (BS.laid w 5 [v / 16777216, v / 65536 % 256, v / 256 % 256, v % 256] (by simp; omega)) (by omega)
  rw [b8_mod, b8_mod, b8_mod] at k
  have K := keep k
  clear k
  go_enter Try.func14, Try.ntmps14
  go_wp2_with fail
  refine K.out.mono ?_
  rintro e w1 ⟨A1, n1, c1, rfl, hs1, hb1, ho1⟩
  go_wp2_with fail
  go_ret
  exact ⟨A1, n1, c1, rfl, hs1, up hl hb1, own_mono ho1.out hl.size⟩

/-- Octets filled up to a multiple of four. -/
def padB (bs : List UInt8) : List UInt8 := bs ++ List.replicate ((4 - bs.length % 4) % 4) 0
theorem bc_zeros (n : Nat) : bc (List.replicate n 0) = List.replicate n (.int .u8 0) := by simp [bc]

theorem pad_any (A : Option Addr) (n c : Nat) (bs : List UInt8) (w : World) (ha : BS w A n c bs) (hn : n ≤ 281474976710000) :
    Calls Try.prog 15 #[.slice A n c] w (RetB w (padB bs)) := by
  obtain ⟨i0, hi0, hz0, hz1, hz2⟩ := info_parts u8_info
  go_enter Try.func15, Try.ntmps15
  go_wp2_with (first
   | (at_make; refine wpl_make rfl _ _ 22 rfl 5 i0 (.int .u8 0) Try.underlying22 hi0 hz0 hz1 rfl ((4 - n % 4) % 4) _ rfl rfl rfl (by rw [hz2]; omega) (by unfold maxLen; omega) ?_; intro w1 hg1 hb1 hs1)
   | (go_at_call 28; refine (fillers_any n (by omega) _).mono ?_; rintro e w' ⟨rfl, rfl⟩))
  have hz : BS w1 (some ⟨w.heap.size, 0, none⟩) ((4 - n % 4) % 4) ((4 - n % 4) % 4) (List.replicate ((4 - n % 4) % 4) 0) :=
    ⟨by simp, Nat.le_refl _, BR.row (t := 5) (fr := (0, 0)) (by rw [bc_zeros]; exact hg1.out)⟩
  refine (lay_ret A _ n _ c _ bs _ w1 (ha.step hb1) hz (by omega)).mono ?_
  rintro e w2 ⟨A1, n1, c1, rfl, hs2, hb2, ho2⟩
  go_wp2_with fail
  go_ret
  have h2 := own_mono ho2.out hb1.size
  rw [ha.len] at hs2 h2
  exact ⟨A1, n1, c1, rfl, hs2, up hb1 hb2, h2⟩
end Go.Proofs.Ythhohcagngjfnaa
