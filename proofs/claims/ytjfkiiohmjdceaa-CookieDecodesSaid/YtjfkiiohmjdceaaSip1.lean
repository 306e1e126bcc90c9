/- Package sip and its reference: numbers of 64 bits, turning them to the left, and a round. -/
import Derived.WalkKit
import Derived.WalkSpells
import Derived.KernelRfl
import Derived.Laws.Bits64b
import Derived.Deep.QuietTactic
import Derived.BigQuiet
import Derived.Test.YtjfkiiohmjdceaaProg
import Derived.Test.YtjfkiiohmjdceaaMem
namespace Go.Proofs.Ytjfkiiohmjdceaa
open Go.RowKit
set_option linter.unusedVariables false

theorem wrap_u8 (a : Int) : IntKind.u8.wrap a = a % 256 := by simp [IntKind.wrap, IntKind.signed, IntKind.bits]
theorem ret_int {k : IntKind} {a b : Int} (h : a = b) : Ending.returned (.int k a) = .returned (.int k b) := by rw [h]
theorem lt64 (x : BitVec 64) : x.toNat < 18446744073709551616 := x.isLt
theorem add64 (x y : BitVec 64) : IntKind.u64.wrap ((x.toNat : Int) + (y.toNat : Int)) = ((x + y).toNat : Int) := by
  rw [IntKind.wrap_u64, BitVec.toNat_add]
  omega
theorem sub64 (x y : BitVec 64) : IntKind.u64.wrap ((x.toNat : Int) - (y.toNat : Int)) = ((x - y).toNat : Int) := by
  have hx := lt64 x
  have hy := lt64 y
  rw [IntKind.wrap_u64, BitVec.toNat_sub]
  omega
theorem xor64 (x y : BitVec 64) : bits .xor .u64 (x.toNat : Int) (y.toNat : Int) = ((x ^^^ y).toNat : Int) := by
  rw [bits_xor_u64_nat _ _ (lt64 x) (lt64 y), BitVec.toNat_xor]
theorem or64 (x y : BitVec 64) : bits .or .u64 (x.toNat : Int) (y.toNat : Int) = ((x ||| y).toNat : Int) := by
  rw [bits_or_u64_nat _ _ (lt64 x) (lt64 y), BitVec.toNat_or]
theorem shl64 (x : BitVec 64) (k : Nat) : IntKind.u64.wrap ((x.toNat : Int) * 2 ^ k) = ((x <<< k).toNat : Int) := by
  rw [IntKind.wrap_u64, BitVec.toNat_shiftLeft, Nat.shiftLeft_eq]
  have h : (x.toNat : Int) * 2 ^ k = ((x.toNat * 2 ^ k : Nat) : Int) := by push_cast; rfl
  rw [h]
  omega
theorem shr64 (x : BitVec 64) (k : Nat) : (x.toNat : Int) / 2 ^ k = ((x >>> k).toNat : Int) := by
  rw [BitVec.toNat_ushiftRight, Nat.shiftRight_eq_div_pow]
  push_cast
  rfl
theorem turn64 (x : BitVec 64) (k : Nat) (hk : k < 64) : bits .or .u64 (IntKind.u64.wrap ((x.toNat : Int) * 2 ^ k)) ((x.toNat : Int) / 2 ^ (64 - k)) = ((x.rotateLeft k).toNat : Int) := by
  rw [shl64, shr64, or64, BitVec.rotateLeft_def, Nat.mod_eq_of_lt hk]

theorem rot_any (x : BitVec 64) (k : Nat) (hk : k < 64) (w : World) :
    Calls Try.prog 49 #[.int .u64 (x.toNat : Int), .int .i64 (k : Int)] w fun e w' => e = .returned (.int .u64 ((x.rotateLeft k).toNat : Int)) ∧ w = w' := by
  have h1 : IntKind.u64.wrap (k : Int) = k := by rw [IntKind.wrap_u64]; omega
  have h2 : bits .and .u64 (k : Int) 63 = k := by
    refine (bits_and_u64_nat k 63 (by omega) (by decide)).trans ?_
    rw [show (63 : Nat) = 2 ^ 6 - 1 from rfl, Nat.and_two_pow_sub_one_eq_mod]
    omega
  go_enter Try.func49, Try.ntmps49
  go_wp2_with fail
  go_ret
  exact ⟨ret_int (turn64 x k hk), rfl⟩
theorem rotl_any (x : BitVec 64) (k : Nat) (hk : k < 64) (w : World) :
    Calls Try.prog 47 #[.int .u64 (x.toNat : Int), .int .i64 (k : Int)] w fun e w' => e = .returned (.int .u64 ((x.rotateLeft k).toNat : Int)) ∧ w = w' := by
  have h1 : IntKind.u64.wrap (k : Int) = k := by rw [IntKind.wrap_u64]; omega
  have h2 : IntKind.u64.wrap (64 - (k : Int)) = 64 - (k : Int) := by rw [IntKind.wrap_u64]; omega
  go_enter Try.func47, Try.ntmps47
  go_wp2_with fail
  go_ret
  exact ⟨ret_int (turn64 x k hk), rfl⟩

theorem results_tmp4 {fn : Func} {t u x y : Tmp} (h : fn.results = #[.tmp t, .tmp u, .tmp x, .tmp y]) (tmps : Array Value) (P : Program) (w : World) :
    (results fn tmps).run P w = .ok (.tuple #[tmps.getD t undef, tmps.getD u undef, tmps.getD x undef, tmps.getD y undef]) w := by simp [results, h]
/-- z is x, turned k bits to the left. -/
structure Rot (x : BitVec 64) (k : Int) (z : BitVec 64) : Prop where
  lo : 0 ≤ k
  hi : k < 64
  eq : x.rotateLeft k.toNat = z
theorem rot_at (x z : BitVec 64) (k : Int) (h : Rot x k z) (w : World) :
    Calls Try.prog 49 #[.int .u64 (x.toNat : Int), .int .i64 k] w fun e w' => e = .returned (.int .u64 (z.toNat : Int)) ∧ w = w' := by
  obtain ⟨h1, h2, h3⟩ := h
  obtain ⟨n, rfl⟩ : ∃ n : Nat, k = (n : Int) := ⟨k.toNat, by omega⟩
  have := rot_any x n (by omega) w
  rw [Int.toNat_natCast] at h3
  rw [h3] at this
  exact this
theorem rotl_at (x z : BitVec 64) (k : Int) (h : Rot x k z) (w : World) :
    Calls Try.prog 47 #[.int .u64 (x.toNat : Int), .int .i64 k] w fun e w' => e = .returned (.int .u64 (z.toNat : Int)) ∧ w = w' := by
  obtain ⟨h1, h2, h3⟩ := h
  obtain ⟨n, rfl⟩ : ∃ n : Nat, k = (n : Int) := ⟨k.toNat, by omega⟩
  have := rotl_any x n (by omega) w
  rw [Int.toNat_natCast] at h3
  rw [h3] at this
  exact this

/-- Four numbers. -/
structure V4 where
  a : BitVec 64
  b : BitVec 64
  c : BitVec 64
  d : BitVec 64
/-- A round's first half and its second half. -/
def half (v : V4) : V4 :=
  let a := v.a + v.b
  let b := v.b.rotateLeft 13 ^^^ a
  let c := v.c + v.d
  let d := v.d.rotateLeft 16 ^^^ c
  ⟨a.rotateLeft 32, b, c, d⟩
def half2 (v : V4) : V4 :=
  let a := v.a + v.d
  let d := v.d.rotateLeft 21 ^^^ a
  let c := v.c + v.b
  let b := v.b.rotateLeft 17 ^^^ c
  ⟨a, b, c.rotateLeft 32, d⟩
def rnd (v : V4) : V4 := half2 (half v)
/-- Four numbers as an array's value. -/
def V4.val (v : V4) : Value := .agg #[.int .u64 (v.a.toNat : Int), .int .u64 (v.b.toNat : Int), .int .u64 (v.c.toNat : Int), .int .u64 (v.d.toNat : Int)]
def V4.four (v : V4) : Value := .tuple #[.int .u64 (v.a.toNat : Int), .int .u64 (v.b.toNat : Int), .int .u64 (v.c.toNat : Int), .int .u64 (v.d.toNat : Int)]

/-- The steps of a round, named one by one. -/
structure Steps (a b c d a1 b1 b2 a2 c1 d1 d2 a3 d3 d4 c2 b3 b4 c3 : BitVec 64) : Prop where
  E : Hid (rnd ⟨a, b, c, d⟩ = ⟨a3, b4, c3, d4⟩)
  A1 : IntKind.u64.wrap ((a.toNat : Int) + b.toNat) = a1.toNat
  B1 : Rot b 13 b1
  B2 : bits .xor .u64 (b1.toNat : Int) a1.toNat = b2.toNat
  A2 : Rot a1 32 a2
  C1 : IntKind.u64.wrap ((c.toNat : Int) + d.toNat) = c1.toNat
  D1 : Rot d 16 d1
  D2 : bits .xor .u64 (d1.toNat : Int) c1.toNat = d2.toNat
  A3 : IntKind.u64.wrap ((a2.toNat : Int) + d2.toNat) = a3.toNat
  D3 : Rot d2 21 d3
  D4 : bits .xor .u64 (d3.toNat : Int) a3.toNat = d4.toNat
  C2 : IntKind.u64.wrap ((c1.toNat : Int) + b2.toNat) = c2.toNat
  B3 : Rot b2 17 b3
  B4 : bits .xor .u64 (b3.toNat : Int) c2.toNat = b4.toNat
  C3 : Rot c2 32 c3
theorem steps (a b c d : BitVec 64) : ∃ a1 b1 b2 a2 c1 d1 d2 a3 d3 d4 c2 b3 b4 c3, Steps a b c d a1 b1 b2 a2 c1 d1 d2 a3 d3 d4 c2 b3 b4 c3 := by
  refine ⟨_, _, _, _, _, _, _, _, _, _, _, _, _, _, (show _ = _ from rfl), add64 _ _, ⟨by decide, by decide, rfl⟩, xor64 _ _, ⟨by decide, by decide, rfl⟩, add64 _ _, ⟨by decide, by decide, rfl⟩, xor64 _ _, add64 _ _, ⟨by decide, by decide, rfl⟩, xor64 _ _, add64 _ _, ⟨by decide, by decide, rfl⟩, xor64 _ _, ⟨by decide, by decide, rfl⟩⟩

set_option maxRecDepth 100000 in
theorem refRound_any (a b c d : BitVec 64) (w : World) :
    Calls Try.prog 42 #[.int .u64 (a.toNat : Int), .int .u64 (b.toNat : Int), .int .u64 (c.toNat : Int), .int .u64 (d.toNat : Int)] w fun e w' => e = .returned (rnd ⟨a, b, c, d⟩).four ∧ w = w' := by
  obtain ⟨a1, b1, b2, a2, c1, d1, d2, a3, d3, d4, c2, b3, b4, c3, ⟨E, A1, B1, B2, A2, C1, D1, D2, A3, D3, D4, C2, B3, B4, C3⟩⟩ := steps a b c d
  go_enter Try.func42, Try.ntmps42
  go_wp2_with (go_at_call 47; refine (rotl_at _ _ _ (by assumption) _).mono ?_; rintro e w' ⟨rfl, rfl⟩)
  (try simp only [Exit.inBlock, Exit.then])
  refine bodyPost_ret (results_tmp4 rfl _ _ _) rfl ?_
  rw [E.out]
  exact ⟨rfl, rfl⟩
end Go.Proofs.Ytjfkiiohmjdceaa
