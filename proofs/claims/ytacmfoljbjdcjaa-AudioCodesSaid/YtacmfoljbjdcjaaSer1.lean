/- Package serial and its reference: what each function answers. -/
import Derived.WalkKit
import Derived.WalkSpells
import Derived.KernelRfl
import Derived.Test.YtacmfoljbjdcjaaProg
namespace Go.Proofs.Ytacmfoljbjdcjaa
open Go.RowKit
set_option linter.unusedVariables false

/-- The steps from a up to b, going round at m. -/
def dist (m a b : Int) : Int := (b - a) % m
def lessI (m h a b : Int) : Bool := decide (0 < dist m a b ∧ dist m a b < h)
def less32 (a b : Int) : Bool := lessI 4294967296 2147483648 a b
def less16 (a b : Int) : Bool := lessI 65536 32768 a b
def dist32 (a b : Int) : Int := dist 4294967296 a b
def most32 (a b : Int) : Int := if less32 a b = true then b else a
def betw32 (a x b : Int) : Bool := decide (dist32 a x ≤ dist32 a b)

theorem dist32_lo (a b : Int) : 0 ≤ dist32 a b := by unfold dist32 dist; omega
theorem dist32_hi (a b : Int) : dist32 a b < 4294967296 := by unfold dist32 dist; omega

theorem dist16_lo (a b : Int) : 0 ≤ dist 65536 a b := by unfold dist; omega
theorem dist16_hi (a b : Int) : dist 65536 a b < 65536 := by unfold dist; omega
theorem wrap_u32 (a : Int) : IntKind.u32.wrap a = a % 4294967296 := by simp [IntKind.wrap, IntKind.signed, IntKind.bits]
theorem wrap_u16 (a : Int) : IntKind.u16.wrap a = a % 65536 := by simp [IntKind.wrap, IntKind.signed, IntKind.bits]

theorem less_hi {m h a b : Int} {p : Prop} [Decidable p] (h1 : 0 < dist m a b) (hp : p ↔ dist m a b < h) : decide p = lessI m h a b := by
  unfold lessI
  by_cases hh : dist m a b < h
  · rw [decide_eq_true (hp.2 hh), decide_eq_true ⟨h1, hh⟩]
  · rw [decide_eq_false (fun x => hh (hp.1 x)), decide_eq_false (fun x => hh x.2)]
theorem less_no {m h a b : Int} (h1 : ¬ 0 < dist m a b) : false = lessI m h a b := by
  unfold lessI
  rw [decide_eq_false (fun x => h1 x.1)]
theorem betw_of {a x b : Int} {p : Prop} [Decidable p] (hp : p ↔ dist32 a x ≤ dist32 a b) : decide p = betw32 a x b := by
  unfold betw32
  by_cases hh : dist32 a x ≤ dist32 a b
  · rw [decide_eq_true (hp.2 hh), decide_eq_true hh]
  · rw [decide_eq_false (fun x => hh (hp.1 x)), decide_eq_false hh]
theorem ret_bool {a b : Bool} (h : a = b) : Ending.returned (.bool a) = .returned (.bool b) := by rw [h]
theorem ret_int {k : IntKind} {a b : Int} (h : a = b) : Ending.returned (.int k a) = .returned (.int k b) := by rw [h]
theorem steps16_any (a b : Int) (w : World) :
    Calls Try.prog 50 #[.int .u16 a, .int .u16 b] w fun e w' => e = .returned (.int .u16 (dist 65536 a b)) ∧ w = w' := by
  have h : Hid (IntKind.u16.wrap (b - a) = dist 65536 a b) := wrap_u16 _
  go_enter Try.func50, Try.ntmps50
  go_wp2_with fail
  go_ret
  simp [← h.out]
theorem less16_any (a b : Int) (w : World) :
    Calls Try.prog 49 #[.int .u16 a, .int .u16 b] w fun e w' => e = .returned (.bool (less16 a b)) ∧ w = w' := by
  have l0 := dist16_lo a b
  have l1 := dist16_hi a b
  have hx : bits BinOp.xor IntKind.u16 IntKind.u16.max 0 = 65535 := by decide +kernel
  have hd : (65535 : Int).tdiv 2 = 32767 := by decide +kernel
  go_enter Try.func49, Try.ntmps49
  go_wp2_with (go_at_call 50; refine (steps16_any _ _ _).mono ?_; rintro e w' ⟨rfl, rfl⟩)
  · go_ret
    exact ⟨ret_bool (less_hi (by assumption) (by simp [wrap_u16])), rfl⟩
  · go_ret
    exact ⟨ret_bool (less_no (by omega)), rfl⟩
theorem Less16_any (a b : Int) (w : World) :
    Calls Try.prog 48 #[.int .u16 a, .int .u16 b] w fun e w' => e = .returned (.bool (less16 a b)) ∧ w = w' := by
  go_enter Try.func48, Try.ntmps48
  go_wp2_with (go_at_call 49; refine (less16_any _ _ _).mono ?_; rintro e w' ⟨rfl, rfl⟩)
  go_ret
  exact ⟨rfl, rfl⟩
end Go.Proofs.Ytacmfoljbjdcjaa
