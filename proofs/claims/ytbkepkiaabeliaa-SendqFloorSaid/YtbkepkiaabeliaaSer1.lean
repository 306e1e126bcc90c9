/- Package serial and its reference: what each function answers. -/
import Derived.WalkKit
import Derived.WalkSpells
import Derived.KernelRfl
import Derived.Test.YtbkepkiaabeliaaProg
namespace Go.Proofs.Ytbkepkiaabeliaa
open Go.RowKit
set_option linter.unusedVariables false

/-- The steps from a up to b, going round at m. -/
def dist (m a b : Int) : Int := (b - a) % m
def lessI (m h a b : Int) : Bool := decide (0 < dist m a b ∧ dist m a b < h)
def less32 (a b : Int) : Bool := lessI 4294967296 2147483648 a b
def less16 (a b : Int) : Bool := lessI 65536 32768 a b
def dist32 (a b : Int) : Int := dist 4294967296 a b
def most32 (a b : Int) : Int := if less32 a b = true then b else a
def betw32 (a x b : Int) : Bool := decide (dist32 a x ≤ dist32 a b)

theorem dist32_lo (a b : Int) : 0 ≤ dist32 a b := by unfold dist32 dist; omega
theorem dist32_hi (a b : Int) : dist32 a b < 4294967296 := by unfold dist32 dist; omega

theorem dist16_lo (a b : Int) : 0 ≤ dist 65536 a b := by unfold dist; omega
theorem dist16_hi (a b : Int) : dist 65536 a b < 65536 := by unfold dist; omega
theorem wrap_u32 (a : Int) : IntKind.u32.wrap a = a % 4294967296 := by simp [IntKind.wrap, IntKind.signed, IntKind.bits]
theorem wrap_u16 (a : Int) : IntKind.u16.wrap a = a % 65536 := by simp [IntKind.wrap, IntKind.signed, IntKind.bits]

theorem less_hi {m h a b : Int} {p : Prop} [Decidable p] (h1 : 0 < dist m a b) (hp : p ↔ dist m a b < h) : decide p = lessI m h a b := by
  unfold lessI
  by_cases hh : dist m a b < h
  · rw [decide_eq_true (hp.2 hh), decide_eq_true ⟨h1, hh⟩]
  · rw [decide_eq_false (fun x => hh (hp.1 x)), decide_eq_false (fun x => hh x.2)]
theorem less_no {m h a b : Int} (h1 : ¬ 0 < dist m a b) : false = lessI m h a b := by
  unfold lessI
  rw [decide_eq_false (fun x => h1 x.1)]
theorem betw_of {a x b : Int} {p : Prop} [Decidable p] (hp : p ↔ dist32 a x ≤ dist32 a b) : decide p = betw32 a x b := by
  unfold betw32
  by_cases hh : dist32 a x ≤ dist32 a b
  · rw [decide_eq_true (hp.2 hh), decide_eq_true hh]
  · rw [decide_eq_false (fun x => hh (hp.1 x)), decide_eq_false hh]
theorem ret_bool {a b : Bool} (h : a = b) : Ending.returned (.bool a) = .returned (.bool b) := by rw [h]
theorem ret_int {k : IntKind} {a b : Int} (h : a = b) : Ending.returned (.int k a) = .returned (.int k b) := by rw [h]
theorem steps32_any (a b : Int) (w : World) :
    Calls Try.prog 60 #[.int .u32 a, .int .u32 b] w fun e w' => e = .returned (.int .u32 (dist32 a b)) ∧ w = w' := by
  go_enter Try.func60, Try.ntmps60
  go_wp2_with fail
  go_ret
  simp [dist32, dist]
theorem less32_any (a b : Int) (w : World) :
    Calls Try.prog 51 #[.int .u32 a, .int .u32 b] w fun e w' => e = .returned (.bool (less32 a b)) ∧ w = w' := by
  have l0 := dist32_lo a b
  have l1 := dist32_hi a b
  have hx : bits BinOp.xor IntKind.u32 IntKind.u32.max 0 = 4294967295 := by decide +kernel
  have hd : (4294967295 : Int).tdiv 2 = 2147483647 := by decide +kernel
  go_enter Try.func51, Try.ntmps51
  go_wp2_with (go_at_call 60; refine (steps32_any _ _ _).mono ?_; rintro e w' ⟨rfl, rfl⟩)
  · go_ret
    exact ⟨ret_bool (less_hi (by assumption) Iff.rfl), rfl⟩
  · go_ret
    exact ⟨ret_bool (less_no (by unfold dist32 at *; omega)), rfl⟩
theorem Less_any (a b : Int) (w : World) :
    Calls Try.prog 22 #[.int .u32 a, .int .u32 b] w fun e w' => e = .returned (.bool (less32 a b)) ∧ w = w' := by
  go_enter Try.func22, Try.ntmps22
  go_wp2_with (go_at_call 51; refine (less32_any _ _ _).mono ?_; rintro e w' ⟨rfl, rfl⟩)
  go_ret
  exact ⟨rfl, rfl⟩
theorem Dist_any (a b : Int) (w : World) :
    Calls Try.prog 26 #[.int .u32 a, .int .u32 b] w fun e w' => e = .returned (.int .u32 (dist32 a b)) ∧ w = w' := by
  go_enter Try.func26, Try.ntmps26
  go_wp2_with (go_at_call 60; refine (steps32_any _ _ _).mono ?_; rintro e w' ⟨rfl, rfl⟩)
  go_ret
  exact ⟨rfl, rfl⟩
theorem refsteps_any (a b m : Int) (a0 : 0 ≤ a) (b0 : 0 ≤ b) (a1 : a < m) (b1 : b < m) (m1 : m ≤ 4294967296) (w : World) :
    Calls Try.prog 87 #[.int .i64 a, .int .i64 b, .int .i64 m] w fun e w' => e = .returned (.int .i64 (dist m a b)) ∧ w = w' := by
  have h1 : Hid (a ≤ b → dist m a b = b - a) := fun h => by
    unfold dist
    exact Int.emod_eq_of_lt (by omega) (by omega)
  have h2 : Hid (b < a → dist m a b = b + m - a) := fun h => by
    unfold dist
    rw [show b - a = (b + m - a) - m by omega, Int.sub_emod_right]
    exact Int.emod_eq_of_lt (by omega) (by omega)
  by_cases h : a ≤ b
  · have h3 := h1.out h
    have H3 : Hid (dist m a b = b - a) := h3
    clear h1 h2 h3
    go_enter Try.func87, Try.ntmps87
    go_wp2
    go_ret
    exact ⟨ret_int (by rw [H3.out]), rfl⟩
  · have h3 := h2.out (by omega)
    have H3 : Hid (dist m a b = b + m - a) := h3
    clear h1 h2 h3
    go_enter Try.func87, Try.ntmps87
    go_wp2
    go_ret
    exact ⟨ret_int (by rw [H3.out]), rfl⟩
theorem refDist_any (a b : Int) (a0 : 0 ≤ a) (b0 : 0 ≤ b) (a1 : a < 4294967296) (b1 : b < 4294967296) (w : World) :
    Calls Try.prog 85 #[.int .u32 a, .int .u32 b] w fun e w' => e = .returned (.int .u32 (dist32 a b)) ∧ w = w' := by
  have l0 := dist32_lo a b
  have l1 := dist32_hi a b
  unfold dist32 at *
  go_enter Try.func85, Try.ntmps85
  go_wp2_with (go_at_call 87; refine (refsteps_any _ _ _ (by omega) (by omega) (by omega) (by omega) (by omega) _).mono ?_; rintro e w' ⟨rfl, rfl⟩)
  go_ret
  exact ⟨rfl, rfl⟩
end Go.Proofs.Ytbkepkiaabeliaa
