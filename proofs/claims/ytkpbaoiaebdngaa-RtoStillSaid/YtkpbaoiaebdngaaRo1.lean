/- Package rto: bounds by a closure, and whether a number fits. -/
import Derived.Test.YtkpbaoiaebdngaaMem
import Derived.KernelRfl
import Derived.Laws.ResultCell
import Derived.Laws.Rows
import Derived.Deep.Cut
import Derived.BigQuiet
import Derived.Test.YtkpbaoiaebdngaaProg
namespace Go.Proofs.Ytkpbaoiaebdngaa
open Go.RowKit
set_option linter.unusedVariables false

def held (l m n : Int) : Int := max l (min n m)
def inB (m n : Int) : Bool := decide (0 ≤ n ∧ n ≤ m)
theorem held_iff (m n : Int) (hm : 0 ≤ m) : (held 0 m n = n) ↔ (0 ≤ n ∧ n ≤ m) := by unfold held; omega

theorem ret_int {k : IntKind} {a b : Int} (h : a = b) : Ending.returned (.int k a) = .returned (.int k b) := by rw [h]
theorem ret_bool {a b : Bool} (h : a = b) : Ending.returned (.bool a) = .returned (.bool b) := by rw [h]
theorem clo_any (l m n : Int) (g h : Nat) (w : World) (hg : w.cell? ⟨g, 0, none⟩ = some (.int .i64 l)) (hh : w.cell? ⟨h, 0, none⟩ = some (.int .i64 m)) :
    Calls Try.prog 19 #[.int .i64 n, .pointer (some ⟨g, 0, none⟩), .pointer (some ⟨h, 0, none⟩)] w fun e w' => e = .returned (.int .i64 (held l m n)) ∧ w = w' := by
  go_enter Try.func19, Try.ntmps19
  go_wp2_with fail
  all_goals go_ret
  all_goals exact ⟨ret_int (by unfold held; omega), rfl⟩

/-- The function that bounds makes: its two captured numbers. -/
def clo (g h : Nat) : Value := .func (.func 19) #[] #[.pointer (some ⟨g, 0, none⟩), .pointer (some ⟨h, 0, none⟩)]
theorem bounds_any (l m : Int) (w : World) :
    Calls Try.prog 14 #[.int .i64 l, .int .i64 m] w fun e w' => e = .returned (clo w.heap.size (w.heap.size + 1)) ∧ w' = (w.alloc (.cells #[.int .i64 l] 3)).alloc (.cells #[.int .i64 m] 3) := by
  go_enter Try.func14, Try.ntmps14
  go_wp2_with fail
  go_ret
  exact ⟨rfl, rfl⟩
/-- w holds the two numbers of a function that bounds made. -/
def Bd (w : World) (g h : Nat) (l m : Int) : Prop := w.cell? ⟨g, 0, none⟩ = some (.int .i64 l) ∧ w.cell? ⟨h, 0, none⟩ = some (.int .i64 m) ∧ g < w.heap.size ∧ h < w.heap.size
theorem Bd.step {w w' : World} {g h : Nat} {l m : Int} (k : Bd w g h l m) (hb : Below w.heap.size w w') : Bd w' g h l m :=
  ⟨(hb.cell (p := ⟨g, 0, none⟩) k.2.2.1).trans k.1, (hb.cell (p := ⟨h, 0, none⟩) k.2.2.2).trans k.2.1, Nat.lt_of_lt_of_le k.2.2.1 hb.size, Nat.lt_of_lt_of_le k.2.2.2 hb.size⟩
theorem Bounds_any (l m : Int) (w : World) :
    Calls Try.prog 14 #[.int .i64 l, .int .i64 m] w fun e w' => ∃ g h, e = .returned (clo g h) ∧ Bd w' g h l m ∧ Below w.heap.size w w' := by
  refine (bounds_any l m w).mono ?_
  rintro e w' ⟨rfl, rfl⟩
  exact ⟨_, _, rfl, ⟨by simp, by simp, by simp; omega, by simp⟩, (below_lay w _).alloc (by simp) _⟩
theorem waits_any (w : World) :
    Calls Try.prog 17 #[] w fun e w' => ∃ g h, e = .returned (clo g h) ∧ Bd w' g h 1000 60000 ∧ Below w.heap.size w w' := by
  have K := keep (Bounds_any 1000 60000 w)
  go_enter Try.func17, Try.ntmps17
  go_wp2_with (go_at_call 14; refine K.out.mono ?_; rintro e w2 ⟨g, h, rfl, hd, hb⟩; replace hd := keep hd; replace hb := keep hb)
  go_ret
  exact ⟨g, h, rfl, hd.out, hb.out⟩
theorem fits_any (g h : Nat) (m n : Int) (hm : 0 ≤ m) (w : World) (hd : Bd w g h 0 m) :
    Calls Try.prog 15 #[clo g h, .int .i64 n] w fun e w' => e = .returned (.bool (inB m n)) ∧ w = w' := by
  have K := keep (clo_any 0 m n g h w hd.1 hd.2.1)
  have E : decide (held 0 m n = n) = inB m n := by
    unfold inB
    exact decide_eq_decide.2 (held_iff m n hm)
  replace E := keep E
  clear hd hm
  generalize held 0 m n = q at K E
  unfold clo
  go_enter Try.func15, Try.ntmps15
  go_wp2_with (go_at_call 19; refine K.out.mono ?_; rintro e w2 ⟨rfl, rfl⟩)
  go_ret
  exact ⟨by rw [← E.out]; rfl, rfl⟩
end Go.Proofs.Ytkpbaoiaebdngaa
