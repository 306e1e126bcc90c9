/- Package split's reference: whether two messages are the same; whether chunks are few. -/
import Derived.Test.YthpcblbciidmeaaSp1
namespace Go.Proofs.Ythpcblbciidmeaa
open Go.RowKit
set_option linter.unusedVariables false

def MX.msg (x : MX) : Msg := ⟨x.st, x.un, x.pp, x.bs⟩
def sameM (x y : Msg) : Bool := decide (x.st = y.st ∧ x.un = y.un ∧ x.pp = y.pp ∧ x.da = y.da)
theorem sameM_iff {x y : Msg} : sameM x y = true ↔ x = y := by
  unfold sameM
  obtain ⟨a, b, c, d⟩ := x
  obtain ⟨a', b', c', d'⟩ := y
  simp
theorem conv_in (w : World) (A : Option Addr) (n c : Nat) (bs : List UInt8) (h : BS w A n c bs) (S : ByteArray) (hS : S = ⟨bs.toArray⟩) :
    (convert 32 9 (.slice A n c)).run Try.prog w = .ok (.string S) w := by
  have := run_bytes_str (P := Try.prog) w 32 5 Try.underlying32 Try.underlying5 A bs c h.br 9 Try.underlying9
  rw [← h.len, ← hS] at this
  exact this
theorem str_eq {a b : List UInt8} : ((⟨a.toArray⟩ : ByteArray) = ⟨b.toArray⟩) ↔ a = b := by
  constructor
  · intro h
    injection h with h
    simpa using h
  · rintro rfl
    rfl
set_option maxHeartbeats 1000000 in
theorem refSameM_any (x y : MX) (w : World) (hx : MV w x) (hy : MV w y) :
    Calls Try.prog 18 #[.agg x.cells.toArray, .agg y.cells.toArray] w fun e w' => e = .returned (.bool (sameM x.msg y.msg)) ∧ Below w.heap.size w w' := by
  obtain ⟨r, hr⟩ : ∃ r, sameM x.msg y.msg = r := ⟨_, rfl⟩
  rw [hr]
  obtain ⟨xs, xu, xp, ⟨x1, x2, x3⟩, xbs⟩ := x
  obtain ⟨ys, yu, yp, ⟨y1, y2, y3⟩, ybs⟩ := y
  have k1 := fun (X Y : Obj) => conv_in ((w.alloc X).alloc Y) x1 x2 x3 xbs (hx.bs.step (lay2 w X Y)) _ rfl
  have k2 := fun (X Y : Obj) => conv_in ((w.alloc X).alloc Y) y1 y2 y3 ybs (hy.bs.step (lay2 w X Y)) _ rfl
  dsimp only [MX.cells, MX.msg, sameM] at hr ⊢
  clear hx hy
  by_cases h1 : xs = ys
  case neg =>
    obtain rfl : r = false := by rw [← hr]; exact decide_eq_false fun h => h1 h.1
    clear hr
    go_enter Try.func18, Try.ntmps18
    go_wp2_with fail
    all_goals go_ret
    all_goals refine ⟨by first | rfl | (exfalso; simp_all; done), by first | exact lay2 _ _ _ | exact below_drewN (lay2 _ _ _) _⟩
  by_cases h2 : xu = yu
  case neg =>
    obtain rfl : r = false := by rw [← hr]; exact decide_eq_false fun h => h2 h.2.1
    clear hr
    go_enter Try.func18, Try.ntmps18
    go_wp2_with fail
    all_goals go_ret
    all_goals refine ⟨by first | rfl | (exfalso; simp_all; done), by first | exact lay2 _ _ _ | exact below_drewN (lay2 _ _ _) _⟩
  by_cases h3 : xp = yp
  case neg =>
    obtain rfl : r = false := by rw [← hr]; exact decide_eq_false fun h => h3 h.2.2.1
    clear hr
    go_enter Try.func18, Try.ntmps18
    go_wp2_with fail
    all_goals go_ret
    all_goals refine ⟨by first | rfl | (exfalso; simp_all; done), by first | exact lay2 _ _ _ | exact below_drewN (lay2 _ _ _) _⟩
  obtain rfl : r = decide (xbs = ybs) := by rw [← hr]; exact decide_eq_decide.2 ⟨fun h => h.2.2.2, fun h => ⟨h1, h2, h3, h⟩⟩
  clear hr
  subst h1 h2 h3
  go_enter Try.func18, Try.ntmps18
  go_wp2_with fail
  all_goals go_ret
  all_goals refine ⟨ret_bool ?_, by first | exact lay2 _ _ _ | exact below_drewN (lay2 _ _ _) _⟩
  all_goals by_cases hq : xbs = ybs <;> simp_all
end Go.Proofs.Ythpcblbciidmeaa
