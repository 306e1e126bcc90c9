/- The reference: one. -/
import Derived.Test.YtapaiknghnbfmaaDoorDVa
import Derived.Test.YtapaiknghnbfmaaDoorDVb
import Derived.Test.YtapaiknghnbfmaaDoorDVc
import Derived.Test.YtapaiknghnbfmaaDoorDVd
namespace Go.Proofs.YtapaiknghnbfmaaDoor
open Go.RowKit
set_option linter.unusedVariables false

theorem one_any (s : ByteArray) (hs : s.size ≤ 9223372036854775807) (h0 : 0 < s.size) (w : World) : Calls Tryd.prog 74 #[.string s] w fun e w' => e = .returned (.int .i64 (oneB s : Int)) ∧ w = w' := by
  rw [← oneI_B]
  have K := keep (betweenI s hs)
  have T : ∀ lo hi : Nat, lo ≤ octN s 0 ∧ octN s 0 ≤ hi → btw s 0 lo hi = true := fun lo hi h => by
    unfold btw
    rw [decide_eq_true h0, decide_eq_true h.1, decide_eq_true h.2]
    rfl
  have F : ∀ lo hi : Nat, ¬ (lo ≤ octN s 0 ∧ octN s 0 ≤ hi) → btw s 0 lo hi = false := fun lo hi h => by
    unfold btw
    rw [decide_eq_true h0, Bool.true_and]
    by_cases h1 : lo ≤ octN s 0
    · rw [decide_eq_true h1, decide_eq_false (show ¬ octN s 0 ≤ hi from fun h2 => h ⟨h1, h2⟩)]
      rfl
    · rw [decide_eq_false h1]
      rfl
  by_cases xr0 : 0 ≤ octN s 0 ∧ octN s 0 ≤ 127
  · exact one_r0 s w K (T 0 127 (by omega)) (F 194 223 (by omega)) (F 224 224 (by omega)) (F 237 237 (by omega)) (F 225 236 (by omega)) (F 238 239 (by omega)) (F 240 240 (by omega)) (F 241 243 (by omega)) (F 244 244 (by omega))
  by_cases xr1 : 194 ≤ octN s 0 ∧ octN s 0 ≤ 223
  · exact one_r1 s w K (F 0 127 (by omega)) (T 194 223 (by omega)) (F 224 224 (by omega)) (F 237 237 (by omega)) (F 225 236 (by omega)) (F 238 239 (by omega)) (F 240 240 (by omega)) (F 241 243 (by omega)) (F 244 244 (by omega))
  by_cases xr2 : 224 ≤ octN s 0 ∧ octN s 0 ≤ 224
  · exact one_r2 s w K (F 0 127 (by omega)) (F 194 223 (by omega)) (T 224 224 (by omega)) (F 237 237 (by omega)) (F 225 236 (by omega)) (F 238 239 (by omega)) (F 240 240 (by omega)) (F 241 243 (by omega)) (F 244 244 (by omega))
  by_cases xr3 : 237 ≤ octN s 0 ∧ octN s 0 ≤ 237
  · exact one_r3 s w K (F 0 127 (by omega)) (F 194 223 (by omega)) (F 224 224 (by omega)) (T 237 237 (by omega)) (F 225 236 (by omega)) (F 238 239 (by omega)) (F 240 240 (by omega)) (F 241 243 (by omega)) (F 244 244 (by omega))
  by_cases xr4 : 225 ≤ octN s 0 ∧ octN s 0 ≤ 236
  · exact one_r4 s w K (F 0 127 (by omega)) (F 194 223 (by omega)) (F 224 224 (by omega)) (F 237 237 (by omega)) (T 225 236 (by omega)) (F 238 239 (by omega)) (F 240 240 (by omega)) (F 241 243 (by omega)) (F 244 244 (by omega))
  by_cases xr5 : 238 ≤ octN s 0 ∧ octN s 0 ≤ 239
  · exact one_r5 s w K (F 0 127 (by omega)) (F 194 223 (by omega)) (F 224 224 (by omega)) (F 237 237 (by omega)) (F 225 236 (by omega)) (T 238 239 (by omega)) (F 240 240 (by omega)) (F 241 243 (by omega)) (F 244 244 (by omega))
  by_cases xr6 : 240 ≤ octN s 0 ∧ octN s 0 ≤ 240
  · exact one_r6 s w K (F 0 127 (by omega)) (F 194 223 (by omega)) (F 224 224 (by omega)) (F 237 237 (by omega)) (F 225 236 (by omega)) (F 238 239 (by omega)) (T 240 240 (by omega)) (F 241 243 (by omega)) (F 244 244 (by omega))
  by_cases xr7 : 241 ≤ octN s 0 ∧ octN s 0 ≤ 243
  · exact one_r7 s w K (F 0 127 (by omega)) (F 194 223 (by omega)) (F 224 224 (by omega)) (F 237 237 (by omega)) (F 225 236 (by omega)) (F 238 239 (by omega)) (F 240 240 (by omega)) (T 241 243 (by omega)) (F 244 244 (by omega))
  by_cases xr8 : 244 ≤ octN s 0 ∧ octN s 0 ≤ 244
  · exact one_r8 s w K (F 0 127 (by omega)) (F 194 223 (by omega)) (F 224 224 (by omega)) (F 237 237 (by omega)) (F 225 236 (by omega)) (F 238 239 (by omega)) (F 240 240 (by omega)) (F 241 243 (by omega)) (T 244 244 (by omega))
  exact one_r9 s w K (F 0 127 (by omega)) (F 194 223 (by omega)) (F 224 224 (by omega)) (F 237 237 (by omega)) (F 225 236 (by omega)) (F 238 239 (by omega)) (F 240 240 (by omega)) (F 241 243 (by omega)) (F 244 244 (by omega))
end Go.Proofs.YtapaiknghnbfmaaDoor
