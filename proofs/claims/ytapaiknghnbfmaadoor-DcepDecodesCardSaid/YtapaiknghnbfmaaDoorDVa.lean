/- The reference: one; the first octet's range. -/
import Derived.Test.YtapaiknghnbfmaaDoorDV2
namespace Go.Proofs.YtapaiknghnbfmaaDoor
open Go.RowKit
set_option linter.unusedVariables false
set_option linter.unusedSimpArgs false

set_option maxHeartbeats 4000000 in
theorem one_r0 (s : ByteArray) (w : World) (K : Hid (∀ k lo hi : Int, 0 ≤ k ∧ 0 ≤ lo ∧ 0 ≤ hi → ∀ w, Calls Tryd.prog 77 #[.string s, .int .i64 k, .int .u8 lo, .int .u8 hi] w fun e w' => e = .returned (.bool (btwI s k lo hi)) ∧ w = w')) (h0 : btwI s 0 0 127 = true) (h1 : btwI s 0 194 223 = false) (h2 : btwI s 0 224 224 = false) (h3 : btwI s 0 237 237 = false) (h4 : btwI s 0 225 236 = false) (h5 : btwI s 0 238 239 = false) (h6 : btwI s 0 240 240 = false) (h7 : btwI s 0 241 243 = false) (h8 : btwI s 0 244 244 = false) : Calls Tryd.prog 74 #[.string s] w fun e w' => e = .returned (.int .i64 (oneI s : Int)) ∧ w = w' := by
  rw [show oneI s = 1 by unfold oneI; simp [h0, h1, h2, h3, h4, h5, h6, h7, h8]]
  go_enter Tryd.func74, Tryd.ntmps74
  go_wp2_with (go_at_call 77; refine (K.out _ _ _ (by decide) _).mono ?_; rintro e w' ⟨rfl, rfl⟩)
  go_ret
  exact ⟨rfl, rfl⟩
set_option maxHeartbeats 4000000 in
theorem one_r1 (s : ByteArray) (w : World) (K : Hid (∀ k lo hi : Int, 0 ≤ k ∧ 0 ≤ lo ∧ 0 ≤ hi → ∀ w, Calls Tryd.prog 77 #[.string s, .int .i64 k, .int .u8 lo, .int .u8 hi] w fun e w' => e = .returned (.bool (btwI s k lo hi)) ∧ w = w')) (h0 : btwI s 0 0 127 = false) (h1 : btwI s 0 194 223 = true) (h2 : btwI s 0 224 224 = false) (h3 : btwI s 0 237 237 = false) (h4 : btwI s 0 225 236 = false) (h5 : btwI s 0 238 239 = false) (h6 : btwI s 0 240 240 = false) (h7 : btwI s 0 241 243 = false) (h8 : btwI s 0 244 244 = false) : Calls Tryd.prog 74 #[.string s] w fun e w' => e = .returned (.int .i64 (oneI s : Int)) ∧ w = w' := by
  cases hb : btwI s 1 128 191
  · cases hc : btwI s 2 128 191
    · rw [show oneI s = 0 by unfold oneI; simp [h0, h1, h2, h3, h4, h5, h6, h7, h8, hb, hc]]
      go_enter Tryd.func74, Tryd.ntmps74
      go_wp2_with (go_at_call 77; refine (K.out _ _ _ (by decide) _).mono ?_; rintro e w' ⟨rfl, rfl⟩)
      go_ret
      exact ⟨rfl, rfl⟩
    · cases hd : btwI s 3 128 191
      · rw [show oneI s = 0 by unfold oneI; simp [h0, h1, h2, h3, h4, h5, h6, h7, h8, hb, hc, hd]]
        go_enter Tryd.func74, Tryd.ntmps74
        go_wp2_with (go_at_call 77; refine (K.out _ _ _ (by decide) _).mono ?_; rintro e w' ⟨rfl, rfl⟩)
        go_ret
        exact ⟨rfl, rfl⟩
      · rw [show oneI s = 0 by unfold oneI; simp [h0, h1, h2, h3, h4, h5, h6, h7, h8, hb, hc, hd]]
        go_enter Tryd.func74, Tryd.ntmps74
        go_wp2_with (go_at_call 77; refine (K.out _ _ _ (by decide) _).mono ?_; rintro e w' ⟨rfl, rfl⟩)
        go_ret
        exact ⟨rfl, rfl⟩
  · rw [show oneI s = 2 by unfold oneI; simp [h0, h1, h2, h3, h4, h5, h6, h7, h8, hb]]
    go_enter Tryd.func74, Tryd.ntmps74
    go_wp2_with (go_at_call 77; refine (K.out _ _ _ (by decide) _).mono ?_; rintro e w' ⟨rfl, rfl⟩)
    go_ret
    exact ⟨rfl, rfl⟩
set_option maxHeartbeats 4000000 in
theorem one_r9 (s : ByteArray) (w : World) (K : Hid (∀ k lo hi : Int, 0 ≤ k ∧ 0 ≤ lo ∧ 0 ≤ hi → ∀ w, Calls Tryd.prog 77 #[.string s, .int .i64 k, .int .u8 lo, .int .u8 hi] w fun e w' => e = .returned (.bool (btwI s k lo hi)) ∧ w = w')) (h0 : btwI s 0 0 127 = false) (h1 : btwI s 0 194 223 = false) (h2 : btwI s 0 224 224 = false) (h3 : btwI s 0 237 237 = false) (h4 : btwI s 0 225 236 = false) (h5 : btwI s 0 238 239 = false) (h6 : btwI s 0 240 240 = false) (h7 : btwI s 0 241 243 = false) (h8 : btwI s 0 244 244 = false) : Calls Tryd.prog 74 #[.string s] w fun e w' => e = .returned (.int .i64 (oneI s : Int)) ∧ w = w' := by
  cases hc : btwI s 2 128 191
  · rw [show oneI s = 0 by unfold oneI; simp [h0, h1, h2, h3, h4, h5, h6, h7, h8, hc]]
    go_enter Tryd.func74, Tryd.ntmps74
    go_wp2_with (go_at_call 77; refine (K.out _ _ _ (by decide) _).mono ?_; rintro e w' ⟨rfl, rfl⟩)
    go_ret
    exact ⟨rfl, rfl⟩
  · cases hd : btwI s 3 128 191
    · rw [show oneI s = 0 by unfold oneI; simp [h0, h1, h2, h3, h4, h5, h6, h7, h8, hc, hd]]
      go_enter Tryd.func74, Tryd.ntmps74
      go_wp2_with (go_at_call 77; refine (K.out _ _ _ (by decide) _).mono ?_; rintro e w' ⟨rfl, rfl⟩)
      go_ret
      exact ⟨rfl, rfl⟩
    · rw [show oneI s = 0 by unfold oneI; simp [h0, h1, h2, h3, h4, h5, h6, h7, h8, hc, hd]]
      go_enter Tryd.func74, Tryd.ntmps74
      go_wp2_with (go_at_call 77; refine (K.out _ _ _ (by decide) _).mono ?_; rintro e w' ⟨rfl, rfl⟩)
      go_ret
      exact ⟨rfl, rfl⟩
end Go.Proofs.YtapaiknghnbfmaaDoor
