/- The reference: valid. -/
import Derived.Test.YtapaiknghnbfmaaDoorDVe
import Derived.Lib.ValidAsc
namespace Go.Proofs.YtapaiknghnbfmaaDoor
open Go.RowKit
set_option linter.unusedVariables false

def strL : Value → Nat | .string t => t.size | _ => 0
theorem okT_nil (t : ByteArray) (h : t.size = 0) : okT t = true := by
  unfold okT
  rw [List.length_eq_zero_iff.1 (show t.data.toList.length = 0 from h)]
  exact Lib.validD_nil
theorem okT_next (t : ByteArray) (h : 0 < t.size) : okT t = if oneB t = 0 then false else okT (t.extract (oneB t) t.size) := by
  have hne : t.data.toList ≠ [] := List.length_pos_iff.1 (show 0 < t.data.toList.length from h)
  unfold okT
  rw [Lib.ext_list, oneB_L t hne]
  exact valid_next hne
theorem oneB_le (t : ByteArray) (h : 0 < t.size) : oneB t ≤ t.size := by
  have hne : t.data.toList ≠ [] := List.length_pos_iff.1 (show 0 < t.data.toList.length from h)
  rw [oneB_L t hne]
  exact oneL_le hne
theorem validR_any (s : ByteArray) (hs : s.size ≤ 9223372036854775807) (w : World) : Calls Tryd.prog 64 #[.string s] w fun e w' => e = .returned (.bool (okT s)) ∧ w = w' := by
  have K := keep one_any
  have HS := keep hs
  obtain ⟨ANS, hA⟩ : ∃ a, okT s = a := ⟨_, rfl⟩
  rw [hA]
  have HA := keep hA
  clear hA
  go_enter Tryd.func64, Tryd.ntmps64
  go_wp2
  go_loop [0] (fun v => ∃ t : ByteArray, v = .string t ∧ okT t = ANS ∧ t.size ≤ 9223372036854775807) (fun v => strL v)
  case atStart => exact ⟨s, rfl, HA.out, HS.out⟩
  case round =>
    obtain ⟨t, rfl, hv, hts⟩ := hrel
    by_cases h0 : 0 < t.size
    · have h0z : (0 : Int) < (t.size : Int) := by omega
      have hn := okT_next t h0
      have hle := oneB_le t h0
      obtain ⟨k, hk⟩ : ∃ k, oneB t = k := ⟨_, rfl⟩
      have KT := K.out t hts h0
      rw [hk] at hn hle KT
      have KT := keep KT
      rw [hv] at hn
      clear hv hk
      by_cases hk0 : k = 0
      · subst hk0
        rw [if_pos rfl] at hn
        subst hn
        go_wp2_with (go_at_call 74; refine (KT.out _).mono ?_; rintro e w' ⟨rfl, rfl⟩)
        go_ret
        exact ⟨rfl, rfl⟩
      · rw [if_neg hk0] at hn
        have HN := keep hn
        clear hn
        have hk1 : ¬ ((k : Int) = 0) := by omega
        have hkl : (k : Int) ≤ (t.size : Int) := by omega
        go_wp2_with (go_at_call 74; refine (KT.out _).mono ?_; rintro e w' ⟨rfl, rfl⟩)
        go_round
        case rel => exact ⟨_, rfl, HN.out.symm, by rw [Lib.ext_size]; omega⟩
        case measure => simp only [strL]; rw [Lib.ext_size]; omega
    · have h0z : ¬ ((0 : Int) < (t.size : Int)) := by omega
      have := okT_nil t (by omega)
      rw [hv] at this
      subst this
      go_wp2
      go_ret
      exact ⟨rfl, rfl⟩
end Go.Proofs.YtapaiknghnbfmaaDoor
