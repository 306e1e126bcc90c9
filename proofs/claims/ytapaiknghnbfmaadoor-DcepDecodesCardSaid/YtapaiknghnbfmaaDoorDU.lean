/- UTF-8: the document's way and the library's are one. -/
import Derived.Test.YtapaiknghnbfmaaDoorD1
import Derived.Lib.ValidLaws
namespace Go.Proofs.YtapaiknghnbfmaaDoor
open Go.RowKit Go.Lib
set_option linter.unusedVariables false

/-- How many octets the character has with which octets begin; 0: with none. -/
def oneN (n a b c d : Nat) : Nat :=
  if a ≤ 127 then 1
  else if (194 ≤ a ∧ a ≤ 223) ∧ (1 < n ∧ 128 ≤ b ∧ b ≤ 191) then 2
  else if ¬ (2 < n ∧ 128 ≤ c ∧ c ≤ 191) then 0
  else if (a = 224 ∧ (1 < n ∧ 160 ≤ b ∧ b ≤ 191)) ∨ (a = 237 ∧ (1 < n ∧ 128 ≤ b ∧ b ≤ 159)) then 3
  else if ((225 ≤ a ∧ a ≤ 236) ∨ (238 ≤ a ∧ a ≤ 239)) ∧ (1 < n ∧ 128 ≤ b ∧ b ≤ 191) then 3
  else if ¬ (3 < n ∧ 128 ≤ d ∧ d ≤ 191) then 0
  else if (a = 240 ∧ (1 < n ∧ 144 ≤ b ∧ b ≤ 191)) ∨ ((241 ≤ a ∧ a ≤ 243) ∧ (1 < n ∧ 128 ≤ b ∧ b ≤ 191)) ∨ (a = 244 ∧ (1 < n ∧ 128 ≤ b ∧ b ≤ 143)) then 4
  else 0
theorem decode_one (n a b c d : Nat) (ha : a < 256) (hb : b < 256) (hc : c < 256) (hd : d < 256) :
    (oneN n a b c d = 0 → decodeN n a b c d = (65533, 1)) ∧ (oneN n a b c d ≠ 0 → (decodeN n a b c d).2 = oneN n a b c d ∧ ¬ ((decodeN n a b c d).1 = 65533 ∧ (decodeN n a b c d).2 = 1)) := by
  unfold oneN decodeN
  by_cases h1 : a ≤ 127
  · rw [if_pos h1, if_pos (show a < 128 by omega)]
    exact ⟨fun h => by omega, fun _ => ⟨rfl, fun h => by have := h.1; dsimp only at this; omega⟩⟩
  rw [if_neg h1, if_neg (show ¬ a < 128 by omega)]
  by_cases h2 : (194 ≤ a ∧ a ≤ 223) ∧ (1 < n ∧ 128 ≤ b ∧ b ≤ 191)
  · rw [if_pos h2, if_pos (show a / 32 = 6 ∧ (1 < n ∧ b / 64 = 2) by omega), if_pos (show a % 32 * 64 + b % 64 ≥ 128 by omega)]
    exact ⟨fun h => by omega, fun _ => ⟨rfl, fun h => by have := h.2; dsimp only at this; omega⟩⟩
  rw [if_neg h2]
  by_cases g2 : a / 32 = 6 ∧ (1 < n ∧ b / 64 = 2)
  · rw [if_pos g2, if_neg (show ¬ (a % 32 * 64 + b % 64 ≥ 128) by omega)]
    by_cases h3 : ¬ (2 < n ∧ 128 ≤ c ∧ c ≤ 191)
    · rw [if_pos h3]
      exact ⟨fun _ => rfl, fun h => absurd rfl h⟩
    rw [if_neg h3, if_neg (show ¬ ((a = 224 ∧ (1 < n ∧ 160 ≤ b ∧ b ≤ 191)) ∨ (a = 237 ∧ (1 < n ∧ 128 ≤ b ∧ b ≤ 159))) by omega), if_neg (show ¬ (((225 ≤ a ∧ a ≤ 236) ∨ (238 ≤ a ∧ a ≤ 239)) ∧ (1 < n ∧ 128 ≤ b ∧ b ≤ 191)) by omega)]
    by_cases h6 : ¬ (3 < n ∧ 128 ≤ d ∧ d ≤ 191)
    · rw [if_pos h6]
      exact ⟨fun _ => rfl, fun h => absurd rfl h⟩
    rw [if_neg h6, if_neg (show ¬ ((a = 240 ∧ (1 < n ∧ 144 ≤ b ∧ b ≤ 191)) ∨ ((241 ≤ a ∧ a ≤ 243) ∧ (1 < n ∧ 128 ≤ b ∧ b ≤ 191)) ∨ (a = 244 ∧ (1 < n ∧ 128 ≤ b ∧ b ≤ 143))) by omega)]
    exact ⟨fun _ => rfl, fun h => absurd rfl h⟩
  rw [if_neg g2]
  by_cases h3 : ¬ (2 < n ∧ 128 ≤ c ∧ c ≤ 191)
  · rw [if_pos h3, if_neg (show ¬ (a / 16 = 14 ∧ (1 < n ∧ b / 64 = 2) ∧ (2 < n ∧ c / 64 = 2)) by omega), if_neg (show ¬ (a / 8 = 30 ∧ (1 < n ∧ b / 64 = 2) ∧ (2 < n ∧ c / 64 = 2) ∧ (3 < n ∧ d / 64 = 2)) by omega)]
    exact ⟨fun _ => rfl, fun h => absurd rfl h⟩
  rw [if_neg h3]
  by_cases g3 : a / 16 = 14 ∧ (1 < n ∧ b / 64 = 2) ∧ (2 < n ∧ c / 64 = 2)
  · rw [if_pos g3]
    by_cases h4 : (a = 224 ∧ (1 < n ∧ 160 ≤ b ∧ b ≤ 191)) ∨ (a = 237 ∧ (1 < n ∧ 128 ≤ b ∧ b ≤ 159))
    · rw [if_pos h4, if_pos (show a % 16 * 4096 + b % 64 * 64 + c % 64 ≥ 2048 ∧ (a % 16 * 4096 + b % 64 * 64 + c % 64 < 55296 ∨ (57344 ≤ a % 16 * 4096 + b % 64 * 64 + c % 64 ∧ a % 16 * 4096 + b % 64 * 64 + c % 64 ≤ 1114111)) by omega)]
      exact ⟨fun h => by omega, fun _ => ⟨rfl, fun h => by have := h.2; dsimp only at this; omega⟩⟩
    rw [if_neg h4]
    by_cases h5 : ((225 ≤ a ∧ a ≤ 236) ∨ (238 ≤ a ∧ a ≤ 239)) ∧ (1 < n ∧ 128 ≤ b ∧ b ≤ 191)
    · rw [if_pos h5, if_pos (show a % 16 * 4096 + b % 64 * 64 + c % 64 ≥ 2048 ∧ (a % 16 * 4096 + b % 64 * 64 + c % 64 < 55296 ∨ (57344 ≤ a % 16 * 4096 + b % 64 * 64 + c % 64 ∧ a % 16 * 4096 + b % 64 * 64 + c % 64 ≤ 1114111)) by omega)]
      exact ⟨fun h => by omega, fun _ => ⟨rfl, fun h => by have := h.2; dsimp only at this; omega⟩⟩
    rw [if_neg h5, if_neg (show ¬ (a % 16 * 4096 + b % 64 * 64 + c % 64 ≥ 2048 ∧ (a % 16 * 4096 + b % 64 * 64 + c % 64 < 55296 ∨ (57344 ≤ a % 16 * 4096 + b % 64 * 64 + c % 64 ∧ a % 16 * 4096 + b % 64 * 64 + c % 64 ≤ 1114111))) by omega)]
    by_cases h6 : ¬ (3 < n ∧ 128 ≤ d ∧ d ≤ 191)
    · rw [if_pos h6]
      exact ⟨fun _ => rfl, fun h => absurd rfl h⟩
    rw [if_neg h6, if_neg (show ¬ ((a = 240 ∧ (1 < n ∧ 144 ≤ b ∧ b ≤ 191)) ∨ ((241 ≤ a ∧ a ≤ 243) ∧ (1 < n ∧ 128 ≤ b ∧ b ≤ 191)) ∨ (a = 244 ∧ (1 < n ∧ 128 ≤ b ∧ b ≤ 143))) by omega)]
    exact ⟨fun _ => rfl, fun h => absurd rfl h⟩
  rw [if_neg g3, if_neg (show ¬ ((a = 224 ∧ (1 < n ∧ 160 ≤ b ∧ b ≤ 191)) ∨ (a = 237 ∧ (1 < n ∧ 128 ≤ b ∧ b ≤ 159))) by omega), if_neg (show ¬ (((225 ≤ a ∧ a ≤ 236) ∨ (238 ≤ a ∧ a ≤ 239)) ∧ (1 < n ∧ 128 ≤ b ∧ b ≤ 191)) by omega)]
  by_cases h6 : ¬ (3 < n ∧ 128 ≤ d ∧ d ≤ 191)
  · rw [if_pos h6, if_neg (show ¬ (a / 8 = 30 ∧ (1 < n ∧ b / 64 = 2) ∧ (2 < n ∧ c / 64 = 2) ∧ (3 < n ∧ d / 64 = 2)) by omega)]
    exact ⟨fun _ => rfl, fun h => absurd rfl h⟩
  rw [if_neg h6]
  by_cases h7 : (a = 240 ∧ (1 < n ∧ 144 ≤ b ∧ b ≤ 191)) ∨ ((241 ≤ a ∧ a ≤ 243) ∧ (1 < n ∧ 128 ≤ b ∧ b ≤ 191)) ∨ (a = 244 ∧ (1 < n ∧ 128 ≤ b ∧ b ≤ 143))
  · rw [if_pos h7, if_pos (show a / 8 = 30 ∧ (1 < n ∧ b / 64 = 2) ∧ (2 < n ∧ c / 64 = 2) ∧ (3 < n ∧ d / 64 = 2) by omega), if_pos (show a % 8 * 262144 + b % 64 * 4096 + c % 64 * 64 + d % 64 ≥ 65536 ∧ (a % 8 * 262144 + b % 64 * 4096 + c % 64 * 64 + d % 64 < 55296 ∨ (57344 ≤ a % 8 * 262144 + b % 64 * 4096 + c % 64 * 64 + d % 64 ∧ a % 8 * 262144 + b % 64 * 4096 + c % 64 * 64 + d % 64 ≤ 1114111)) by omega)]
    exact ⟨fun h => by omega, fun _ => ⟨rfl, fun h => by have := h.2; dsimp only at this; omega⟩⟩
  rw [if_neg h7]
  by_cases g4 : a / 8 = 30 ∧ (1 < n ∧ b / 64 = 2) ∧ (2 < n ∧ c / 64 = 2) ∧ (3 < n ∧ d / 64 = 2)
  · rw [if_pos g4, if_neg (show ¬ (a % 8 * 262144 + b % 64 * 4096 + c % 64 * 64 + d % 64 ≥ 65536 ∧ (a % 8 * 262144 + b % 64 * 4096 + c % 64 * 64 + d % 64 < 55296 ∨ (57344 ≤ a % 8 * 262144 + b % 64 * 4096 + c % 64 * 64 + d % 64 ∧ a % 8 * 262144 + b % 64 * 4096 + c % 64 * 64 + d % 64 ≤ 1114111))) by omega)]
    exact ⟨fun _ => rfl, fun h => absurd rfl h⟩
  · rw [if_neg g4]
    exact ⟨fun _ => rfl, fun h => absurd rfl h⟩
def oneL (l : List UInt8) : Nat := oneN l.length (l.getD 0 0).toNat (l.getD 1 0).toNat (l.getD 2 0).toNat (l.getD 3 0).toNat
theorem valid_next {l : List UInt8} (hne : l ≠ []) : validD l = if oneL l = 0 then false else validD (l.drop (oneL l)) := by
  have h := decode_one l.length (l.getD 0 0).toNat (l.getD 1 0).toNat (l.getD 2 0).toNat (l.getD 3 0).toNat (UInt8.toNat_lt _) (UInt8.toNat_lt _) (UInt8.toNat_lt _) (UInt8.toNat_lt _)
  rw [validD_step l hne, decodeL_N]
  unfold oneL
  by_cases h0 : oneN l.length (l.getD 0 0).toNat (l.getD 1 0).toNat (l.getD 2 0).toNat (l.getD 3 0).toNat = 0
  · rw [if_pos h0, h.1 h0]
    rfl
  · obtain ⟨h1, h2⟩ := h.2 h0
    rw [if_neg h2, if_neg h0, h1]
theorem oneL_le {l : List UInt8} (hne : l ≠ []) : oneL l ≤ l.length := by
  have hl : 0 < l.length := List.length_pos_iff.2 hne
  unfold oneL oneN
  split
  · omega
  split
  · omega
  split
  · omega
  split
  · omega
  split
  · omega
  split
  · omega
  split
  · omega
  · omega
end Go.Proofs.YtapaiknghnbfmaaDoor
