/- The reference: between and one. -/
import Derived.Test.YtapaiknghnbfmaaDoorDU
namespace Go.Proofs.YtapaiknghnbfmaaDoor
open Go.RowKit
set_option linter.unusedVariables false

/-- The octet at k. -/
def octN (s : ByteArray) (k : Nat) : Nat := (s.data.toList.getD k 0).toNat
theorem octN_at (s : ByteArray) (k : Nat) (h : k < s.size) : s[k].toNat = octN s k := by
  unfold octN
  have h' : k < s.data.toList.length := by simpa using h
  rw [List.getD_eq_getElem?_getD, List.getElem?_eq_getElem h']
  rfl
def btw (s : ByteArray) (k lo hi : Nat) : Bool := decide (k < s.size) && decide (lo ≤ octN s k) && decide (octN s k ≤ hi)
theorem between_any (s : ByteArray) (k lo hi : Nat) (hs : s.size ≤ 9223372036854775807) (w : World) : Calls Tryd.prog 77 #[.string s, .int .i64 k, .int .u8 lo, .int .u8 hi] w fun e w' => e = .returned (.bool (btw s k lo hi)) ∧ w = w' := by
  unfold btw
  by_cases h1 : k < s.size
  · have e := octN_at s k h1
    rw [← e, decide_eq_true h1, Bool.true_and]
    by_cases h2 : lo ≤ s[k].toNat
    · rw [decide_eq_true h2, Bool.true_and]
      go_enter Tryd.func77, Tryd.ntmps77
      go_wp2
      go_ret
      exact ⟨by rw [e]; rfl, rfl⟩
    · rw [decide_eq_false h2, Bool.false_and]
      go_enter Tryd.func77, Tryd.ntmps77
      go_wp2
      go_ret
      exact ⟨rfl, rfl⟩
  · rw [decide_eq_false h1, Bool.false_and, Bool.false_and]
    go_enter Tryd.func77, Tryd.ntmps77
    go_wp2
    go_ret
    exact ⟨rfl, rfl⟩
/-- One character's octets, as the reference finds them. -/
def oneB (s : ByteArray) : Nat :=
  if btw s 0 0 127 = true then 1
  else if (btw s 0 194 223 && btw s 1 128 191) = true then 2
  else if btw s 2 128 191 = false then 0
  else if (btw s 0 224 224 && btw s 1 160 191) = true then 3
  else if (btw s 0 237 237 && btw s 1 128 159) = true then 3
  else if ((btw s 0 225 236 || btw s 0 238 239) && btw s 1 128 191) = true then 3
  else if btw s 3 128 191 = false then 0
  else if (btw s 0 240 240 && btw s 1 144 191) = true then 4
  else if (btw s 0 241 243 && btw s 1 128 191) = true then 4
  else if (btw s 0 244 244 && btw s 1 128 143) = true then 4
  else 0
theorem ite_iff {p q : Prop} [Decidable p] [Decidable q] {x y y' : Nat} (h : p ↔ q) (hy : y = y') : (if p then x else y) = if q then x else y' := by
  subst hy
  by_cases hp : p
  · rw [if_pos hp, if_pos (h.1 hp)]
  · rw [if_neg hp, if_neg (fun hq => hp (h.2 hq))]
theorem ite_or2 (p q : Prop) [Decidable p] [Decidable q] (x y : Nat) : (if p ∨ q then x else y) = if p then x else if q then x else y := by
  by_cases hp : p
  · rw [if_pos hp, if_pos (Or.inl hp)]
  · rw [if_neg hp]
    by_cases hq : q
    · rw [if_pos hq, if_pos (Or.inr hq)]
    · rw [if_neg hq, if_neg (by rintro (h | h); exact hp h; exact hq h)]
theorem and_iff2 {c d : Bool} {p q : Prop} (h : c = true ↔ p) (h2 : d = true ↔ q) : (c && d) = true ↔ (p ∧ q) := by
  rw [Bool.and_eq_true]
  exact ⟨fun ⟨x, y⟩ => ⟨h.1 x, h2.1 y⟩, fun ⟨x, y⟩ => ⟨h.2 x, h2.2 y⟩⟩
theorem or_iff2 {c d : Bool} {p q : Prop} (h : c = true ↔ p) (h2 : d = true ↔ q) : (c || d) = true ↔ (p ∨ q) := by
  rw [Bool.or_eq_true]
  exact ⟨fun x => x.elim (fun y => Or.inl (h.1 y)) (fun y => Or.inr (h2.1 y)), fun x => x.elim (fun y => Or.inl (h.2 y)) (fun y => Or.inr (h2.2 y))⟩
theorem not_iff2 {c : Bool} {p : Prop} (h : c = true ↔ p) : c = false ↔ ¬ p := by
  rw [← h]
  cases c <;> simp
theorem oneB_L (s : ByteArray) (h : s.data.toList ≠ []) : oneB s = oneL s.data.toList := by
  have hl : 0 < s.data.toList.length := List.length_pos_iff.2 h
  have hz : s.data.toList.length = s.size := rfl
  rw [hz] at hl
  have B0 : ∀ lo hi, btw s 0 lo hi = true ↔ (lo ≤ (s.data.toList.getD 0 0).toNat ∧ (s.data.toList.getD 0 0).toNat ≤ hi) := fun lo hi => by
    unfold btw octN
    rw [Bool.and_eq_true, Bool.and_eq_true, decide_eq_true_iff, decide_eq_true_iff, decide_eq_true_iff]
    exact ⟨fun ⟨⟨_, y⟩, z⟩ => ⟨y, z⟩, fun ⟨y, z⟩ => ⟨⟨hl, y⟩, z⟩⟩
  have B1 : ∀ k lo hi, btw s k lo hi = true ↔ (k < s.size ∧ lo ≤ (s.data.toList.getD k 0).toNat ∧ (s.data.toList.getD k 0).toNat ≤ hi) := fun k lo hi => by
    unfold btw octN
    rw [Bool.and_eq_true, Bool.and_eq_true, decide_eq_true_iff, decide_eq_true_iff, decide_eq_true_iff]
    exact ⟨fun ⟨⟨x, y⟩, z⟩ => ⟨x, y, z⟩, fun ⟨x, y, z⟩ => ⟨⟨x, y⟩, z⟩⟩
  have E0 : ∀ x, btw s 0 x x = true ↔ (s.data.toList.getD 0 0).toNat = x := fun x => (B0 x x).trans ⟨fun h => Nat.le_antisymm h.2 h.1, fun h => ⟨Nat.le_of_eq h.symm, Nat.le_of_eq h⟩⟩
  unfold oneB oneL oneN
  rw [hz, ite_or2, ite_or2, ite_or2]
  refine ite_iff ?_ (ite_iff ?_ (ite_iff ?_ (ite_iff ?_ (ite_iff ?_ (ite_iff ?_ (ite_iff ?_ (ite_iff ?_ (ite_iff ?_ (ite_iff ?_ rfl)))))))))
  · exact (B0 _ _).trans ⟨fun h => h.2, fun h => ⟨Nat.zero_le _, h⟩⟩
  · exact and_iff2 (B0 _ _) (B1 _ _ _)
  · exact not_iff2 (B1 _ _ _)
  · exact and_iff2 (E0 _) (B1 _ _ _)
  · exact and_iff2 (E0 _) (B1 _ _ _)
  · exact and_iff2 (or_iff2 (B0 _ _) (B0 _ _)) (B1 _ _ _)
  · exact not_iff2 (B1 _ _ _)
  · exact and_iff2 (E0 _) (B1 _ _ _)
  · exact and_iff2 (B0 _ _) (B1 _ _ _)
  · exact and_iff2 (E0 _) (B1 _ _ _)
end Go.Proofs.YtapaiknghnbfmaaDoor
