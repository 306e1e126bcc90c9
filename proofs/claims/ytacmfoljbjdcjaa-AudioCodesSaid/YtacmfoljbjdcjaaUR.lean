/- Contracts of the document's answers for layer 1: Put, Pad, Get, Bytes, Unpad. -/
import Derived.Test.YtacmfoljbjdcjaaRd5
import Derived.Deep.QuietTactic
import Derived.BigQuiet
namespace Go.Proofs.Ytacmfoljbjdcjaa
open Go.RowKit
set_option linter.unusedVariables false
set_option maxRecDepth 8000

/-- The first j of a number's k octets, the highest first. -/
def octs (v : Int) (k j : Nat) : List UInt8 := (List.range j).map fun i => b8 (v / 2 ^ (8 * (k - 1 - i)))
theorem octs_succ (v : Int) (k j : Nat) : octs v k (j + 1) = octs v k j ++ [b8 (v / 2 ^ (8 * (k - 1 - j)))] := by simp [octs, List.range_succ]
theorem octs_zero (v : Int) (k : Nat) : octs v k 0 = [] := rfl

theorem refput_any (A : Option Addr) (n c : Nat) (bs : List UInt8) (v : Int) (h0 : 0 ≤ v) (h1 : v < 4294967296) (k : Nat) (hk : k ≤ 4) (w : World) (ha : BS w A n c bs) (hn : n ≤ 140737488355300) :
    Calls Try.prog 28 #[.slice A n c, .int .u32 v, .int .i64 (k : Int)] w (RetB w (bs ++ octs v k k)) := by
  obtain ⟨i0, hi0, hz0, hz1, hz2⟩ := info_parts u8_info
  have hl : n = (bc bs).length := by rw [bc_length, ha.len]
  have HL := keep hl
  clear hl
  go_enter Try.func28, Try.ntmps28
  go_wp2_with (at_builtin; refine wpl_append rfl (.tmp 9) (.tmp 10) 24 rfl w.heap.size 5 i0 (.int .u8 0) Try.underlying24 hi0 hz0 hz1 rfl (.slice none 0 0) 0 [] rfl (World.ownsRow_nil _ _ _ _) A n c (bc bs) rfl HL.out ha.br.sr (bc_one bs) (by unfold maxLen; omega) (by rw [hz2]; omega) (Nat.le_refl _) ?_; intro A1 c1 w1 ho1 hb1)
  go_loopw [7, 8] (fun o i wr => ∃ j : Nat, j ≤ k ∧ i = .int .i64 ((k : Int) - 1 - j) ∧ (∃ A' c', o = .slice A' (n + j) c' ∧ Hid (wr.ownsRow w.heap.size 5 1 (.slice A' (n + j) c') (n + j) (bc (bs ++ octs v k j)))) ∧ Below w.heap.size w wr) (fun _ i _ => (intOf i + 1).toNat)
  case atStart => 
    refine ⟨0, Nat.zero_le _, by simp, ⟨A1, c1, rfl, ?_⟩, hb1⟩
    have := ho1.out
    rw [Nat.zero_add, List.nil_append] at this
    rw [octs_zero, List.append_nil]
    exact this
  case round =>
    obtain ⟨j, hj, rfl, ⟨A', c', rfl, HO⟩, hB⟩ := hrel
    by_cases hlt : j < k
    · have hsz := hB.size
      have HN := keep (BS.laid wr 5 [v / 2 ^ (8 * (k - 1 - j)) % 256] (by intro x hx; simp only [List.mem_singleton] at hx; subst hx; omega))
      go_wp2_with (at_builtin; refine wpl_append rfl (.tmp 18) (.tmp 25) 24 rfl w.heap.size 5 i0 (.int .u8 0) Try.underlying24 hi0 hz0 hz1 rfl _ (n + j) _ rfl (HO.out.alloc _) _ 1 1 _ rfl (by rw [bc_length]; rfl) HN.out.br.sr (bc_one _) (by unfold maxLen; omega) (by rw [hz2]; omega) (by simp; omega) ?_; intro A2 c2 w2 ho2 hb2)
      go_roundw
      case rel =>
        refine ⟨j + 1, by omega, by go_num, ⟨A2, c2, rfl, ?_⟩, (hB.alloc hB.size _).trans hb2⟩
        have := ho2.out
        rw [← bc_append, List.append_assoc, List.map_cons, List.map_nil, b8_mod, ← octs_succ] at this
        exact this
      case measure => simp [intOf]; omega
    · obtain rfl : k = j := by omega
      go_wp2_with fail
      go_ret
      exact ⟨A', n + k, c', rfl, BS.of_own HO.out, hB, HO⟩

/-- How many elements a slice has. -/
def lenOf : Value → Nat | .slice _ n _ => n | _ => 0
theorem mod4 (n m : Nat) (h : m ≤ (4 - n % 4) % 4) : ((n + m) % 4 = 0) ↔ m = (4 - n % 4) % 4 := by omega
/-- b[k:] of the model, at whatever cut. -/
theorem BS.cut {w : World} {A X : Option Addr} {n c : Nat} {bs : List UInt8} (h : BS w A n c bs) (k : Nat) (hk : k ≤ n) (hX : (c = k → X = A) ∧ (c ≠ k → X = A.map (·.add k))) : BS w X (n - k) (c - k) (bs.drop k) := by
  have := h.drop k hk
  by_cases e : c = k
  · rw [if_pos e] at this
    rw [hX.1 e]
    exact this
  · rw [if_neg e] at this
    rw [hX.2 e]
    exact this

def CutPost (w : World) (k n : Nat) (bs : List UInt8) (e : Ending) (w' : World) : Prop :=
  ∃ A1 c1 A2 c2 m, e = .returned (.tuple #[.slice A1 k c1, .slice A2 (n - k) c2, .int .i64 0]) ∧ BS w' A1 k c1 (bs.take k) ∧ BS w' A2 (n - k) c2 (bs.drop k) ∧ w' = w.drewN m
theorem BS.drewN {w : World} {A : Option Addr} {n c : Nat} {bs : List UInt8} (h : BS w A n c bs) (k : Nat) : BS (w.drewN k) A n c bs := h
theorem below_drewNr (B : Nat) (w : World) (n : Nat) : Below B w (w.drewN n) := ⟨rfl, rfl, rfl, Nat.le_refl _, fun _ _ => rfl⟩
/-- What the document's Get answers: the number of the next k octets, and the rest. -/
def GetPost (w : World) (k n : Nat) (bs : List UInt8) (e : Ending) (w' : World) : Prop :=
  ∃ X d m, e = .returned (.tuple #[.int .u32 (numB (bs.take k)), .slice X (n - k) d, .int .i64 0]) ∧ BS w' X (n - k) d (bs.drop k) ∧ w' = w.drewN m
theorem refget_short (A : Option Addr) (n c : Nat) (k : Nat) (hk : n < k) (w : World) :
    Calls Try.prog 35 #[.slice A n c, .int .i64 (k : Int)] w fun e w' => e = .returned (.tuple #[.int .u32 0, .slice A n c, .int .i64 2]) ∧ w = w' := by
  go_enter Try.func35, Try.ntmps35
  go_wp2_with fail
  go_ret3
  exact ⟨rfl, rfl⟩
theorem refget_some (A : Option Addr) (n c : Nat) (bs : List UInt8) (k : Nat) (hk0 : 0 < k) (hk4 : k ≤ 4) (hk : k ≤ n) (w : World) (ha : BS w A n c bs) :
    Calls Try.prog 35 #[.slice A n c, .int .i64 (k : Int)] w (GetPost w k n bs) := by
  have HL := keep ha.len
  have HA := keep ha.br
  have hcap := ha.cap
  have HC := keep (ha.drop k hk)
  obtain ⟨b, o, rfl, hlt, _⟩ := ha.br.at_ (j := 0) (by have := ha.len; omega)
  go_enter Try.func35, Try.ntmps35
  go_wp2_with fail
  go_loop [7, 8] (fun v i => ∃ j : Nat, j ≤ k ∧ i = .int .i64 j ∧ v = .int .u32 (numB (bs.take j))) (fun _ i => k - (intOf i).toNat)
  case atStart => exact ⟨0, Nat.zero_le _, rfl, rfl⟩
  case round =>
    obtain ⟨j, hj, rfl, rfl⟩ := hrel
    by_cases hlt : j < k
    · have hjb : j < bs.length := by have := HL.out; omega
      obtain ⟨b', o', e', _, hcell⟩ := HA.out.at_ (j := j) hjb
      injection e' with e'
      injection e' with e1 e2
      subst e1
      subst e2
      have HS := keep (num_step bs j (by omega) hjb)
      go_wp2
      go_round
      case rel => exact ⟨j + 1, by omega, by go_num, int_val HS.out⟩
      case measure => simp [intOf]; omega
    · obtain rfl : k = j := by omega
      by_cases e : c = k
      · have HX := HC.out
        rw [if_pos e] at HX
        replace HX := keep HX
        clear HC
        go_wp2_with fail
        go_quiet (fail)
        go_wp2
        go_ret3
        have hX := HX.out
        subst e
        rw [Nat.sub_self] at hX
        exact ⟨_, _, _, rfl, hX.drewN _, rfl⟩
      · have HX := HC.out
        rw [if_neg e, Option.map_some, Addr.add_lit] at HX
        replace HX := keep HX
        clear HC
        go_wp2_with fail
        go_quiet (fail)
        go_wp2
        go_ret3
        exact ⟨_, _, _, rfl, HX.out.drewN _, rfl⟩

def UnpadPost (w : World) (A : Option Addr) (c : Nat) (m n : Nat) (bs : List UInt8) (e : Ending) (w' : World) : Prop :=
  (bs.take m = List.replicate m 0 ∧ ∃ X d, e = .returned (.tuple #[.slice X (n - m) d, .int .i64 0]) ∧ BS w' X (n - m) d (bs.drop m) ∧ w = w') ∨
  (¬ bs.take m = List.replicate m 0 ∧ e = .returned (.tuple #[.slice A n c, .int .i64 3]) ∧ w = w')
end Go.Proofs.Ytacmfoljbjdcjaa
