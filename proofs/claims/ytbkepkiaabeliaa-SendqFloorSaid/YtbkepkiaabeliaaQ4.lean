/- The small functions of package sendq: what a queue and an entry tell at once. -/
import Derived.Test.YtbkepkiaabeliaaQ3
import Derived.Test.YtbkepkiaabeliaaSer1
import Derived.Test.YtbkepkiaabeliaaFrame
import Derived.Deep.QuietTactic
import Derived.BigQuiet
namespace Go.Proofs.Ytbkepkiaabeliaa
open Go.RowKit Go.Maps
set_option linter.unusedVariables false

def lenI (q : Qm) : Int := (q.es.length : Int)
/-- The number ahead of the first entry. -/
def flr (q : Qm) : Int := (q.nx - (q.es.length : Int) - 1) % 4294967296
theorem flr_in (q : Qm) : 0 ≤ flr q ∧ flr q < 4294967296 := by unfold flr; omega
theorem list_nil (w : World) : Calls Try.prog 43 #[.pointer none] w fun e w' => e = .returned (.slice none 0 0) ∧ w = w' := by
  go_enter Try.func43, Try.ntmps43
  go_wp2
  go_ret
  exact ⟨rfl, rfl⟩
theorem list_at (b : Nat) (s1 : Option Addr) (s2 s3 : Nat) (w : World) (c0 : w.cell? ⟨b, 0, none⟩ = some (.slice s1 s2 s3)) : Calls Try.prog 43 #[.pointer (some ⟨b, 0, none⟩)] w fun e w' => e = .returned (.slice s1 s2 s3) ∧ w = w' := by
  go_enter Try.func43, Try.ntmps43
  go_wp2
  go_ret
  exact ⟨rfl, rfl⟩
theorem Floor_nil (w : World) : Calls Try.prog 16 #[.pointer none] w fun e w' => e = .returned (.int .u32 0) ∧ w = w' := by
  go_enter Try.func16, Try.ntmps16
  go_wp2
  go_ret
  exact ⟨rfl, rfl⟩
theorem floor_num (nx : Int) (n : Nat) (h : n ≤ 1024) : IntKind.u32.wrap (IntKind.u32.wrap (nx - IntKind.u32.wrap (n : Int)) - 1) = (nx - (n : Int) - 1) % 4294967296 := by
  rw [wrap_u32, wrap_u32, wrap_u32]
  omega
theorem Floor_at (b : Nat) (s1 : Option Addr) (s2 s3 : Nat) (nx : Int) (w : World) (c0 : w.cell? ⟨b, 0, none⟩ = some (.slice s1 s2 s3)) (c1 : w.cell? ⟨b, 1, none⟩ = some (.int .u32 nx)) (hn : s2 ≤ 1024) :
    Calls Try.prog 16 #[.pointer (some ⟨b, 0, none⟩)] w fun e w' => e = .returned (.int .u32 ((nx - (s2 : Int) - 1) % 4294967296)) ∧ ∃ k, w' = w.drewN k := by
  have HF := keep (show ((nx - (s2 : Int)) % 4294967296 - 1) % 4294967296 = (nx - (s2 : Int) - 1) % 4294967296 by omega)
  clear hn
  go_enter Try.func16, Try.ntmps16
  go_wp2
  go_quiet (fail)
  go_wp2
  go_ret
  exact ⟨ret_int HF.out, _, rfl⟩
theorem Floor_any {w : World} {G : Gq} {q : Qm} (h : QA w G q) : Calls Try.prog 16 #[.pointer (some ⟨G.b, 0, none⟩)] w fun e w' => e = .returned (.int .u32 (flr q)) ∧ ∃ k, w' = w.drewN k := by
  have := Floor_at G.b _ _ _ _ w h.b0.1 h.b0.2.1 (by rw [h.n]; exact h.le)
  rw [h.n] at this
  exact this
theorem Next_nil (w : World) : Calls Try.prog 31 #[.pointer none] w fun e w' => e = .returned (.int .u32 0) ∧ w = w' := by
  go_enter Try.func31, Try.ntmps31
  go_wp2
  go_ret
  exact ⟨rfl, rfl⟩
theorem Next_any {w : World} {G : Gq} {q : Qm} (h : QA w G q) : Calls Try.prog 31 #[.pointer (some ⟨G.b, 0, none⟩)] w fun e w' => e = .returned (.int .u32 q.nx) ∧ w = w' := by
  have c1 := h.b0.2.1
  clear h
  go_enter Try.func31, Try.ntmps31
  go_wp2
  go_ret
  exact ⟨rfl, rfl⟩
theorem Len_nil (w : World) : Calls Try.prog 17 #[.pointer none] w fun e w' => e = .returned (.int .i64 0) ∧ w = w' := by
  go_enter Try.func17, Try.ntmps17
  go_wp2_with (go_at_call 43; refine (list_nil _).mono ?_; rintro e w' ⟨rfl, rfl⟩)
  go_ret
  exact ⟨rfl, rfl⟩
theorem Len_any {w : World} {G : Gq} {q : Qm} (h : QA w G q) : Calls Try.prog 17 #[.pointer (some ⟨G.b, 0, none⟩)] w fun e w' => e = .returned (.int .i64 (q.es.length : Int)) ∧ w = w' := by
  have K := keep (list_at G.b _ _ _ w h.b0.1)
  have HN := keep h.n
  clear h
  go_enter Try.func17, Try.ntmps17
  go_wp2_with (go_at_call 43; refine K.out.mono ?_; rintro e w' ⟨rfl, rfl⟩)
  go_ret
  exact ⟨ret_int (by rw [HN.out]), rfl⟩
/-! ### upTo -/
/-- How many entries there are up to a number; none if it is beyond. -/
def stp (q : Qm) (n : Int) : Nat := if dist32 (flr q) n ≤ (q.es.length : Int) then (dist32 (flr q) n).toNat else 0
theorem stp_le (q : Qm) (n : Int) : stp q n ≤ q.es.length := by
  unfold stp
  have := dist32_lo (flr q) n
  split <;> omega
theorem len_u32 (n : Nat) (h : n ≤ 1024) : IntKind.u32.wrap (n : Int) = (n : Int) := by rw [wrap_u32]; omega
theorem upTo_nil (n : Int) (w : World) : Calls Try.prog 50 #[.pointer none, .int .u32 n] w fun e w' => (∃ A c, e = .returned (.slice A 0 c)) ∧ w = w' := by
  have hd := dist32_lo 0 n
  have hu : IntKind.u32.wrap (0 : Int) = 0 := by decide
  obtain ⟨d, hd'⟩ : ∃ d, d = dist32 0 n := ⟨_, rfl⟩
  rw [← hd'] at hd
  have K := fun w => Dist_any 0 n w
  rw [← hd'] at K
  replace K := keep K
  clear hd'
  by_cases h0 : 0 < d
  · go_enter Try.func50, Try.ntmps50
    go_wp2_with (first
      | (go_at_call 43; refine (list_nil _).mono ?_; rintro e w' ⟨rfl, rfl⟩)
      | (go_at_call 16; refine (Floor_nil _).mono ?_; rintro e w' ⟨rfl, rfl⟩)
      | (go_at_call 26; refine (K.out _).mono ?_; rintro e w' ⟨rfl, rfl⟩))
    go_ret
    exact ⟨⟨_, _, rfl⟩, rfl⟩
  · obtain rfl : d = 0 := by omega
    clear h0 hd
    go_enter Try.func50, Try.ntmps50
    go_wp2_with (first
      | (go_at_call 43; refine (list_nil _).mono ?_; rintro e w' ⟨rfl, rfl⟩)
      | (go_at_call 16; refine (Floor_nil _).mono ?_; rintro e w' ⟨rfl, rfl⟩)
      | (go_at_call 26; refine (K.out _).mono ?_; rintro e w' ⟨rfl, rfl⟩))
    go_ret
    exact ⟨⟨_, _, rfl⟩, rfl⟩
theorem upTo_any {w : World} {G : Gq} {q : Qm} (h : QA w G q) (n : Int) :
    Calls Try.prog 50 #[.pointer (some ⟨G.b, 0, none⟩), .int .u32 n] w fun e w' => (∃ A c, e = .returned (.slice A (stp q n) c) ∧ stp q n ≤ c ∧ (stp q n ≠ 0 → A = G.s.1)) ∧ ∃ k, w' = w.drewN k := by
  have HL := keep (list_at G.b _ _ _ w h.b0.1)
  have HF := keep (Floor_any h)
  have hd := dist32_lo (flr q) n
  have hd2 := dist32_hi (flr q) n
  have hle := h.le
  have hu := len_u32 G.s.2.1 (by rw [h.n]; exact hle)
  have hn := h.n
  have hc := h.sr.1
  obtain ⟨d, hd'⟩ : ∃ d, d = dist32 (flr q) n := ⟨_, rfl⟩
  have hst : stp q n = if d ≤ (q.es.length : Int) then d.toNat else 0 := by rw [hd']; rfl
  have K := fun w => Dist_any (flr q) n w
  rw [← hd'] at K hd hd2
  generalize flr q = f at HF K
  generalize stp q n = s at hst ⊢
  rw [← hn] at hst hle
  replace K := keep K
  clear hd' h hn
  obtain ⟨b, ⟨s1, s2, s3⟩, O, F⟩ := G
  dsimp only at *
  by_cases h0 : (s2 : Int) < d
  · have HS : Hid (s = 0) := by rw [hst, if_neg (by omega)]; exact keep rfl
    clear hst
    have HB := keep (And.intro hd hd2)
    clear hd hd2
    go_enter Try.func50, Try.ntmps50
    go_wp2_with (first
      | (go_at_call 43; refine HL.out.mono ?_; rintro e w' ⟨rfl, rfl⟩)
      | (go_at_call 16; refine HF.out.mono ?_; rintro e w' ⟨rfl, k, rfl⟩)
      | (go_at_call 26; refine (K.out _).mono ?_; rintro e w' ⟨rfl, rfl⟩))
    go_ret
    rw [HS.out]
    exact ⟨⟨_, _, rfl, Nat.zero_le _, fun h => absurd rfl h⟩, _, rfl⟩
  · obtain ⟨m, rfl⟩ : ∃ m : Nat, d = (m : Int) := ⟨d.toNat, by omega⟩
    have HS : Hid (s = m) := by rw [hst, if_pos (by omega)]; exact keep (by simp)
    have hm : m ≤ s3 := by omega
    have hm2 : (m : Int) ≤ (s3 : Int) := by omega
    clear hst
    have HB := keep (And.intro hd hd2)
    clear hd hd2
    go_enter Try.func50, Try.ntmps50
    go_wp2_with (first
      | (go_at_call 43; refine HL.out.mono ?_; rintro e w' ⟨rfl, rfl⟩)
      | (go_at_call 16; refine HF.out.mono ?_; rintro e w' ⟨rfl, k, rfl⟩)
      | (go_at_call 26; refine (K.out _).mono ?_; rintro e w' ⟨rfl, rfl⟩))
    go_ret
    rw [HS.out]
    exact ⟨⟨_, _, rfl, hm, fun h => rfl⟩, _, rfl⟩
/-! ### Of one entry -/
theorem octets_at (p : Nat) (A : Option Addr) (n c : Nat) (w : World) (h : w.cell? ⟨p, 11, none⟩ = some (.slice A n c)) : Calls Try.prog 48 #[.pointer (some ⟨p, 0, none⟩)] w fun e w' => e = .returned (.int .i64 (n : Int)) ∧ w = w' := by
  go_enter Try.func48, Try.ntmps48
  go_wp2
  go_ret
  exact ⟨rfl, rfl⟩
theorem waits_at (p : Nat) (s : Int) (w : World) (h : w.cell? ⟨p, 13, none⟩ = some (.int .i64 s)) : Calls Try.prog 75 #[.pointer (some ⟨p, 0, none⟩)] w fun e w' => e = .returned (.bool (s == 0)) ∧ w = w' := by
  go_enter Try.func75, Try.ntmps75
  go_wp2
  go_ret
  exact ⟨rfl, rfl⟩
theorem open_at (p : Nat) (s : Int) (w : World) (h : w.cell? ⟨p, 13, none⟩ = some (.int .i64 s)) : Calls Try.prog 83 #[.pointer (some ⟨p, 0, none⟩)] w fun e w' => e = .returned (.bool (s != 3 && s != 4)) ∧ w = w' := by
  by_cases h3 : s = 3
  · subst h3
    go_enter Try.func83, Try.ntmps83
    go_wp2
    all_goals (try go_quiet (fail))
    all_goals go_wp2
    all_goals (go_ret; exact ⟨rfl, rfl⟩)
  · have h3' : (s != 3) = true := by simpa using h3
    clear h3
    go_enter Try.func83, Try.ntmps83
    go_wp2
    all_goals (try go_quiet (fail))
    all_goals go_wp2
    all_goals (go_ret; exact ⟨by rw [h3']; rfl, rfl⟩)
theorem send_at (p : Nat) (now sn a1 a2 a3 : Int) (w : World) (h13 : w.cell? ⟨p, 13, none⟩ = some (.int .i64 a1)) (h14 : w.cell? ⟨p, 14, none⟩ = some (.int .i64 sn)) (h15 : w.cell? ⟨p, 15, none⟩ = some (.int .i64 a2)) (h16 : w.cell? ⟨p, 16, none⟩ = some (.int .i64 a3))
    (f13 : w.frozen? ⟨p, 13, none⟩ = false) (f14 : w.frozen? ⟨p, 14, none⟩ = false) (f15 : w.frozen? ⟨p, 15, none⟩ = false) (f16 : w.frozen? ⟨p, 16, none⟩ = false) :
    Calls Try.prog 49 #[.pointer (some ⟨p, 0, none⟩), .int .i64 now] w fun e w' => e = .returned (.tuple #[]) ∧ w' = (((w.setCell ⟨p, 13, none⟩ (.int .i64 1)).setCell ⟨p, 15, none⟩ (.int .i64 now)).setCell ⟨p, 16, none⟩ (.int .i64 0)).setCell ⟨p, 14, none⟩ (.int .i64 (wrap64 (sn + 1))) := by
  go_enter Try.func49, Try.ntmps49
  go_wp2

  exact bodyPost_end (results_none rfl _ _ _) rfl ⟨rfl, rfl⟩
end Go.Proofs.Ytbkepkiaabeliaa
