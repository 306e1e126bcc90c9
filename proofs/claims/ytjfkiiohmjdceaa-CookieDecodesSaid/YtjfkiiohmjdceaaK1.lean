/- Package cookie: what its small functions answer; and bytes.Equal, bytes.HasSuffix. -/
import Derived.Test.YtjfkiiohmjdceaaKMath
import Derived.Laws.ResultCell
import Derived.Laws.Rows
namespace Go.Proofs.Ytjfkiiohmjdceaa
open Go.RowKit
set_option linter.unusedVariables false

theorem high_any (x : Int) (h0 : 0 ≤ x) (h1 : x < 18446744073709551616) (w : World) :
    Calls Try.prog 22 #[.int .u64 x] w fun e w' => e = .returned (.int .u32 (x / 4294967296)) ∧ w = w' := by
  go_enter Try.func22, Try.ntmps22
  go_wp2
  go_ret
  exact ⟨ret_int (by omega), rfl⟩
theorem low_any (x : Int) (h0 : 0 ≤ x) (h1 : x < 18446744073709551616) (w : World) :
    Calls Try.prog 23 #[.int .u64 x] w fun e w' => e = .returned (.int .u32 (x % 4294967296)) ∧ w = w' := by
  go_enter Try.func23, Try.ntmps23
  go_wp2
  go_ret
  exact ⟨ret_int (by omega), rfl⟩
def bnd (x : Int) : Bool := decide (0 ≤ x) && decide (x ≤ 281474976710656)
theorem bounded_any (x : Int) (w : World) :
    Calls Try.prog 29 #[.int .i64 x] w fun e w' => e = .returned (.bool (bnd x)) ∧ w = w' := by
  by_cases h0 : 0 ≤ x
  · go_enter Try.func29, Try.ntmps29
    go_wp2
    go_ret
    exact ⟨by simp [bnd, h0], rfl⟩
  · go_enter Try.func29, Try.ntmps29
    go_wp2
    go_ret
    exact ⟨by simp [bnd]; omega, rfl⟩
theorem bounded_at (x : Int) (b : Bool) (h : Hid (bnd x = b)) (w : World) :
    Calls Try.prog 29 #[.int .i64 x] w fun e w' => e = .returned (.bool b) ∧ w = w' := by
  have := h.out
  subst this
  exact bounded_any x w
theorem bnd_iff (x : Int) : bnd x = true ↔ 0 ≤ x ∧ x ≤ 281474976710656 := by simp [bnd]
theorem mayBe_any (s : CS) (w : World) :
    Calls Try.prog 15 #[.agg s.cells] w fun e w' => e = .returned (.bool (decide s.may)) ∧ Below w.heap.size w w' := by
  have hm : decide s.may = (bnd s.made && bnd s.life) := by
    rw [Bool.eq_iff_iff, decide_eq_true_iff, Bool.and_eq_true, bnd_iff, bnd_iff]
    rfl
  rw [hm]
  obtain ⟨made, life, tag, peer, fst, pf, room, out, inn, t0, t1⟩ := s
  dsimp only [CS.cells]
  clear hm
  obtain ⟨a, ha⟩ : ∃ a, bnd made = a := ⟨_, rfl⟩
  obtain ⟨b, hb⟩ : ∃ b, bnd life = b := ⟨_, rfl⟩
  rw [ha, hb]
  replace ha := keep ha
  replace hb := keep hb
  have l1 := below_lay w (.cells #[.int .i64 made, .int .i64 life, .int .u32 tag, .int .u32 peer, .int .u32 fst, .int .u32 pf, .int .u32 room, .int .u16 out, .int .u16 inn, .int .u32 t0, .int .u32 t1] 28)
  cases a
  · go_enter Try.func15, Try.ntmps15
    go_wp2_with (go_at_call 29; refine (bounded_at _ _ (by assumption) _).mono ?_; rintro e w' ⟨rfl, rfl⟩)
    go_ret
    exact ⟨rfl, l1⟩
  · go_enter Try.func15, Try.ntmps15
    go_wp2_with (go_at_call 29; refine (bounded_at _ _ (by assumption) _).mono ?_; rintro e w' ⟨rfl, rfl⟩)
    go_ret
    exact ⟨rfl, l1⟩

theorem equal_any (A B : Option Addr) (n m c d : Nat) (bs ds : List UInt8) (w : World) (ha : BS w A n c bs) (hb : BS w B m d ds) :
    Calls Try.prog 24 #[.slice A n c, .slice B m d] w fun e w' => e = .returned (.bool (bs == ds)) ∧ w = w' := by
  obtain ⟨rfl, _, ha⟩ := ha
  obtain ⟨rfl, _, hb⟩ := hb
  have k1 := run_bytes_str (P := Try.prog) w 22 5 Try.underlying22 Try.underlying5 A bs c ha 9 Try.underlying9
  have k2 := run_bytes_str (P := Try.prog) w 22 5 Try.underlying22 Try.underlying5 B ds d hb 9 Try.underlying9
  go_enter Try.func24, Try.ntmps24
  go_wp2
  go_outline
  go_ret
  exact ⟨rfl, rfl⟩
theorem suffix_any (A B : Option Addr) (c d : Nat) (bs ds : List UInt8) (w : World) (ha : BS w A 60 c bs) (hb : BS w B 4 d ds) :
    Calls Try.prog 12 #[.slice A 60 c, .slice B 4 d] w fun e w' => e = .returned (.bool (bs.drop 56 == ds)) ∧ w = w' := by
  have hc : (60 : Int) ≤ (c : Int) := by have := ha.cap; omega
  have hcn : ¬ c = 56 := by omega
  obtain ⟨b0, o0, rfl, hb0⟩ := ha.place (by decide)
  have h1 : BS w (some ⟨b0, o0 + 56, none⟩) 4 (c - 56) (bs.drop 56) := by
    have := ha.drop 56 (by omega)
    rw [if_neg hcn] at this
    simpa [Addr.add_lit] using this
  have K := keep (equal_any _ B 4 4 (c - 56) d _ ds w h1 hb)
  clear ha hb h1
  go_enter Try.func12, Try.ntmps12
  go_wp2_with (go_at_call 24; refine K.out.mono ?_; rintro e w' ⟨rfl, rfl⟩)
  go_ret
  exact ⟨rfl, rfl⟩
theorem get32_some (g : Nat) (A : Option Addr) (n c : Nat) (bs : List UInt8) (h4 : 4 ≤ n) (w : World) (hr : RD w g A n c bs) :
    Calls Try.prog 27 #[.pointer (some ⟨g, 0, none⟩)] w fun e w' => e = .returned (.tuple #[.int .u32 (n4 bs 0), .int .i64 0]) ∧ RdPost w g (bs.drop 4) w' := by
  refine (get32_any g A n c bs w hr).mono fun e w' h => ?_
  rcases h with ⟨_, he, hp⟩ | ⟨h, _⟩
  · exact ⟨he, hp⟩
  · omega
theorem get16_some (g : Nat) (A : Option Addr) (n c : Nat) (bs : List UInt8) (h2 : 2 ≤ n) (w : World) (hr : RD w g A n c bs) :
    Calls Try.prog 28 #[.pointer (some ⟨g, 0, none⟩)] w fun e w' => e = .returned (.tuple #[.int .u16 (n2 bs 0), .int .i64 0]) ∧ RdPost w g (bs.drop 2) w' := by
  refine (get16_any g A n c bs w hr).mono fun e w' h => ?_
  rcases h with ⟨_, he, hp⟩ | ⟨h, _⟩
  · exact ⟨he, hp⟩
  · omega
theorem grown_trans_ {a b c : World} {row : Option Nat} (h : a.grownBy b row) (k : b.grownBy c row) : a.grownBy c row :=
  ⟨k.os.trans h.os, k.tape.trans h.tape, k.output.trans h.output, Nat.le_trans h.size k.size, fun i hi hne => (k.block i (Nat.lt_of_lt_of_le hi h.size) hne).trans (h.block i hi hne)⟩
theorem Stays.next {w w1 : World} {g n1 c1 : Nat} {A1 A2 : Option Addr} (h : Stays w g A1) (hc : w1.cell? ⟨g, 0, none⟩ = some (.slice A1 n1 c1)) (k : Stays w1 g A2) : Stays w g A2 := fun A0 n0 c0 h0 a ha => by
  obtain ⟨a1, e1, b1⟩ := k _ _ _ hc a ha
  obtain ⟨a0, e0, b0⟩ := h _ _ _ h0 a1 e1
  exact ⟨a0, e0, b1.trans b0⟩
theorem or_low64 (a x : Int) (h0 : 0 ≤ a) (h1 : a < 4294967296) (h2 : 0 ≤ x) (h3 : x < 4294967296) : bits .or .u64 (a * 4294967296) x = a * 4294967296 + x := by
  obtain ⟨m, rfl⟩ := Int.eq_ofNat_of_zero_le h0
  obtain ⟨k, rfl⟩ := Int.eq_ofNat_of_zero_le h2
  have h := Nat.shiftLeft_add_eq_or_of_lt (i := 32) (show k < 2 ^ 32 by omega) m
  rw [Nat.shiftLeft_eq] at h
  have e : (m : Int) * 4294967296 = ((m * 2 ^ 32 : Nat) : Int) := by omega
  rw [e, bits_or_u64_nat _ _ (by omega) (by omega), ← h]
  omega
theorem n4_drop (b : List UInt8) (i k j : Nat) (h : i + k = j) : n4 (b.drop i) k = n4 b j := by subst h; unfold n4; rw [List.drop_drop]
theorem n2_drop (b : List UInt8) (i k j : Nat) (h : i + k = j) : n2 (b.drop i) k = n2 b j := by subst h; unfold n2; rw [List.drop_drop]
theorem read64_some (g : Nat) (A : Option Addr) (n c : Nat) (bs : List UInt8) (h8 : 8 ≤ n) (w : World) (hr : RD w g A n c bs) :
    Calls Try.prog 25 #[.pointer (some ⟨g, 0, none⟩)] w fun e w' => e = .returned (.int .u64 (n8 bs 0)) ∧ RdPost w g (bs.drop 8) w' := by
  have K := keep (get32_some g A n c bs (by omega) w hr)
  have HL := keep hr.2.len
  have b0 := n4_bound bs 0
  have b1 := n4_bound bs 4
  clear hr
  go_enter Try.func25, Try.ntmps25
  go_wp2_with fail
  refine K.out.mono ?_
  rintro e w1 ⟨rfl, A1, n1, c1, hr1, hg1, hs1⟩
  have K2 := get32_some g A1 n1 c1 _ (by have := hr1.2.len; have := HL.out; rw [List.length_drop] at *; omega) w1 hr1
  rw [n4_drop bs 4 0 4 rfl, List.drop_drop] at K2
  replace K2 := keep K2
  have HR := keep (And.intro hr1 (And.intro hg1 hs1))
  obtain ⟨x, hx⟩ : ∃ x, n4 bs 0 = x := ⟨_, rfl⟩
  obtain ⟨y, hy⟩ : ∃ y, n4 bs 4 = y := ⟨_, rfl⟩
  have HE : Hid (n8 bs 0 = x * 4294967296 + y) := by show n4 bs 0 * _ + n4 bs 4 = _; rw [hx, hy]
  have HO := keep (or_low64 x y (by omega) (by omega) (by omega) (by omega))
  rw [hx] at b0 ⊢
  rw [hy] at b1 K2
  clear hr1 hg1 hs1 hx hy K
  go_wp2_with fail
  refine K2.out.mono ?_
  rintro e w2 ⟨rfl, A2, n2, c2, hr2, hg2, hs2⟩
  have HR2 := keep (And.intro hr2 (And.intro hg2 hs2))
  clear hr2 hg2 hs2 K2
  go_wp2_with fail
  go_ret
  obtain ⟨hr1, hg1, hs1⟩ := HR.out
  obtain ⟨hr2, hg2, hs2⟩ := HR2.out
  refine ⟨?_, A2, n2, c2, hr2, grown_trans_ hg1 hg2, hs1.next hr1.cell hs2⟩
  rw [HE.out]
  exact ret_int HO.out
end Go.Proofs.Ytjfkiiohmjdceaa
