/- The library's sort at numbers of 16 bits: patterns broken. -/
import Derived.Test.YtofebpikihandaaSq2
import Derived.Test.YtofebpikihandaaSo4
namespace Go.Proofs.Ytofebpikihandaa
open Go.RowKit Go.Sort
set_option linter.unusedVariables false

theorem and_in (r : Int) (m : Nat) (h1 : 1 ≤ m) (h2 : m ≤ 256) : ∃ o : Nat, bits .and .u64 r ((m : Int) - 1) = (o : Int) ∧ o < m := by
  obtain ⟨t, rfl⟩ : ∃ t, m = t + 1 := ⟨m - 1, by omega⟩
  have hb : (BitVec.ofInt 64 (((t + 1 : Nat) : Int) - 1)).toNat = t := by
    rw [show ((t + 1 : Nat) : Int) - 1 = (t : Int) by omega, BitVec.ofInt_natCast, BitVec.toNat_ofNat]
    exact Nat.mod_eq_of_lt (by omega)
  have hle : (BitVec.ofInt 64 r &&& BitVec.ofInt 64 (((t + 1 : Nat) : Int) - 1)).toNat ≤ t := by
    rw [BitVec.toNat_and, hb]
    exact Nat.and_le_right
  refine ⟨(BitVec.ofInt 64 r &&& BitVec.ofInt 64 (((t + 1 : Nat) : Int) - 1)).toNat, ?_, by omega⟩
  show IntKind.u64.wrap ((BitVec.ofInt 64 r &&& BitVec.ofInt 64 (((t + 1 : Nat) : Int) - 1)).toNat : Int) = _
  generalize (BitVec.ofInt 64 r &&& BitVec.ofInt 64 (((t + 1 : Nat) : Int) - 1)).toNat = y at hle
  simp only [IntKind.wrap, IntKind.signed, IntKind.bits]
  simp
  omega
theorem u64_of {x : Int} (h0 : 0 ≤ x) (h1 : x < 18446744073709551616) : IntKind.u64.wrap x = x := by
  simp only [IntKind.wrap, IntKind.signed, IntKind.bits]
  simp
  omega
/-- The row under way, and the drawn number beside it. -/
structure Brk (w : World) (g s a b n : Nat) (d di : Array Int) (W : World) : Prop where
  size : di.size = n
  perm : PermIn a b d di
  row : Rw W g di
  xs : Xs W s
  part : Part (fun i => i = g) w W
  ne : g ≠ s
  lt : g < W.heap.size
  new : w.heap.size ≤ s
theorem Brk.next {w W W' : World} {g s a b n : Nat} {d di : Array Int} (h : Brk w g s a b n d di W) (hx : Xs W' s) (hp : Part (fun i => i = s) W W') : Brk w g s a b n d di W' :=
  ⟨h.size, h.perm, h.row.kept hp h.ne h.lt, hx, h.part.trans hp fun i hi => .inr (by rw [hi]; exact h.new), h.ne, Nat.lt_of_lt_of_le h.lt hp.size, h.new⟩
theorem Brk.drew {w W : World} {g s a b n : Nat} {d di : Array Int} (h : Brk w g s a b n d di W) : Brk w g s a b n d di W.drew := ⟨h.size, h.perm, h.row, h.xs, h.part.drew, h.ne, h.lt, h.new⟩
theorem Xs.else_ {w : World} {s g j : Nat} {v : Value} (h : Xs w s) (hne : s ≠ g) : Xs (w.setCell ⟨g, j, none⟩ v) s := by
  obtain ⟨r, hr, h⟩ := h
  exact ⟨r, hr, (heap_setCell_other w ⟨g, j, none⟩ s v hne).trans h⟩
theorem Brk.swap {w W : World} {g s a b n : Nat} {d di : Array Int} (h : Brk w g s a b n d di W) {i j : Nat} (hi : a ≤ i) (hi' : i < b) (hj : a ≤ j) (hj' : j < b) (hb : b ≤ n) :
    Brk w g s a b n d (swp di i j) ((W.setCell ⟨g, i, none⟩ (.int .u16 di[j]!)).setCell ⟨g, j, none⟩ (.int .u16 di[i]!)) :=
  ⟨by rw [swp_size]; exact h.size, permIn_trans _ _ _ _ _ h.perm (swp_in hi hi' hj hj' (by rw [h.size]; exact hb)), h.row.swap (by rw [h.size]; omega) (by rw [h.size]; omega), (h.xs.else_ (Ne.symm h.ne)).else_ (Ne.symm h.ne),
    (h.part.setCell (p := ⟨g, i, none⟩) (.inl rfl) _).setCell (p := ⟨g, j, none⟩) (.inl rfl) _, h.ne, by simpa [World.setCell] using h.lt, h.new⟩

set_option maxHeartbeats 4000000 in
theorem break_any {g c a b : Nat} {d : Array Int} {w : World} (h : Rw w g d) (hg : g < w.heap.size) (hab : a + 12 < b) (hb : b ≤ d.size) (hs : d.size < 256) :
    Calls Try.prog 39 #[.slice (some ⟨g, 0, none⟩) d.size c, .int .i64 a, .int .i64 b] w fun e w' => e = .returned (.tuple #[]) ∧ ∃ d', Done w g d' w' ∧ PermIn a b d d' := by
  obtain ⟨n, hn⟩ : ∃ n, d.size = n := ⟨_, rfl⟩
  obtain ⟨l, hl⟩ : ∃ l : Nat, (b : Int) - (a : Int) = (l : Int) := ⟨b - a, by omega⟩
  obtain ⟨q, hq⟩ : ∃ q : Nat, (l : Int) / 4 = (q : Int) := ⟨l / 4, by omega⟩
  have h8 : (8 : Int) ≤ (l : Int) := by omega
  have Q := keep (show 3 ≤ q ∧ q * 4 ≤ l ∧ l < q * 4 + 4 ∧ a + l = b ∧ b ≤ n ∧ n < 256 ∧ 13 ≤ l by omega)
  have az : (a : Int) ≤ 1000000 := by omega
  have qz : (q : Int) ≤ 1000000 := by omega
  have lz : (l : Int) ≤ 1000000 := by omega
  have B0 : Brk w g w.heap.size a b n d d (w.alloc (.cells #[.int .u64 (l : Int)] 74)) :=
    ⟨hn, permIn_refl _ _ _, h.kept (Part.of_below (fun _ => False) (below_lay w _)) (fun hc => hc) hg, ⟨l, by omega, heap_alloc_new w _⟩, Part.of_below _ (below_lay w _), by omega, by simp; omega, Nat.le_refl _⟩
  have HB0 := keep B0
  have HP := keep (fun w => pow_any l (by have := Q.out; omega) (by have := Q.out; omega) w)
  rw [hn]
  clear h hg hab hb hs hn B0
  go_enter Try.func39, Try.ntmps39
  go_wp2_with (go_at_call 49; refine (HP.out _).mono ?_; rintro e w1 ⟨k, rfl, hk8, hk2, rfl⟩; obtain ⟨m, hm⟩ : ∃ m : Nat, 2 ^ k = m := ⟨_, rfl⟩; rw [hm] at hk2 ⊢; have HM := keep (show 1 ≤ m ∧ m ≤ 2 * l ∧ m ≤ 256 from ⟨hm ▸ Nat.two_pow_pos k, hk2, hm ▸ Nat.pow_le_pow_right (n := 2) (by omega) hk8⟩); have wm : IntKind.u64.wrap ((m : Int) - 1) = (m : Int) - 1 := u64_of (by have := HM.out; omega) (by have := HM.out; omega); clear hm hk8 hk2 HP)
  go_loopw [9, 10] (fun vi vo wr => ∃ (i : Nat) (di : Array Int), vi = .int .i64 i ∧ a + q * 2 ≤ i + 1 ∧ i ≤ a + q * 2 + 2 ∧ Hid (Brk w g w.heap.size a b n d di wr)) (fun vi _ _ => a + q * 2 + 2 - (intOf vi).toNat)
  case atStart => exact ⟨a + q * 2 - 1, d, by congr 1; omega, by omega, by omega, HB0⟩
  case round =>
    obtain ⟨i, di, rfl, hi1, hi2, H⟩ := hrel
    have iz : (i : Int) ≤ 1000000 := by have := Q.out; omega
    by_cases hlt : i ≤ a + q * 2 + 1
    · have hlz : (i : Int) ≤ (a : Int) + (q : Int) * 2 + 1 := by omega
      have I := keep (And.intro hi1 hlt)
      clear hi1 hi2 hlt HB0
      go_wp2_with fail
      refine (Next_any H.out.xs).mono ?_
      rintro e w2 ⟨r, rfl, hr, hx2, hp2⟩
      have H2 := keep (H.out.next hx2 hp2)
      obtain ⟨o, ho, hom⟩ := and_in r m HM.out.1 HM.out.2.2
      have oz : (o : Int) ≤ 1000000 := by have := Q.out; have := HM.out.2; omega
      have O := keep hom
      clear hr hx2 hp2 hom
      obtain ⟨G, hG⟩ : ∃ G : Nat → Int, ∀ t, di[t]! = G t := ⟨fun t => di[t]!, fun _ => rfl⟩
      have hcw : ∀ t, t < n → w2.cell? ⟨g, t, none⟩ = some (.int .u16 (G t)) := fun t ht => by rw [← hG]; exact H2.out.row.cell (by rw [H2.out.size]; exact ht)
      have hfw : ∀ t, t < n → w2.frozen? ⟨g, t, none⟩ = false := fun t ht => H2.out.row.fz (by rw [H2.out.size]; exact ht)
      have HG := keep hG
      clear hG
      have hin : i < n := by have := Q.out; have := I.out; omega
      have hinz : (i : Int) < (n : Int) := by omega
      by_cases hol : (l : Int) ≤ (o : Int)
      · obtain ⟨p, hp⟩ : ∃ p : Nat, (o : Int) - (l : Int) = (p : Int) := ⟨o - l, by omega⟩
        obtain ⟨y, hay⟩ : ∃ y : Nat, (a : Int) + (p : Int) = (y : Int) := ⟨a + p, by omega⟩
        have Y := keep (show a ≤ y ∧ y < b by have := Q.out; have := HM.out; have := O.out; omega)
        have hy : y < n := by have := Q.out; have := Y.out; omega
        have hyz : (y : Int) < (n : Int) := by omega
        have yz : (y : Int) ≤ 1000000 := by have := Q.out; omega
        have HS := keep (show Brk w g w.heap.size a b n d (swp di i y) ((w2.drew.setCell ⟨g, i, none⟩ (.int .u16 (G y))).setCell ⟨g, y, none⟩ (.int .u16 (G i))) by
          have hs := H2.out.drew.swap (i := i) (j := y) (by have := Q.out; have := I.out; omega) (by have := Q.out; have := I.out; omega) Y.out.1 Y.out.2 Q.out.2.2.2.2.1
          rw [HG.out, HG.out] at hs
          exact hs)
        by_cases hne : i = y
        · subst hne
          go_wp2_with fail
          go_region
          all_goals (try go_wp2_with fail)
          go_roundw
          case rel => exact ⟨i + 1, swp di i i, by go_num, by have := I.out; omega, by have := I.out; omega, HS.out⟩
          case measure => simp [intOf]; have := I.out; omega
        · have hne2 : ¬ y = i := fun e => hne e.symm
          go_wp2_with fail
          go_region
          all_goals (try go_wp2_with fail)
          go_roundw
          case rel => exact ⟨i + 1, swp di i y, by go_num, by have := I.out; omega, by have := I.out; omega, HS.out⟩
          case measure => simp [intOf]; have := I.out; omega
      · obtain ⟨y, hay⟩ : ∃ y : Nat, (a : Int) + (o : Int) = (y : Int) := ⟨a + o, by omega⟩
        have Y := keep (show a ≤ y ∧ y < b by have := Q.out; have := HM.out; have := O.out; omega)
        have hy : y < n := by have := Q.out; have := Y.out; omega
        have hyz : (y : Int) < (n : Int) := by omega
        have yz : (y : Int) ≤ 1000000 := by have := Q.out; omega
        have HS := keep (show Brk w g w.heap.size a b n d (swp di i y) ((w2.drew.setCell ⟨g, i, none⟩ (.int .u16 (G y))).setCell ⟨g, y, none⟩ (.int .u16 (G i))) by
          have hs := H2.out.drew.swap (i := i) (j := y) (by have := Q.out; have := I.out; omega) (by have := Q.out; have := I.out; omega) Y.out.1 Y.out.2 Q.out.2.2.2.2.1
          rw [HG.out, HG.out] at hs
          exact hs)
        by_cases hne : i = y
        · subst hne
          go_wp2_with fail
          go_region
          all_goals (try go_wp2_with fail)
          go_roundw
          case rel => exact ⟨i + 1, swp di i i, by go_num, by have := I.out; omega, by have := I.out; omega, HS.out⟩
          case measure => simp [intOf]; have := I.out; omega
        · have hne2 : ¬ y = i := fun e => hne e.symm
          go_wp2_with fail
          go_region
          all_goals (try go_wp2_with fail)
          go_roundw
          case rel => exact ⟨i + 1, swp di i y, by go_num, by have := I.out; omega, by have := I.out; omega, HS.out⟩
          case measure => simp [intOf]; have := I.out; omega
    · have hlz : ¬ (i : Int) ≤ (a : Int) + (q : Int) * 2 + 1 := by omega
      clear hi1 hi2 hlt
      go_wp2_with fail
      go_end0
      exact ⟨rfl, di, ⟨H.out.row, H.out.part⟩, H.out.perm⟩
end Go.Proofs.Ytofebpikihandaa
