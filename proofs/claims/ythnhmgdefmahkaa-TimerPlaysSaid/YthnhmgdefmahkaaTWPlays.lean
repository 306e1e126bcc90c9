/- The walk of the law TimerPlays. -/
import Derived.Test.YthnhmgdefmahkaaTOps
import Derived.Test.YthnhmgdefmahkaaTG
namespace Go.Proofs.Ythnhmgdefmahkaa
open Go.RowKit
set_option linter.unusedVariables false

/-- The set holds l; the reference's list reads as l, and shares nothing with the set. -/
structure Both (base : Nat) (w : World) (b : Nat) (m : Option Nat) (A : Option Addr) (c : Nat) (l : List (Int × Int)) : Prop where
  set : SetAt w b m l
  own : OwnB base b m
  row : ES w A l.length c l
  ne : ∀ a, A = some a → ¬ Ow b m a.block ∧ a.block < w.heap.size
theorem Both.step {base : Nat} {w w' : World} {b : Nat} {m : Option Nat} {A : Option Addr} {c : Nat} {l : List (Int × Int)} (h : Both base w b m A c l) (hb : Below w.heap.size w w') : Both base w' b m A c l :=
  ⟨h.set.step hb, h.own, h.row.step hb, fun a ha => ⟨(h.ne a ha).1, Nat.lt_of_lt_of_le (h.ne a ha).2 hb.size⟩⟩
theorem sameB_refl (l : List Int) : sameB l l = true := by simp [sameB]
theorem Both.part_row {base : Nat} {w w' : World} {b : Nat} {m : Option Nat} {A : Option Addr} {c : Nat} {l : List (Int × Int)} (h : Both base w b m A c l) (hp : Part (Ow b m) w w') : ES w' A l.length c l :=
  ⟨h.row.1, h.row.2.1, hp.sr h.row.2.2 fun a ha => (h.ne a ha).1⟩
theorem Both.part_ne {base : Nat} {w w' : World} {b : Nat} {m : Option Nat} {A : Option Addr} {c : Nat} {l : List (Int × Int)} (h : Both base w b m A c l) (hp : Part (Ow b m) w w') : ∀ a, A = some a → ¬ Ow b m a.block ∧ a.block < w'.heap.size :=
  fun a ha => ⟨(h.ne a ha).1, Nat.lt_of_lt_of_le (h.ne a ha).2 hp.size⟩
theorem Both.mk' {base : Nat} {w1 w2 : World} {b : Nat} {m : Option Nat} {A : Option Addr} {c : Nat} {l : List (Int × Int)} (hs : SetAt w1 b m l) (ho : OwnB base b m) (hown : w2.ownsRow w1.heap.size 47 2 (.slice A l.length c) l.length (flat l)) (hb : Below w1.heap.size w1 w2) : Both base w2 b m A c l :=
  ⟨hs.step hb, ho, ES.of_own hown, fun a ha => by
    have h1 := hown.lt a.block (by rw [ha]; rfl)
    exact ⟨fun hc => by have := hs.ow_lt hc; omega, h1.2⟩⟩

set_option maxHeartbeats 8000000 in
set_option maxRecDepth 100000 in
theorem timerPlays_walk (A : Option Addr) (n c : Nat) (p q r : Nat → Int) (w : World) (ht : Trips w A n p q r) :
    Calls Try.prog 3 #[.slice A n c] w fun e w' => e = .returned (.bool true) ∧ Below w.heap.size w w' := by
  by_cases hn : n ≤ 100
  · have hn' : (n : Int) ≤ 100 := by omega
    have HT := keep ht
    clear ht
    go_enter Try.func3, Try.ntmps3
    go_wp2_with fail
    refine (awake_any _).mono ?_
    rintro e w0 ⟨rfl, hb0⟩
    have HB0 := keep (hb0.alloc hb0.size (.cells #[.map none] 27))
    have hz0 : w.heap.size ≤ w0.heap.size := hb0.size
    have HS0 := keep (show Both w.heap.size (w0.alloc (.cells #[.map none] 27)) w0.heap.size none none 0 [] from ⟨SetAt.fresh w0, ⟨hz0, fun k hk => by cases hk⟩, ⟨rfl, Nat.le_refl _, SR.nil _ _⟩, fun a ha => by cases ha⟩)
    clear hb0
    go_wp2
    go_loopw [5, 6] (fun s i wr => ∃ (j : Nat) (m : Option Nat) (A' : Option Addr) (c' : Nat) (l : List (Int × Int)), j ≤ n ∧ i = .int .i64 j ∧ s = .slice A' l.length c' ∧ Both w.heap.size wr w0.heap.size m A' c' l ∧ l.length ≤ j ∧ Below w.heap.size w wr)
      (fun _ i _ => n - (intOf i).toNat)
    case atStart => exact ⟨0, none, none, 0, [], Nat.zero_le _, rfl, rfl, HS0.out, Nat.le_refl _, HB0.out⟩
    case round =>
      clear HB0 HS0
      obtain ⟨j, m, A', c', l, hj, rfl, rfl, hs, hl, hb⟩ := hrel
      have HS := keep hs
      have HB := keep hb
      clear hs hb
      by_cases hlt : j < n
      · obtain ⟨gb, o, wh, id, t, rfl, hgb, hc0, hc1, hc2, hid, hat⟩ := HT.out.at_ hlt
        have HID := keep hid
        have HAT := keep hat
        have HC := keep (And.intro hc0 (And.intro hc1 hc2))
        have d0 := (HB.out.cell (p := ⟨gb, o + j * 3, none⟩) hgb).trans hc0
        have d1 := (HB.out.cell (p := ⟨gb, o + j * 3 + 1, none⟩) hgb).trans hc1
        have d2 := (HB.out.cell (p := ⟨gb, o + j * 3 + 2, none⟩) hgb).trans hc2
        clear hc0 hc1 hc2 hid hat
        by_cases hw0 : wh = 0
        · subst hw0
          go_wp2
          refine region_tail 11 (by kernel_rfl) (by kernel_rfl) ?_
          simp only [List.take_succ_cons, List.take_zero, List.drop_succ_cons, List.drop_zero]
          generalize hwd : World.drew _ = w1
          have hbd : Below wr.heap.size wr w1 := by rw [← hwd]; exact (Below.refl _ _).drew
          have e1 := (hbd.cell (p := ⟨gb, o + j * 3 + 1, none⟩) (Nat.lt_of_lt_of_le hgb HB.out.size)).trans d1
          have e2 := (hbd.cell (p := ⟨gb, o + j * 3 + 2, none⟩) (Nat.lt_of_lt_of_le hgb HB.out.size)).trans d2
          have HS1 := keep (HS.out.step hbd)
          have HB1 := keep (HB.out.trans (hbd.mono HB.out.size))
          clear hwd hbd d0 d1 d2 HS HB
          iterate 11 still_step
          refine wpStill_nil ?_
          go_wp2_with fail
          refine (Start_set _ _ _ _ _ _ HS1.out.set HID.out HAT.out (by omega)).mono ?_
          rintro e w2 ⟨rfl, mz, hsz, hmz, hpz⟩
          obtain ⟨_, _, _, hb2, hz2⟩ := Started.go ⟨mz, hsz, hmz, hpz⟩ HS1.out.own HB1.out HB1.out.size
          have hoz : OwnB w.heap.size w0.heap.size mz := by
            refine ⟨HS1.out.own.1, fun k hk => ?_⟩
            rcases hmz with rfl | ⟨k', rfl, hk'⟩
            · exact HS1.out.own.2 k hk
            · injection hk with e
              have := HB1.out.size
              omega
          have HO2 := keep hoz
          have HR2 := keep (HS1.out.part_row hpz)
          have HS2 := keep hsz
          have HB2 := keep hb2
          have e1 := (hb2.cell (p := ⟨gb, o + j * 3 + 1, none⟩) hgb).trans HC.out.2.1
          have e2 := (hb2.cell (p := ⟨gb, o + j * 3 + 2, none⟩) hgb).trans HC.out.2.2
          clear hsz hmz hpz hoz hb2 HS1 HB1
          go_wp2
          refine region_tail 11 (by kernel_rfl) (by kernel_rfl) ?_
          simp only [List.take_succ_cons, List.take_zero, List.drop_succ_cons, List.drop_zero]
          generalize hwd : World.drew _ = w3
          have hbd : Below w2.heap.size w2 w3 := by rw [← hwd]; exact (Below.refl _ _).drew
          have g1 := (hbd.cell (p := ⟨gb, o + j * 3 + 1, none⟩) (Nat.lt_of_lt_of_le hgb HB2.out.size)).trans e1
          have g2 := (hbd.cell (p := ⟨gb, o + j * 3 + 2, none⟩) (Nat.lt_of_lt_of_le hgb HB2.out.size)).trans e2
          have HS3 := keep (HS2.out.step hbd)
          have HR3 := keep (HR2.out.step hbd)
          have HB3 := keep (HB2.out.trans (hbd.mono HB2.out.size))
          clear hwd hbd e1 e2 HS2 HR2 HB2
          iterate 11 still_step
          refine wpStill_nil ?_
          clear g1 g2
          go_wp2_with fail
          refine (RStart _ _ _ _ _ _ _ HR3.out (by omega)).mono ?_
          rintro e wz ⟨Az, cz, rfl, hoz, hbz⟩
          have hll : (startL l id t).length ≤ j + 1 := Nat.le_trans (len_startL_le _ _ _) (by omega)
          have HSz := keep (Both.mk' HS3.out HO2.out hoz.out hbz)
          have HBz := keep (HB3.out.trans (hbz.mono HB3.out.size))
          clear hoz hbz HS3 HR3 HB3 HO2
          generalize startL l id t = lz at HSz hll ⊢
          have d1 := (HBz.out.cell (p := ⟨gb, o + j * 3 + 1, none⟩) hgb).trans HC.out.2.1
          go_wp2_with fail
          refine (At_set _ _ _ _ _ HSz.out.set HID.out).mono ?_
          rintro e wy ⟨rfl, rfl⟩
          go_wp2_with fail
          refine (RAt _ _ _ _ _ _ HSz.out.row (by omega)).mono ?_
          rintro e wy ⟨rfl, rfl⟩
          obtain ⟨xa, hxa⟩ : ∃ xa, atL lz id = xa := ⟨_, rfl⟩
          obtain ⟨xh, hxh⟩ : ∃ xh, hasL lz id = xh := ⟨_, rfl⟩
          rw [hxa, hxh]
          clear hxa hxh d1
          go_wp2_with fail
          refine (Next_set _ _ _ _ HSz.out.set).mono ?_
          rintro e wy ⟨rfl, hby⟩
          have HSy := keep (HSz.out.step hby)
          have HBy := keep (HBz.out.trans (hby.mono HBz.out.size))
          clear hby HSz HBz
          rcases lz with _ | ⟨⟨px, py⟩, rest⟩
          · simp only [hdI, hdA, some', List.length_nil]
            go_wp2_with fail
            refine (Len_set _ _ _ _ HSy.out.set).mono ?_
            rintro e wx ⟨rfl, rfl⟩
            rw [List.length_nil]
            go_wp2
            go_roundw
            case rel => exact ⟨j + 1, _, Az, cz, [], by omega, by go_num, rfl, HSy.out, by simp, HBy.out⟩
            case measure => simp [intOf]; omega
          · obtain ⟨rb, ro, x, y, rfl, hrb, g0, g1, hxy⟩ := HSy.out.row.at_ (j := 0) (by simp)
            obtain ⟨rfl, rfl⟩ : px = x ∧ py = y := by simpa using hxy
            simp only [Nat.zero_mul, Nat.add_zero] at g0 g1
            simp only [hdI, hdA, some']
            clear hxy
            have hLn := Len_set _ _ _ _ HSy.out.set
            have hNp : 0 < ((px, py) :: rest).length := by simp
            generalize hLL : ((px, py) :: rest).length = N at hLn hNp hll ⊢
            have HLn := keep hLn
            have HLL := keep hLL
            clear hLn hLL
            go_wp2_with fail
            refine HLn.out.mono ?_
            rintro e wx ⟨rfl, rfl⟩
            go_wp2
            go_roundw
            case rel => exact ⟨j + 1, _, _, cz, (px, py) :: rest, by omega, by go_num, by rw [HLL.out], HSy.out, by rw [HLL.out]; exact hll, HBy.out⟩
            case measure => simp [intOf]; omega
        · have hw1 : (wh == 0) = false := by simp [hw0]
          by_cases hw2 : wh = 1
          · subst hw2
            go_wp2_with fail
            refine (Stop_set _ _ _ _ _ HS.out.set HID.out).mono ?_
            rintro e w2 ⟨rfl, hsz, hpz⟩
            have HR2 := keep (HS.out.part_row hpz)
            have HS2 := keep hsz
            have hb2 := HS.out.own.below HB.out HB.out.size hpz
            have HB2 := keep hb2
            have HO2 := keep HS.out.own
            have e1 := (hb2.cell (p := ⟨gb, o + j * 3 + 1, none⟩) hgb).trans HC.out.2.1
            clear hsz hpz hb2 HS HB d0 d1 d2
            go_wp2_with fail
            refine (RStop _ _ _ _ _ _ HR2.out (by omega)).mono ?_
            rintro e wz ⟨Az, cz, rfl, hoz, hbz⟩
            have hll : (stopL l id).length ≤ j + 1 := Nat.le_trans (stopL_len _ _) (by omega)
            have mz := m
            have HSz := keep (Both.mk' HS2.out HO2.out hoz.out hbz)
            have HBz := keep (HB2.out.trans (hbz.mono HB2.out.size))
            clear hoz hbz HS2 HR2 HB2 HO2 e1
            generalize stopL l id = lz at HSz hll ⊢
            have d1 := (HBz.out.cell (p := ⟨gb, o + j * 3 + 1, none⟩) hgb).trans HC.out.2.1
            go_wp2_with fail
            refine (At_set _ _ _ _ _ HSz.out.set HID.out).mono ?_
            rintro e wy ⟨rfl, rfl⟩
            go_wp2_with fail
            refine (RAt _ _ _ _ _ _ HSz.out.row (by omega)).mono ?_
            rintro e wy ⟨rfl, rfl⟩
            obtain ⟨xa, hxa⟩ : ∃ xa, atL lz id = xa := ⟨_, rfl⟩
            obtain ⟨xh, hxh⟩ : ∃ xh, hasL lz id = xh := ⟨_, rfl⟩
            rw [hxa, hxh]
            clear hxa hxh d1
            go_wp2_with fail
            refine (Next_set _ _ _ _ HSz.out.set).mono ?_
            rintro e wy ⟨rfl, hby⟩
            have HSy := keep (HSz.out.step hby)
            have HBy := keep (HBz.out.trans (hby.mono HBz.out.size))
            clear hby HSz HBz
            rcases lz with _ | ⟨⟨px, py⟩, rest⟩
            · simp only [hdI, hdA, some', List.length_nil]
              go_wp2_with fail
              refine (Len_set _ _ _ _ HSy.out.set).mono ?_
              rintro e wx ⟨rfl, rfl⟩
              rw [List.length_nil]
              go_wp2
              go_roundw
              case rel => exact ⟨j + 1, _, Az, cz, [], by omega, by go_num, rfl, HSy.out, by simp, HBy.out⟩
              case measure => simp [intOf]; omega
            · obtain ⟨rb, ro, x, y, rfl, hrb, g0, g1, hxy⟩ := HSy.out.row.at_ (j := 0) (by simp)
              obtain ⟨rfl, rfl⟩ : px = x ∧ py = y := by simpa using hxy
              simp only [Nat.zero_mul, Nat.add_zero] at g0 g1
              simp only [hdI, hdA, some']
              clear hxy
              have hLn := Len_set _ _ _ _ HSy.out.set
              have hNp : 0 < ((px, py) :: rest).length := by simp
              generalize hLL : ((px, py) :: rest).length = N at hLn hNp hll ⊢
              have HLn := keep hLn
              have HLL := keep hLL
              clear hLn hLL
              go_wp2_with fail
              refine HLn.out.mono ?_
              rintro e wx ⟨rfl, rfl⟩
              go_wp2
              go_roundw
              case rel => exact ⟨j + 1, _, _, cz, (px, py) :: rest, by omega, by go_num, by rw [HLL.out], HSy.out, by rw [HLL.out]; exact hll, HBy.out⟩
              case measure => simp [intOf]; omega
          · have hw3 : (wh == 1) = false := by simp [hw2]
            clear hw0 hw2
            go_wp2_with fail
            refine (Due_set _ _ _ _ _ HS.out.set (by omega)).mono ?_
            rintro e w2 ⟨A2, c2, rfl, ho2, hsz, hpz⟩
            have HR2 := keep (HS.out.part_row hpz)
            have HN2 := keep (HS.out.part_ne hpz)
            have HS2 := keep hsz
            have hb2 := HS.out.own.below HB.out HB.out.size hpz
            have HB2 := keep hb2
            have HO2 := keep HS.out.own
            have HI2 := keep (IS.of_own ho2.out)
            have hdl : (dueL l t).length ≤ l.length := (List.takeWhile_sublist _).length_le
            have hrl : (restL l t).length ≤ l.length := (List.dropWhile_sublist _).length_le
            have e2 := (hb2.cell (p := ⟨gb, o + j * 3 + 2, none⟩) hgb).trans HC.out.2.2
            clear hsz hpz hb2 ho2 HS HB d0 d1 d2
            go_wp2_with fail
            refine (RDue _ _ _ _ _ _ HR2.out (by omega)).mono ?_
            rintro e w3 ⟨A3, c3, Az, nz, cz, rfl, ho3, hez, hnz, hb3⟩
            obtain rfl : nz = (restL l t).length := hez.1
            have HSz3 := keep (show Both w.heap.size w3 w0.heap.size m Az cz (restL l t) from ⟨HS2.out.step hb3, HO2.out, hez, fun a ha => by
              obtain ⟨a0, h1, h2⟩ := hnz a ha
              have h3 := HN2.out a0 h1
              rw [h2]
              exact ⟨h3.1, Nat.lt_of_lt_of_le h3.2 hb3.size⟩⟩)
            have HB3 := keep (HB2.out.trans (hb3.mono HB2.out.size))
            have HI3 := keep (HI2.out.step hb3)
            have HJ3 := keep (IS.of_own ho3.out)
            clear hez hnz hb3 ho3 HI2 HS2 HR2 HN2 HB2 HO2 e2
            go_wp2_with fail
            refine (same_any _ _ _ _ _ _ _ _ _ HI3.out HJ3.out (by omega) (by omega)).mono ?_
            rintro e wz ⟨rfl, hbz⟩
            rw [sameB_refl]
            have hll : (restL l t).length ≤ j + 1 := by omega
            have HSz := keep (HSz3.out.step hbz)
            have HBz := keep (HB3.out.trans (hbz.mono HB3.out.size))
            clear hbz HSz3 HB3 HI3 HJ3 hdl hrl
            generalize dueL l t = dz
            generalize restL l t = lz at HSz hll ⊢
            have d1 := (HBz.out.cell (p := ⟨gb, o + j * 3 + 1, none⟩) hgb).trans HC.out.2.1
            go_wp2_with fail
            refine (At_set _ _ _ _ _ HSz.out.set HID.out).mono ?_
            rintro e wy ⟨rfl, rfl⟩
            go_wp2_with fail
            refine (RAt _ _ _ _ _ _ HSz.out.row (by omega)).mono ?_
            rintro e wy ⟨rfl, rfl⟩
            obtain ⟨xa, hxa⟩ : ∃ xa, atL lz id = xa := ⟨_, rfl⟩
            obtain ⟨xh, hxh⟩ : ∃ xh, hasL lz id = xh := ⟨_, rfl⟩
            rw [hxa, hxh]
            clear hxa hxh d1
            go_wp2_with fail
            refine (Next_set _ _ _ _ HSz.out.set).mono ?_
            rintro e wy ⟨rfl, hby⟩
            have HSy := keep (HSz.out.step hby)
            have HBy := keep (HBz.out.trans (hby.mono HBz.out.size))
            clear hby HSz HBz
            rcases lz with _ | ⟨⟨px, py⟩, rest⟩
            · simp only [hdI, hdA, some', List.length_nil]
              go_wp2_with fail
              refine (Len_set _ _ _ _ HSy.out.set).mono ?_
              rintro e wx ⟨rfl, rfl⟩
              rw [List.length_nil]
              go_wp2
              go_roundw
              case rel => exact ⟨j + 1, _, Az, cz, [], by omega, by go_num, rfl, HSy.out, by simp, HBy.out⟩
              case measure => simp [intOf]; omega
            · obtain ⟨rb, ro, x, y, rfl, hrb, g0, g1, hxy⟩ := HSy.out.row.at_ (j := 0) (by simp)
              obtain ⟨rfl, rfl⟩ : px = x ∧ py = y := by simpa using hxy
              simp only [Nat.zero_mul, Nat.add_zero] at g0 g1
              simp only [hdI, hdA, some']
              clear hxy
              have hLn := Len_set _ _ _ _ HSy.out.set
              have hNp : 0 < ((px, py) :: rest).length := by simp
              generalize hLL : ((px, py) :: rest).length = N at hLn hNp hll ⊢
              have HLn := keep hLn
              have HLL := keep hLL
              clear hLn hLL
              go_wp2_with fail
              refine HLn.out.mono ?_
              rintro e wx ⟨rfl, rfl⟩
              go_wp2
              go_roundw
              case rel => exact ⟨j + 1, _, _, cz, (px, py) :: rest, by omega, by go_num, by rw [HLL.out], HSy.out, by rw [HLL.out]; exact hll, HBy.out⟩
              case measure => simp [intOf]; omega
      · obtain rfl : n = j := by omega
        go_wp2
        go_ret
        exact ⟨rfl, HB.out⟩
  · have hn2 : 100 < (n : Int) := by omega
    clear ht hn
    go_enter Try.func3, Try.ntmps3
    go_wp2_with fail
    refine (awake_any _).mono ?_
    rintro e w0 ⟨rfl, hb0⟩
    have HB0 := keep hb0
    clear hb0
    go_wp2
    go_ret
    exact ⟨rfl, HB0.out⟩
end Go.Proofs.Ythnhmgdefmahkaa
