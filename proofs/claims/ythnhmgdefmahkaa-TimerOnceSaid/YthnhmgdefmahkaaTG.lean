/- Two rows of numbers held against each other; the document's example. -/
import Derived.Deep.QuietTactic
import Derived.BigQuiet
import Derived.Test.YthnhmgdefmahkaaTF
namespace Go.Proofs.Ythnhmgdefmahkaa
open Go.RowKit
set_option linter.unusedVariables false

/-- The slice at A, of n numbers, reads as zs. -/
def IS (w : World) (A : Option Addr) (n : Nat) (zs : List Int) : Prop := n = zs.length ∧ SR w A (zs.map (.int .i64))
theorem IS.step {w w' : World} {A : Option Addr} {n : Nat} {zs : List Int} (h : IS w A n zs) (hb : Below w.heap.size w w') : IS w' A n zs := ⟨h.1, h.2.step hb⟩
theorem IS.at_ {w : World} {A : Option Addr} {n : Nat} {zs : List Int} (h : IS w A n zs) {j : Nat} (hj : j < n) :
    ∃ b o z, A = some ⟨b, o, none⟩ ∧ b < w.heap.size ∧ w.cell? ⟨b, o + j, none⟩ = some (.int .i64 z) ∧ zs[j]? = some z := by
  have hl : j < zs.length := by have := h.1; omega
  obtain ⟨b, o, e, hlt, hc⟩ := h.2.at_ (j := j) (by simpa using hl)
  exact ⟨b, o, zs[j], e, hlt, by simpa using hc, List.getElem?_eq_getElem hl⟩
/-- The ids of timers. -/
def idsL (l : List (Int × Int)) : List Int := l.map (·.1)
theorem ints_ids (l : List (Int × Int)) : ints l = (idsL l).map (.int .i64) := by simp [ints, idsL]
theorem IS.of_own {w : World} {base : Nat} {e : TypeId} {n c : Nat} {A : Option Addr} {l : List (Int × Int)} (h : w.ownsRow base e 1 (.slice A n c) n (ints l)) : IS w A n (idsL l) := by
  have hs := SR.of_own2 h
  have hl := h.1
  rw [ints_len] at hl
  rw [ints_ids] at hs
  exact ⟨by simp [idsL]; omega, hs⟩

/-- Are numbers the same? -/
def sameB (xs ys : List Int) : Bool := decide (xs = ys)
theorem same_take {xs ys : List Int} {j : Nat} {x y : Int} (h : xs.take j = ys.take j) (hx : xs[j]? = some x) (hy : ys[j]? = some y) (e : x = y) : xs.take (j + 1) = ys.take (j + 1) := by
  rw [List.take_add_one, List.take_add_one, h, hx, hy, e]

set_option maxHeartbeats 1000000 in
theorem same_any (A : Option Addr) (n c : Nat) (xs : List Int) (B : Option Addr) (m d : Nat) (ys : List Int) (w : World) (ha : IS w A n xs) (hb : IS w B m ys) (hn : n ≤ 1000000) (hm : m ≤ 1000000) :
    Calls Try.prog 15 #[.slice A n c, .slice B m d] w fun e w' => e = .returned (.bool (sameB xs ys)) ∧ Below w.heap.size w w' := by
  by_cases hnm : n = m
  · subst hnm
    have HA := keep ha
    have HB := keep hb
    clear ha hb
    go_enter Try.func15, Try.ntmps15
    go_wp2
    go_loopw [5] (fun i wr => ∃ j : Nat, j ≤ n ∧ i = .int .i64 j ∧ Hid (xs.take j = ys.take j) ∧ Below w.heap.size w wr)
      (fun i _ => n - (intOf i).toNat)
    case atStart => exact ⟨0, Nat.zero_le _, rfl, by simp [Hid], Below.refl _ _⟩
    case round =>
      obtain ⟨j, hj, rfl, htk, hb⟩ := hrel
      have HW := keep hb
      clear hb
      by_cases hlt : j < n
      · obtain ⟨b, o, x, rfl, hbl, hc0, hx⟩ := (HA.out.step HW.out).at_ hlt
        obtain ⟨b2, o2, y, rfl, hbl2, hd0, hy⟩ := (HB.out.step HW.out).at_ hlt
        by_cases hxy : x = y
        · have HT := keep (same_take htk.out hx hy hxy)
          subst hxy
          clear htk hx hy
          go_wp2
          go_quiet (fail)
          go_wp2
          go_roundw
          case rel => exact ⟨j + 1, by omega, by go_num, HT.out, below_drewN HW.out _⟩
          case measure => simp [intOf]; omega
        · have hne : sameB xs ys = false := by
            unfold sameB
            refine decide_eq_false fun e => hxy ?_
            rw [e, hy] at hx
            exact (Option.some.inj hx).symm
          have HN := keep hne
          have h1 : (x != y) = true := by simp [hxy]
          have h2 : (x == y) = false := by simp [hxy]
          clear htk hx hy hne
          go_wp2
          go_quiet (fail)
          go_wp2
          go_ret
          rw [HN.out]
          exact ⟨rfl, below_drewN HW.out _⟩
      · have hsm : sameB xs ys = true := by
          unfold sameB
          have h1 := htk.out
          rw [List.take_of_length_le (by have := HA.out.1; omega), List.take_of_length_le (by have := HB.out.1; omega)] at h1
          exact decide_eq_true h1
        have HN := keep hsm
        clear htk hsm
        go_wp2
        go_ret
        rw [HN.out]
        exact ⟨rfl, HW.out⟩
  · have hne : sameB xs ys = false := by
      unfold sameB
      refine decide_eq_false fun e => hnm ?_
      rw [ha.1, hb.1, e]
    rw [hne]
    have h1 : ((n : Int) != (m : Int)) = true := by simp; omega
    have h2 : ((n : Int) == (m : Int)) = false := by simp; omega
    clear ha hb hne
    go_enter Try.func15, Try.ntmps15
    go_wp2
    go_ret
    exact ⟨rfl, Below.refl _ _⟩

/-- A set's blocks lie from base on. -/
def OwnB (base b : Nat) (m : Option Nat) : Prop := base ≤ b ∧ ∀ k, m = some k → base ≤ k
theorem OwnB.ow {base b : Nat} {m : Option Nat} (h : OwnB base b m) {k : Nat} (hk : Ow b m k) : base ≤ k := by
  rcases hk with rfl | hk
  · exact h.1
  · exact h.2 k hk
theorem OwnB.below {base b : Nat} {m : Option Nat} {a w w' : World} (h : OwnB base b m) (hb : Below base a w) (hs : base ≤ w.heap.size) (hp : Part (Ow b m) w w') : Below base a w' :=
  hb.trans (hp.below hs fun k hk => h.ow hk)
theorem Started.go {base b : Nat} {m : Option Nat} {l' : List (Int × Int)} {a w w' : World} (h : Started w b m l' w') (ho : OwnB base b m) (hb : Below base a w) (hs : base ≤ w.heap.size) : ∃ m', SetAt w' b m' l' ∧ OwnB base b m' ∧ Below base a w' ∧ base ≤ w'.heap.size := by
  obtain ⟨m', h1, h2, h3⟩ := h
  refine ⟨m', h1, ⟨ho.1, fun k hk => ?_⟩, ho.below hb hs h3, Nat.le_trans hs h3.size⟩
  rcases h2 with rfl | ⟨k', rfl, hk'⟩
  · exact ho.2 k hk
  · injection hk with e
    omega

set_option maxHeartbeats 2000000 in
set_option maxRecDepth 100000 in
theorem awake_any (w : World) : Calls Try.prog 8 #[] w fun e w' => e = .returned (.bool true) ∧ Below w.heap.size w w' := by
  have hs0 := SetAt.fresh w
  have HS0 := keep hs0
  have ho0 : OwnB w.heap.size w.heap.size none := ⟨Nat.le_refl _, fun k hk => by cases hk⟩
  have HO0 := keep ho0
  clear hs0 ho0
  go_enter Try.func8, Try.ntmps8
  go_wp2_with fail
  refine (Start_set _ _ _ 1 5 _ HS0.out (by decide) (by decide) (by decide)).mono ?_
  rintro e w1 ⟨rfl, hst⟩
  obtain ⟨m1, hs1, ho1, hb1, hz1⟩ := hst.go HO0.out (below_lay w _) (by simp)
  rw [show startL [] 1 5 = [(1, 5)] by decide] at hs1
  replace hs1 := keep hs1
  replace ho1 := keep ho1
  replace hb1 := keep hb1
  clear hst HS0 HO0
  go_wp2_with fail
  refine (Start_set _ _ _ 2 3 _ hs1.out (by decide) (by decide) (by decide)).mono ?_
  rintro e w2 ⟨rfl, hst⟩
  obtain ⟨m2, hs2, ho2, hb2, hz2⟩ := hst.go ho1.out hb1.out hz1
  rw [show startL [(1, 5)] 2 3 = [(2, 3), (1, 5)] by decide] at hs2
  replace hs2 := keep hs2
  replace ho2 := keep ho2
  replace hb2 := keep hb2
  clear hst hs1 ho1 hb1 hz1
  go_wp2_with fail
  refine (Start_set _ _ _ 3 5 _ hs2.out (by decide) (by decide) (by decide)).mono ?_
  rintro e w3 ⟨rfl, hst⟩
  obtain ⟨m3, hs3, ho3, hb3, hz3⟩ := hst.go ho2.out hb2.out hz2
  rw [show startL [(2, 3), (1, 5)] 3 5 = [(2, 3), (1, 5), (3, 5)] by decide] at hs3
  replace hs3 := keep hs3
  replace ho3 := keep ho3
  replace hb3 := keep hb3
  clear hst hs2 ho2 hb2 hz2
  go_wp2_with fail
  refine (Next_set _ _ _ _ hs3.out).mono ?_
  rintro e w4 ⟨rfl, hn⟩
  have hb4 := keep (hb3.out.trans (hn.mono hz3))
  have hs4 := keep (hs3.out.step hn)
  have hz4 : w.heap.size ≤ w4.heap.size := by have := hn.size; omega
  clear hn hs3 hb3 hz3
  simp only [hdI, hdA, some']
  go_wp2_with fail
  refine (Due_set _ _ _ 5 _ hs4.out (by decide)).mono ?_
  rintro e w5 ⟨A5, c5, rfl, ho5, hs5, hp5⟩
  have hd : dueL [(2, 3), (1, 5), (3, 5)] 5 = [(2, 3), (1, 5), (3, 5)] := by decide
  have hr : restL [(2, 3), (1, 5), (3, 5)] 5 = [] := by decide
  rw [hd] at ho5 ⊢
  rw [hr] at hs5
  have hb5 := keep (ho3.out.below hb4.out hz4 hp5)
  have hI := keep (IS.of_own ho5.out)
  have hz5 : w.heap.size ≤ w5.heap.size := by have := hp5.size; omega
  replace hs5 := keep hs5
  clear hd hr hp5 hs4 hb4 ho5 hz4
  go_wp2_with fail
  have hI' : IS w5 A5 3 [2, 1, 3] := hI.out
  refine (same_any A5 3 c5 [2, 1, 3] (some ⟨w5.heap.size, 0, none⟩) 3 3 [2, 1, 3] _ (hI'.step (below_lay w5 _)) ⟨rfl, SR.row (t := 3) (fr := (0, 0)) (cur := #[.int .i64 2, .int .i64 1, .int .i64 3]) (heap_alloc_new w5 _)⟩ (by decide) (by decide)).mono ?_
  rintro e w6 ⟨rfl, hn⟩
  have hb6 := keep ((hb5.out.alloc hz5 (.cells #[.int .i64 2, .int .i64 1, .int .i64 3] 3)).trans (hn.mono (by simp; omega)))
  have hs6 := keep ((hs5.out.step (below_lay w5 (.cells #[.int .i64 2, .int .i64 1, .int .i64 3] 3))).step hn)
  rw [show sameB [2, 1, 3] [2, 1, 3] = true by decide]
  clear hI' hI hn hs5 hb5 hz5
  go_wp2_with fail
  refine (Len_set _ _ _ _ hs6.out).mono ?_
  rintro e w7 ⟨rfl, rfl⟩
  rw [List.length_nil]
  go_wp2
  go_ret
  exact ⟨rfl, hb6.out⟩

set_option maxHeartbeats 2000000 in
set_option maxRecDepth 100000 in
theorem timerNone_walk (id t : Int) (w : World) (hid : (Lit.int .i64 id).wf = true) (ht : (Lit.int .i64 t).wf = true) :
    Calls Try.prog 5 #[.int .i64 id, .int .i64 t] w fun e w' => e = .returned (.bool true) ∧ Below w.heap.size w w' := by
  have HI := keep hid
  clear hid ht
  go_enter Try.func5, Try.ntmps5
  go_wp2_with fail
  refine (awake_any _).mono ?_
  rintro e w1 ⟨rfl, hb1⟩
  have HB1 := keep hb1
  clear hb1
  go_wp2_with fail
  refine (Start_nil _ _ _).mono ?_
  rintro e w2 ⟨rfl, rfl⟩
  go_wp2_with fail
  refine (Stop_bare (.inl rfl) _ HI.out).mono ?_
  rintro e w2 ⟨rfl, rfl⟩
  go_wp2_with fail
  refine (At_bare (.inl rfl) _ HI.out).mono ?_
  rintro e w2 ⟨rfl, rfl⟩
  go_wp2_with fail
  refine (Next_bare (.inl rfl)).mono ?_
  rintro e w3 ⟨rfl, hb3⟩
  have HB3 := keep (HB1.out.trans (hb3.mono HB1.out.size))
  have hz3 : w.heap.size ≤ w3.heap.size := HB3.out.size
  clear hb3 HB1
  go_wp2_with fail
  refine (Due_bare (.inl rfl) _).mono ?_
  rintro e w4 ⟨A, c, rfl, ho, hb4⟩
  have HB4 := keep (HB3.out.trans (hb4.mono hz3))
  clear ho hb4 HB3 hz3
  go_wp2_with fail
  refine (Len_bare (.inl rfl)).mono ?_
  rintro e w5 ⟨rfl, rfl⟩
  go_wp2
  go_ret
  exact ⟨rfl, HB4.out⟩
end Go.Proofs.Ythnhmgdefmahkaa
