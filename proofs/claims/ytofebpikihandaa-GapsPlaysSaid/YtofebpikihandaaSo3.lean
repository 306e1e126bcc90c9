/- The library's sort at numbers of 16 bits: the pivot. -/
import Derived.Test.YtofebpikihandaaSo2
namespace Go.Proofs.Ytofebpikihandaa
open Go.RowKit Go.Sort
set_option linter.unusedVariables false

/-- The block s counts. -/
def Sw (w : World) (s : Nat) : Prop := ∃ k : Int, w.heap[s]? = some (.cells #[.int .i64 k] 3 (0, 0))
/-- A row, and a counter beside it. -/
structure RS (w : World) (g s : Nat) (d : Array Int) : Prop where
  row : Rw w g d
  cnt : Sw w s
  ne : g ≠ s
  lt : g < w.heap.size
theorem RS.next {w w' : World} {g s : Nat} {d : Array Int} (h : RS w g s d) (hp : Part (fun i => i = s) w w') (hs : Sw w' s) : RS w' g s d := ⟨h.row.kept hp h.ne h.lt, hs, h.ne, Nat.lt_of_lt_of_le h.lt hp.size⟩
theorem Sw.drew {w : World} {s : Nat} (h : Sw w s) (q : Nat) : Sw (w.drewN q) s := h
theorem Sw.set {w : World} {s : Nat} (h : Sw w s) (v : Int) : Sw (w.setCell ⟨s, 0, none⟩ (.int .i64 v)) s := by
  obtain ⟨k, h⟩ := h
  refine ⟨v, ?_⟩
  unfold World.setCell
  simp [Array.getElem?_modify, h]

set_option maxHeartbeats 1000000 in
theorem order2_any {g s c a b : Nat} {d : Array Int} {w : World} (h : RS w g s d) (ha : a < d.size) (hb : b < d.size) :
    Calls Try.prog 54 #[.slice (some ⟨g, 0, none⟩) d.size c, .int .i64 a, .int .i64 b, .pointer (some ⟨s, 0, none⟩)] w fun e w' => ∃ x y : Nat, e = .returned (.tuple #[.int .i64 x, .int .i64 y]) ∧ (x = a ∧ y = b ∨ x = b ∧ y = a) ∧ RS w' g s d ∧ Part (fun i => i = s) w w' := by
  have k1 := h.row.cell ha
  have k2 := h.row.cell hb
  obtain ⟨x, hx⟩ : ∃ x, d[a]! = x := ⟨_, rfl⟩
  obtain ⟨y, hy⟩ : ∃ y, d[b]! = y := ⟨_, rfl⟩
  rw [hx] at k1
  rw [hy] at k2
  obtain ⟨k, hk⟩ := h.cnt
  have k3 : w.cell? ⟨s, 0, none⟩ = some (.int .i64 k) := by rw [cell_of_row w s 0 _ _ _ hk]; rfl
  have f3 : w.frozen? ⟨s, 0, none⟩ = false := by simp [World.frozen?, hk]
  have H := keep h
  obtain ⟨n, hn⟩ : ∃ n, d.size = n := ⟨_, rfl⟩
  rw [hn] at ha hb ⊢
  have haz : (a : Int) < (n : Int) := by omega
  have hbz : (b : Int) < (n : Int) := by omega
  clear h hx hy hk hn
  go_enter Try.func54, Try.ntmps54
  go_wp2
  go_quiet (first | (go_at_call 43; refine Calls.quiet_of_same (Less16c _ _ _)))
  go_wp2
  · go_ret2
    refine ⟨b, a, rfl, .inr ⟨rfl, rfl⟩, H.out.next ?_ ?_, ?_⟩
    · exact ((Part.refl (fun i => i = s) w).drewN _).setCell (p := ⟨s, 0, none⟩) (.inl rfl) _
    · exact (H.out.cnt.drew _).set _
    · exact ((Part.refl (fun i => i = s) w).drewN _).setCell (p := ⟨s, 0, none⟩) (.inl rfl) _
  · go_ret2
    exact ⟨a, b, rfl, .inl ⟨rfl, rfl⟩, H.out.next ((Part.refl (fun i => i = s) w).drewN _) (H.out.cnt.drew _), (Part.refl (fun i => i = s) w).drewN _⟩

set_option maxHeartbeats 1000000 in
theorem median_any {g s c a b e : Nat} {d : Array Int} {w : World} (h : RS w g s d) (ha : a < d.size) (hb : b < d.size) (he : e < d.size) :
    Calls Try.prog 52 #[.slice (some ⟨g, 0, none⟩) d.size c, .int .i64 a, .int .i64 b, .int .i64 e, .pointer (some ⟨s, 0, none⟩)] w fun r w' => ∃ x : Nat, r = .returned (.int .i64 x) ∧ (x = a ∨ x = b ∨ x = e) ∧ RS w' g s d ∧ Part (fun i => i = s) w w' := by
  have H := keep h
  obtain ⟨n, hn⟩ : ∃ n, d.size = n := ⟨_, rfl⟩
  have HN := keep hn
  rw [hn] at ha hb he ⊢
  have HO := keep (fun (x y : Nat) (w : World) (h : RS w g s d) (hx : x < n) (hy : y < n) => (by have := order2_any (c := c) h (a := x) (b := y) (by rw [hn]; exact hx) (by rw [hn]; exact hy); rw [hn] at this; exact this : Calls Try.prog 54 #[.slice (some ⟨g, 0, none⟩) n c, .int .i64 x, .int .i64 y, .pointer (some ⟨s, 0, none⟩)] w fun e w' => ∃ x' y' : Nat, e = .returned (.tuple #[.int .i64 x', .int .i64 y']) ∧ (x' = x ∧ y' = y ∨ x' = y ∧ y' = x) ∧ RS w' g s d ∧ Part (fun i => i = s) w w'))
  have HA := keep (And.intro ha (And.intro hb he))
  clear h hn ha hb he
  go_enter Try.func52, Try.ntmps52
  go_wp2_with fail
  refine (HO.out a b w H.out HA.out.1 HA.out.2.1).mono ?_
  rintro r w1 ⟨x1, y1, rfl, hc1, h1⟩
  have C1 := keep hc1
  replace h1 := keep h1
  clear hc1
  go_wp2_with fail
  refine (HO.out y1 e w1 h1.out.1 (by have := C1.out; have := HA.out; omega) HA.out.2.2).mono ?_
  rintro r w2 ⟨x2, y2, rfl, hc2, h2⟩
  have C2 := keep hc2
  replace h2 := keep h2
  clear hc2
  go_wp2_with fail
  refine (HO.out x1 x2 w2 h2.out.1 (by have := C1.out; have := HA.out; omega) (by have := C1.out; have := C2.out; have := HA.out; omega)).mono ?_
  rintro r w3 ⟨x3, y3, rfl, hc3, h3⟩
  have C3 := keep hc3
  replace h3 := keep h3
  clear hc3
  go_wp2_with fail
  go_ret
  refine ⟨y3, rfl, ?_, h3.out.1, (h1.out.2.trans h2.out.2 fun i hi => .inl hi).trans h3.out.2 fun i hi => .inl hi⟩
  have := C1.out
  have := C2.out
  have := C3.out
  omega

theorem medianAdj_any {g s c a : Nat} {d : Array Int} {w : World} (h : RS w g s d) (h1 : 1 ≤ a) (h2 : a + 1 < d.size) (h3 : d.size ≤ 1000000) :
    Calls Try.prog 51 #[.slice (some ⟨g, 0, none⟩) d.size c, .int .i64 a, .pointer (some ⟨s, 0, none⟩)] w fun r w' => ∃ x : Nat, r = .returned (.int .i64 x) ∧ (a ≤ x + 1 ∧ x ≤ a + 1) ∧ RS w' g s d ∧ Part (fun i => i = s) w w' := by
  have HM := keep (median_any (c := c) h (a := a - 1) (b := a) (e := a + 1) (by omega) (by omega) h2)
  rw [show ((a - 1 : Nat) : Int) = (a : Int) - 1 by omega, show ((a + 1 : Nat) : Int) = (a : Int) + 1 by omega] at HM
  have ha : (1 : Int) ≤ (a : Int) := by omega
  have hb : (a : Int) < 1000000 := by omega
  obtain ⟨n, hn⟩ : ∃ n, d.size = n := ⟨_, rfl⟩
  rw [hn] at HM ⊢
  have H1 := keep h1
  clear h h2 h3 hn h1
  go_enter Try.func51, Try.ntmps51
  go_wp2_with (go_at_call 52; refine HM.out.mono ?_; rintro r w1 ⟨x, rfl, hx, h1⟩; replace hx := keep hx; replace h1 := keep h1)
  go_ret
  exact ⟨x, rfl, by have := hx.out; have := H1.out; omega, h1.out⟩

set_option maxHeartbeats 2000000 in
theorem pivot_any {g c a b : Nat} {d : Array Int} {w : World} (h : Rw w g d) (hg : g < w.heap.size) (hab : a + 12 < b) (hb : b ≤ d.size) (hs : d.size ≤ 1000000) :
    Calls Try.prog 40 #[.slice (some ⟨g, 0, none⟩) d.size c, .int .i64 a, .int .i64 b] w fun e w' => ∃ (p : Nat) (t : Int), e = .returned (.tuple #[.int .i64 p, .int .i64 t]) ∧ (a ≤ p ∧ p < b) ∧ Below w.heap.size w w' := by
  obtain ⟨l, hl⟩ : ∃ l : Nat, (b : Int) - (a : Int) = (l : Int) := ⟨b - a, by omega⟩
  obtain ⟨q, hq⟩ : ∃ q : Nat, (l : Int) / 4 = (q : Int) := ⟨l / 4, by omega⟩
  have h8 : (8 : Int) ≤ (l : Int) := by omega
  have Q := keep (show 3 ≤ q ∧ q * 4 ≤ l ∧ l < q * 4 + 4 ∧ a + l = b ∧ b ≤ d.size ∧ d.size ≤ 1000000 by omega)
  have az : (a : Int) ≤ 1000000 := by omega
  have qz : (q : Int) ≤ 1000000 := by omega
  have hrs : RS (w.alloc (.cells #[.int .i64 0] 3)) g w.heap.size d := ⟨h.kept (Part.of_below (fun _ => False) (below_lay w _)) (fun hc => hc) hg, ⟨0, heap_alloc_new w _⟩, by omega, by simp; omega⟩
  have HR := keep hrs
  have HB := keep (below_lay w (.cells #[.int .i64 0] 3))
  have HS := keep (show (w.alloc (.cells #[.int .i64 0] 3)).heap.size = w.heap.size + 1 by simp)
  clear h hg hrs hab hb hs
  have fin : ∀ (w2 : World), RS w2 g w.heap.size d → Part (fun i => i = w.heap.size) (w.alloc (.cells #[.int .i64 0] 3)) w2 → (∃ k : Int, w2.cell? ⟨w.heap.size, 0, none⟩ = some (.int .i64 k)) ∧ Below w.heap.size w w2 := fun w2 h2 hp => by
    obtain ⟨k, hk⟩ := h2.cnt
    exact ⟨⟨k, by rw [cell_of_row w2 _ 0 _ _ _ hk]; rfl⟩, HB.out.trans (hp.below (by rw [HS.out]; omega) fun i hi => by omega)⟩
  have FIN := keep fin
  clear fin
  by_cases h50 : (50 : Int) ≤ (l : Int)
  · have M1 := keep (fun (w2 : World) (h2 : RS w2 g w.heap.size d) => medianAdj_any (c := c) h2 (a := a + q) (by have := Q.out; omega) (by have := Q.out; omega) Q.out.2.2.2.2.2)
    have M2 := keep (fun (w2 : World) (h2 : RS w2 g w.heap.size d) => medianAdj_any (c := c) h2 (a := a + q * 2) (by have := Q.out; omega) (by have := Q.out; omega) Q.out.2.2.2.2.2)
    have M3 := keep (fun (w2 : World) (h2 : RS w2 g w.heap.size d) => medianAdj_any (c := c) h2 (a := a + q * 3) (by have := Q.out; omega) (by have := Q.out; omega) Q.out.2.2.2.2.2)
    rw [show ((a + q : Nat) : Int) = (a : Int) + (q : Int) by omega] at M1
    rw [show ((a + q * 2 : Nat) : Int) = (a : Int) + (q : Int) * 2 by omega] at M2
    rw [show ((a + q * 3 : Nat) : Int) = (a : Int) + (q : Int) * 3 by omega] at M3
    go_enter Try.func40, Try.ntmps40
    go_wp2_with fail
    refine (M1.out _ HR.out).mono ?_
    rintro r w1 ⟨x1, rfl, hx1, h1⟩
    replace hx1 := keep hx1
    replace h1 := keep h1
    go_wp2_with fail
    refine (M2.out _ h1.out.1).mono ?_
    rintro r w2 ⟨x2, rfl, hx2, h2⟩
    replace hx2 := keep hx2
    replace h2 := keep h2
    go_wp2_with fail
    refine (M3.out _ h2.out.1).mono ?_
    rintro r w3 ⟨x3, rfl, hx3, h3⟩
    replace hx3 := keep hx3
    replace h3 := keep h3
    go_wp2_with fail
    refine (median_any h3.out.1 (by have := Q.out; have := hx1.out; omega) (by have := Q.out; have := hx2.out; omega) (by have := Q.out; have := hx3.out; omega)).mono ?_
    rintro r w4 ⟨x4, rfl, hx4, h4⟩
    have X := keep (show a ≤ x4 ∧ x4 < b by have := Q.out; have := hx1.out; have := hx2.out; have := hx3.out; omega)
    obtain ⟨⟨k, hk⟩, hbel⟩ := FIN.out w4 h4.1 (((h1.out.2.trans h2.out.2 fun i hi => .inl hi).trans h3.out.2 fun i hi => .inl hi).trans h4.2 fun i hi => .inl hi)
    have HBel := keep hbel
    clear hbel h4 hx4
    by_cases k0 : k = 0
    · subst k0
      go_wp2_with fail
      go_ret2
      exact ⟨x4, _, rfl, X.out, HBel.out⟩
    · by_cases k12 : k = 12
      · subst k12
        go_wp2_with fail
        go_ret2
        exact ⟨x4, _, rfl, X.out, HBel.out⟩
      · have k0' : (k == 0) = false := by simp [k0]
        have k12' : (k == 12) = false := by simp [k12]
        go_wp2_with fail
        go_ret2
        exact ⟨x4, _, rfl, X.out, HBel.out⟩
  · have M1 := keep (fun (w2 : World) (h2 : RS w2 g w.heap.size d) => median_any (c := c) h2 (a := a + q) (b := a + q * 2) (e := a + q * 3) (by have := Q.out; omega) (by have := Q.out; omega) (by have := Q.out; omega))
    rw [show ((a + q : Nat) : Int) = (a : Int) + (q : Int) by omega, show ((a + q * 2 : Nat) : Int) = (a : Int) + (q : Int) * 2 by omega, show ((a + q * 3 : Nat) : Int) = (a : Int) + (q : Int) * 3 by omega] at M1
    go_enter Try.func40, Try.ntmps40
    go_wp2_with fail
    refine (M1.out _ HR.out).mono ?_
    rintro r w4 ⟨x4, rfl, hx4, h4⟩
    have X := keep (show a ≤ x4 ∧ x4 < b by have := Q.out; omega)
    obtain ⟨⟨k, hk⟩, hbel⟩ := FIN.out w4 h4.1 h4.2
    have HBel := keep hbel
    clear hbel h4 hx4
    by_cases k0 : k = 0
    · subst k0
      go_wp2_with fail
      go_ret2
      exact ⟨x4, _, rfl, X.out, HBel.out⟩
    · by_cases k12 : k = 12
      · subst k12
        go_wp2_with fail
        go_ret2
        exact ⟨x4, _, rfl, X.out, HBel.out⟩
      · have k0' : (k == 0) = false := by simp [k0]
        have k12' : (k == 12) = false := by simp [k12]
        go_wp2_with fail
        go_ret2
        exact ⟨x4, _, rfl, X.out, HBel.out⟩
end Go.Proofs.Ytofebpikihandaa
