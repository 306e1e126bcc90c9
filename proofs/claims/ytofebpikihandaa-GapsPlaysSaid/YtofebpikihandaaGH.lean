/- A set of the call's own, in the words of the document; the document's example. -/
import Derived.Test.YtofebpikihandaaGG
namespace Go.Proofs.Ytofebpikihandaa
open Go.RowKit Go.Maps
set_option linter.unusedVariables false
set_option linter.unusedSimpArgs false

theorem SR.own {w : World} {base n c : Nat} {e : TypeId} {size : Nat} {A : Option Addr} {xs : List Value} (h : w.ownsRow base e size (.slice A n c) n xs) : SR w A xs := fun hx => by
  obtain ⟨u, hu⟩ : ∃ u, xs[0]? = some u := ⟨_, List.getElem?_eq_getElem (List.length_pos_iff.2 hx)⟩
  obtain ⟨g, c', hv, _, _, hlt, _⟩ := own_at h hu
  injection hv with hv _ _
  refine ⟨g, 0, hv, hlt, fun j u hu => ?_⟩
  obtain ⟨g', c2, hv', _, _, _, hc, _⟩ := own_at h hu
  injection hv' with hv' _ _
  rw [hv] at hv'
  injection hv' with hv'
  injection hv' with hv'
  rw [Nat.zero_add, hv']
  exact hc
/-- A set of the call's own, nothing else written since w0. -/
structure Mine (w0 w : World) (b k : Nat) (v : Value) (s : St) : Prop where
  set : SA w b k v s
  own : ∀ i, Ow b k v i → w0.heap.size ≤ i
  bel : Below w0.heap.size w0 w
def Kept (w0 w : World) (b k : Nat) (s : St) : Prop := ∃ v, Mine w0 w b k v s
theorem Kept.below {w0 w : World} {b k : Nat} {s : St} (h : Kept w0 w b k s) : Below w0.heap.size w0 w := h.choose_spec.bel
theorem Kept.step {w0 w w' : World} {b k : Nat} {s : St} (h : Kept w0 w b k s) (hb : Below w.heap.size w w') : Kept w0 w' b k s := by
  obtain ⟨v, h1, h2, h3⟩ := h
  exact ⟨v, h1.step hb, h2, h3.trans (hb.mono h3.size)⟩
theorem Kept.turn {w0 w w' : World} {b k : Nat} {v : Value} {s s' : St} (h : Mine w0 w b k v s) (ht : Turned w b k v s'.f s'.L s'.T w') : Kept w0 w' b k s' := by
  obtain ⟨v', h1, h2, h3⟩ := ht
  refine ⟨v', h1, fun i hi => ?_, h.bel.trans (h3.below h.bel.size fun i hi => h.own i hi)⟩
  rcases hi with hi | hi | hi
  · exact h.own i (.inl hi)
  · exact h.own i (.inr (.inl hi))
  · rcases h2 with h2 | h2 | ⟨g, h2, hg⟩
    · rw [h2] at hi
      exact h.own i (.inr (.inr hi))
    · rw [h2] at hi
      simp [Value.ownBlock] at hi
    · rw [h2] at hi
      injection hi with hi
      rw [← hi]
      exact Nat.le_trans h.bel.size hg

theorem New_kept (n : Int) (n0 : 0 ≤ n) (n1 : n < 4294967296) (w0 w : World) (hw : Below w0.heap.size w0 w) :
    Calls Try.prog 6 #[.int .u32 n] w fun e w' => ∃ b k, e = .returned (.pointer (some ⟨b, 0, none⟩)) ∧ Kept w0 w' b k (St.new n) := by
  refine (New_any n n0 n1 w).mono ?_
  rintro e w' ⟨b, k, rfl, h1, h2, h3, h4⟩
  refine ⟨b, k, rfl, .slice none 0 0, h1, fun i hi => ?_, hw.trans (h4.mono hw.size)⟩
  rcases hi with rfl | rfl | hi
  · exact Nat.le_trans hw.size h2
  · exact Nat.le_trans hw.size h3
  · simp [Value.ownBlock] at hi
theorem Add_kept {w0 w : World} {b k : Nat} {s : St} (h : Kept w0 w b k s) {n : Int} (n0 : 0 ≤ n) (n1 : n < 4294967296) :
    Calls Try.prog 8 #[.pointer (some ⟨b, 0, none⟩), .int .u32 n] w fun e w' => e = .returned (.int .i64 (s.told n)) ∧ Kept w0 w' b k (s.add n) := by
  obtain ⟨v, h⟩ := h
  exact (Add_set h.set n0 n1).mono fun e w' he => ⟨he.1, Kept.turn h he.2⟩
theorem Forward_kept {w0 w : World} {b k : Nat} {s : St} (h : Kept w0 w b k s) {n : Int} (n0 : 0 ≤ n) (n1 : n < 4294967296) :
    Calls Try.prog 10 #[.pointer (some ⟨b, 0, none⟩), .int .u32 n] w fun e w' => e = .returned (.tuple #[]) ∧ Kept w0 w' b k (s.fwd n) := by
  obtain ⟨v, h⟩ := h
  refine (Forward_set h.set n0 n1).mono ?_
  rintro e w' ⟨rfl, h1, h2⟩
  exact ⟨rfl, v, h1, h.own, h.bel.trans (h2.below h.bel.size fun i hi => h.own i (hi.elim .inl fun hi => .inr (.inl hi)))⟩
theorem Has_kept {w0 w : World} {b k : Nat} {s : St} (h : Kept w0 w b k s) {n : Int} (n0 : 0 ≤ n) (n1 : n < 4294967296) :
    Calls Try.prog 21 #[.pointer (some ⟨b, 0, none⟩), .int .u32 n] w fun e w' => e = .returned (.bool (had s.f s.L n)) ∧ Kept w0 w' b k s := by
  obtain ⟨v, hm⟩ := h
  exact (Has_set hm.set n0 n1).mono fun e w' he => ⟨he.1, Kept.step ⟨v, hm⟩ he.2⟩
theorem Cum_kept {w0 w : World} {b k : Nat} {s : St} (h : Kept w0 w b k s) :
    Calls Try.prog 15 #[.pointer (some ⟨b, 0, none⟩)] w fun e w' => e = .returned (.int .u32 s.f) ∧ w = w' := Cum_set h.choose_spec.set
theorem Len_kept {w0 w : World} {b k : Nat} {s : St} (h : Kept w0 w b k s) :
    Calls Try.prog 16 #[.pointer (some ⟨b, 0, none⟩)] w fun e w' => e = .returned (.int .i64 (s.L.length : Int)) ∧ w = w' := Len_set h.choose_spec.set
theorem Blocks_kept {N : Nat} (hN : SortOK N) {w0 w : World} {b k : Nat} {s : St} (h : Kept w0 w b k s) (hL : s.L.length ≤ N) :
    Calls Try.prog 19 #[.pointer (some ⟨b, 0, none⟩)] w fun e w' => ∃ A c, e = .returned (.slice A (runs s.L).length c) ∧ SR w' A (prs (runs s.L)) ∧ Kept w0 w' b k s ∧ Below w.heap.size w w' := by
  obtain ⟨v, hm⟩ := h
  refine (Blocks_set hN hm.set hL).mono ?_
  rintro e w' ⟨A, c, rfl, h1, h2, h3⟩
  exact ⟨A, c, rfl, SR.own h2, Kept.step ⟨v, hm⟩ h3, h3⟩
theorem Dups_kept {w0 w : World} {b k : Nat} {s : St} (h : Kept w0 w b k s) :
    Calls Try.prog 13 #[.pointer (some ⟨b, 0, none⟩)] w fun e w' => ∃ A c, e = .returned (.slice A s.T.length c) ∧ SR w' A (u32s s.T) ∧ Kept w0 w' b k ⟨s.f, s.L, []⟩ := by
  obtain ⟨v, hm⟩ := h
  obtain ⟨A, c, hv, _⟩ := own_shape hm.set.row
  refine (Dups_set hm.set).mono ?_
  rintro e w' ⟨rfl, h1, h2, h3⟩
  refine ⟨A, c, by rw [hv], ?_, .slice none 0 0, h1, fun i hi => ?_, hm.bel.trans (h3.below hm.bel.size fun i hi => hm.own i (.inl hi))⟩
  · rw [hv] at h2
    exact SR.of_own h2
  · rcases hi with hi | hi | hi
    · exact hm.own i (.inl hi)
    · exact hm.own i (.inr (.inl hi))
    · simp [Value.ownBlock] at hi
theorem Kept.fit {w0 w : World} {b k : Nat} {s : St} (h : Kept w0 w b k s) : Fit s.L ∧ 0 ≤ s.f ∧ s.f < 4294967296 ∧ s.T.length ≤ 64 := let m := h.choose_spec.set; ⟨m.map.1, m.lo, m.hi, m.few⟩

def s1 : St := (St.new 10).add 12
def s2 : St := s1.add 13
def s3 : St := s2.add 10
def s4 : St := s3.add 11
def s5 : St := s4.add 12
theorem s1_is : (St.new 10).told 12 = 0 ∧ s1.f = 9 ∧ s1.L = [3] ∧ s1.T = [] := by decide +kernel
theorem s2_is : s1.told 13 = 0 ∧ s2.f = 9 ∧ s2.L = [3, 4] ∧ s2.T = [] := by decide +kernel
theorem s3_is : s2.told 10 = 0 ∧ s3.f = 10 ∧ s3.L = [2, 3] ∧ s3.T = [] ∧ runs s3.L = [(2, 3)] := by decide +kernel
theorem s4_is : s3.told 11 = 0 ∧ s4.f = 13 ∧ s4.L = [] ∧ s4.T = [] := by decide +kernel
theorem s5_is : s4.told 12 = 1 ∧ s5.f = 13 ∧ s5.L = [] ∧ s5.T = [12] := by decide +kernel

set_option maxHeartbeats 8000000 in
theorem awake_any (w : World) : Calls Try.prog 5 #[] w fun e w' => e = .returned (.bool true) ∧ Below w.heap.size w w' := by
  obtain ⟨t1, f1, l1, d1⟩ := s1_is
  obtain ⟨t2, f2, l2, d2⟩ := s2_is
  obtain ⟨t3, f3, l3, d3, r3⟩ := s3_is
  obtain ⟨t4, f4, l4, d4⟩ := s4_is
  obtain ⟨t5, f5, l5, d5⟩ := s5_is
  go_enter Try.func5, Try.ntmps5
  go_wp2_with fail
  refine (New_kept 10 (by decide) (by decide) w _ (Below.refl _ _)).mono ?_
  rintro e w1 ⟨b, k, rfl, h1⟩
  replace h1 := keep h1
  go_wp2_with fail
  refine (Add_kept h1.out (n := 12) (by decide) (by decide)).mono ?_
  rintro e w2 ⟨rfl, h2⟩
  rw [t1]
  replace h2 := keep (show Kept w w2 b k s1 from h2)
  go_wp2_with fail
  refine (Add_kept h2.out (n := 13) (by decide) (by decide)).mono ?_
  rintro e w3 ⟨rfl, h3⟩
  rw [t2]
  replace h3 := keep (show Kept w w3 b k s2 from h3)
  go_wp2_with fail
  refine (Add_kept h3.out (n := 10) (by decide) (by decide)).mono ?_
  rintro e w4 ⟨rfl, h4⟩
  rw [t3]
  replace h4 := keep (show Kept w w4 b k s3 from h4)
  go_wp2_with fail
  refine (Blocks_kept sort_twelve h4.out (by rw [l3]; decide)).mono ?_
  rintro e w5 ⟨A, c, rfl, hb5, h5, _⟩
  rw [r3] at hb5 ⊢
  replace h5 := keep h5
  replace hb5 := keep hb5
  go_wp2_with fail
  refine (Cum_kept h5.out).mono ?_
  rintro e w' ⟨rfl, rfl⟩
  rw [f3]
  go_wp2_with fail
  have y1 := below_lay w5 (.cells #[.int .u16 2, .int .u16 3] 49)
  refine (blocks_same (P := [(2, 3)]) (hb5.out.step y1) (SR.row (t := 49) (fr := (0, 0)) (cur := #[.int .u16 2, .int .u16 3]) (heap_alloc_new w5 _)) rfl (by decide)).mono ?_
  rintro e w6 ⟨rfl, b6⟩
  have h6 := keep ((h5.out.step y1).step b6)
  clear y1 b6
  go_wp2_with fail
  refine (Add_kept h6.out (n := 11) (by decide) (by decide)).mono ?_
  rintro e w7 ⟨rfl, h7⟩
  rw [t4]
  replace h7 := keep (show Kept w w7 b k s4 from h7)
  go_wp2_with fail
  refine (Cum_kept h7.out).mono ?_
  rintro e w' ⟨rfl, rfl⟩
  rw [f4]
  go_wp2_with fail
  refine (Add_kept h7.out (n := 12) (by decide) (by decide)).mono ?_
  rintro e w8 ⟨rfl, h8⟩
  rw [t5]
  replace h8 := keep (show Kept w w8 b k s5 from h8)
  go_wp2_with fail
  refine (Dups_kept h8.out).mono ?_
  rintro e w9 ⟨A2, c2, rfl, hd9, h9⟩
  rw [d5] at hd9 ⊢
  replace hd9 := keep hd9
  replace h9 := keep h9
  go_wp2_with fail
  have y2 := below_lay w9 (.cells #[.int .u32 12] 22)
  refine (numbers_same (T := [12]) (hd9.out.step y2) (SR.row (t := 22) (fr := (0, 0)) (cur := #[.int .u32 12]) (heap_alloc_new w9 _)) rfl (by decide)).mono ?_
  rintro e w10 ⟨rfl, b10⟩
  have h10 := keep ((h9.out.step y2).step b10)
  clear y2 b10
  go_wp2_with fail
  refine (Len_kept h10.out).mono ?_
  rintro e w' ⟨rfl, rfl⟩
  simp only [l5]
  go_wp2_with fail
  go_ret
  exact ⟨rfl, h10.out.below⟩
end Go.Proofs.Ytofebpikihandaa
