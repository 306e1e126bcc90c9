/- The walk of the law SplitSplits. -/
import Derived.OpenShut
import Derived.Test.YtbfmklbffmodjaaLw1
namespace Go.Proofs.Ytbfmklbffmodjaa
open Go.RowKit
set_option linter.unusedVariables false

set_option maxHeartbeats 1000000 in
theorem refSplit_arg (x : MX) (tsn ssn most : Int) (w : World) (h : x.da.2.1 = 0 ∨ most < 1 ∨ 1172 < most) :
    Calls Try.prog 9 #[.agg x.cells.toArray, .int .u32 tsn, .int .u16 ssn, .int .i64 most] w fun e w' => e = .returned (.tuple #[.slice none 0 0, .int .i64 1]) ∧ Below w.heap.size w w' := by
  have HL := keep (below_lay w (.cells x.cells.toArray 26))
  obtain ⟨xs, xu, xp, ⟨x1, x2, x3⟩, xbs⟩ := x
  dsimp only [MX.cells] at h HL ⊢
  by_cases h0 : x2 = 0
  · subst h0
    clear h
    go_enter Try.func9, Try.ntmps9
    go_wp2_with fail
    go_ret2
    exact ⟨rfl, HL.out⟩
  · have h0' : ((x2 : Int) == 0) = false := by simp; exact h0
    by_cases h1 : most < 1
    · clear h
      go_enter Try.func9, Try.ntmps9
      go_wp2_with fail
      go_ret2
      exact ⟨rfl, HL.out⟩
    · have h2 : 1172 < most := by omega
      clear h
      go_enter Try.func9, Try.ntmps9
      go_wp2_with fail
      go_ret2
      exact ⟨rfl, HL.out⟩
set_option maxHeartbeats 1000000 in
theorem refSplit_large (x : MX) (tsn ssn most : Int) (w : World) (h1 : ¬ most < 1) (h2 : ¬ 1172 < most) (h : 16384 < (x.da.2.1 : Int)) :
    Calls Try.prog 9 #[.agg x.cells.toArray, .int .u32 tsn, .int .u16 ssn, .int .i64 most] w fun e w' => e = .returned (.tuple #[.slice none 0 0, .int .i64 10]) ∧ Below w.heap.size w w' := by
  have HL := keep (below_lay w (.cells x.cells.toArray 26))
  obtain ⟨xs, xu, xp, ⟨x1, x2, x3⟩, xbs⟩ := x
  dsimp only [MX.cells] at h HL ⊢
  have h0 : ¬ x2 = 0 := by omega
  have h0' : ((x2 : Int) == 0) = false := by simp; exact h0
  go_enter Try.func9, Try.ntmps9
  go_wp2_with fail
  go_ret2
  exact ⟨rfl, HL.out⟩
theorem MB.step {w w' : World} {g : Nat} {x : MX} (h : MB w g x) (hb : Below w.heap.size w w') : MB w' g x := (hb.block g h.lt).trans h
theorem sameNil_any (w : World) : Calls Try.prog 10 #[.slice none 0 0, .slice none 0 0] w fun e w' => e = .returned (.bool true) ∧ Below w.heap.size w w' :=
  sameChunks_same none none 0 0 0 [] [] w (CS.nil w) (CS.nil w) (by simp) (by simp) rfl (by decide)

/-- Both answer the same error. -/
theorem splitSplits_err (x : MX) (tsn ssn most er : Int) (w : World) (hx : MV w x) (hn : (x.da.2.1 : Int) ≤ 2000 ∨ 16384 < (x.da.2.1 : Int))
    (KS : ∀ w : World, Calls Try.prog 8 #[.agg x.cells.toArray, .int .u32 tsn, .int .u16 ssn, .int .i64 most] w fun e w' => e = .returned (.tuple #[.slice none 0 0, .int .i64 er]) ∧ Below w.heap.size w w')
    (KR : ∀ w : World, Calls Try.prog 9 #[.agg x.cells.toArray, .int .u32 tsn, .int .u16 ssn, .int .i64 most] w fun e w' => e = .returned (.tuple #[.slice none 0 0, .int .i64 er]) ∧ Below w.heap.size w w') :
    Calls Try.prog 3 #[.agg x.cells.toArray, .int .u32 tsn, .int .u16 ssn, .int .i64 most] w fun e w' => e = .returned (.bool true) ∧ Below w.heap.size w w' := by
  have R0 := keep (show MB (w.alloc (.cells x.cells.toArray 26)) w.heap.size x from heap_alloc_new w _)
  have L0 := keep (below_lay w (.cells x.cells.toArray 26))
  have K0 := keep (fun w => awake_any w)
  have K3 := keep (fun w => sameNil_any w)
  clear hx
  obtain ⟨xs, xu, xp, ⟨x1, x2, x3⟩, xbs⟩ := x
  dsimp only at hn
  dsimp only [MX.cells] at R0 L0 KS KR ⊢
  replace KS := keep KS
  replace KR := keep KR
  rcases hn with hn | hn
  all_goals
    have hn2 : (x2 : Int) ≤ 2000 ∨ ¬ (x2 : Int) ≤ 16384 := by omega
    first | (have hn' : ¬ 2000 < (x2 : Int) := (by omega)) | (obtain ⟨hn', hn''⟩ : 2000 < (x2 : Int) ∧ ¬ (x2 : Int) ≤ 16384 := (by omega))
    clear hn hn2
    go_enter Try.func3, Try.ntmps3
    go_wp2_with (first
      | (go_at_call 7; refine (K0.out _).mono ?_; rintro e w1 ⟨rfl, hb1⟩
         have R1 := R0.out.step hb1
         obtain ⟨⟨m0, m1, m2, m3⟩, _⟩ := R1.all
         dsimp only at m0 m1 m2 m3
         have L1 := keep (up L0.out hb1)
         replace R1 := keep R1
         clear hb1)
      | (go_at_call 8; refine (KS.out _).mono ?_; rintro e w2 ⟨rfl, hb2⟩
         have R2 := R1.out.step hb2
         clear m0 m1 m2 m3
         obtain ⟨⟨m0, m1, m2, m3⟩, _⟩ := R2.all
         dsimp only at m0 m1 m2 m3
         have L2 := keep (up L1.out hb2)
         clear hb2 R2)
      | (go_at_call 9; refine (KR.out _).mono ?_; rintro e w3 ⟨rfl, hb3⟩
         have L3 := keep (up L2.out hb3)
         clear hb3 m0 m1 m2 m3)
      | (go_at_call 10; refine (K3.out _).mono ?_; rintro e w4 ⟨rfl, hb4⟩
         have L4 := keep (up L3.out hb4)
         clear hb4))
    go_ret
    exact ⟨rfl, L4.out⟩
/-- What Split leaves, in letters. -/
def SplitQ (N : Nat) (L : List Ch) (w : World) (e : Ending) (w' : World) : Prop :=
  ∃ A c l, e = .returned (.tuple #[.slice A N c, .int .i64 0]) ∧ CS w' A N c l ∧ (∀ x ∈ l, Plain x) ∧ l.map CX.ch = L ∧ Below w.heap.size w w'
theorem splitSplits_ok (x : MX) (tsn ssn : Int) (k N : Nat) (L : List Ch) (w : World) (hn : (x.da.2.1 : Int) ≤ 2000) (hN : N ≤ 1000000)
    (KS : ∀ w', Below w.heap.size w w' → Calls Try.prog 8 #[.agg x.cells.toArray, .int .u32 tsn, .int .u16 ssn, .int .i64 (k : Int)] w' (SplitQ N L w'))
    (KR : ∀ w', Below w.heap.size w w' → Calls Try.prog 9 #[.agg x.cells.toArray, .int .u32 tsn, .int .u16 ssn, .int .i64 (k : Int)] w' (SplitQ N L w')) :
    Calls Try.prog 3 #[.agg x.cells.toArray, .int .u32 tsn, .int .u16 ssn, .int .i64 (k : Int)] w fun e w' => e = .returned (.bool true) ∧ Below w.heap.size w w' := by
  have R0 := keep (show MB (w.alloc (.cells x.cells.toArray 26)) w.heap.size x from heap_alloc_new w _)
  have L0 := keep (below_lay w (.cells x.cells.toArray 26))
  have K0 := keep (fun w => awake_any w)
  obtain ⟨xs, xu, xp, ⟨x1, x2, x3⟩, xbs⟩ := x
  dsimp only at hn
  dsimp only [MX.cells] at R0 L0 KS KR ⊢
  replace KS := keep KS
  replace KR := keep KR
  have hn' : ¬ 2000 < (x2 : Int) := by omega
  have HN := keep hN
  clear hn hN
  go_enter Try.func3, Try.ntmps3
  go_wp2_with (first
    | (go_at_call 7; refine (K0.out _).mono ?_; rintro e w1 ⟨rfl, hb1⟩
       have R1 := R0.out.step hb1
       obtain ⟨⟨m0, m1, m2, m3⟩, _⟩ := R1.all
       dsimp only at m0 m1 m2 m3
       have L1 := keep (up L0.out hb1)
       replace R1 := keep R1
       clear hb1)
    | (go_at_call 8; refine (KS.out _ L1.out).mono ?_; rintro e w2 ⟨A, c, l, rfl, hl1, hl2, hl3, hb2⟩
       have R2 := R1.out.step hb2
       clear m0 m1 m2 m3
       obtain ⟨⟨m0, m1, m2, m3⟩, _⟩ := R2.all
       dsimp only at m0 m1 m2 m3
       have L2 := keep (up L1.out hb2)
       have H2 := keep (And.intro hl1 (And.intro hl2 hl3))
       clear hb2 R2 hl1 hl2 hl3)
    | (go_at_call 9; refine (KR.out _ L2.out).mono ?_; rintro e w3 ⟨B, d, l2, rfl, hl1, hl2, hl3, hb3⟩
       have K4 := keep (sameChunks_same A B N c d l l2 w3 (H2.out.1.step hb3) hl1 H2.out.2.1 hl2 (H2.out.2.2.trans hl3.symm) HN.out)
       have L3 := keep (up L2.out hb3)
       clear hb3 m0 m1 m2 m3 hl1 hl2 hl3)
    | (go_at_call 10; refine K4.out.mono ?_; rintro e w4 ⟨rfl, hb4⟩
       have L4 := keep (up L3.out hb4)
       clear hb4))
  go_ret
  exact ⟨rfl, L4.out⟩
theorem splitSplits_let (x : MX) (tsn ssn most : Int) (w : World) (h1 : 2000 < (x.da.2.1 : Int)) (h2 : (x.da.2.1 : Int) ≤ 16384) :
    Calls Try.prog 3 #[.agg x.cells.toArray, .int .u32 tsn, .int .u16 ssn, .int .i64 most] w fun e w' => e = .returned (.bool true) ∧ Below w.heap.size w w' := by
  have R0 := keep (show MB (w.alloc (.cells x.cells.toArray 26)) w.heap.size x from heap_alloc_new w _)
  have L0 := keep (below_lay w (.cells x.cells.toArray 26))
  have K0 := keep (fun w => awake_any w)
  obtain ⟨xs, xu, xp, ⟨x1, x2, x3⟩, xbs⟩ := x
  dsimp only at h1 h2
  dsimp only [MX.cells] at R0 L0 ⊢
  go_enter Try.func3, Try.ntmps3
  go_wp2_with (go_at_call 7; refine (K0.out _).mono ?_; rintro e w1 ⟨rfl, hb1⟩
               have R1 := R0.out.step hb1
               obtain ⟨⟨m0, m1, m2, m3⟩, _⟩ := R1.all
               dsimp only at m0 m1 m2 m3
               have L1 := keep (up L0.out hb1)
               clear hb1 R1)
  go_ret
  exact ⟨rfl, L1.out⟩
theorem splitSplits_walk (x : MX) (tsn ssn most : Int) (w : World) (hx : MV w x) (ht : (Lit.int .u32 tsn).wf = true) (hs : (Lit.int .u16 ssn).wf = true) (hm : (Lit.int .i64 most).wf = true) :
    Calls Try.prog 3 #[.agg x.cells.toArray, .int .u32 tsn, .int .u16 ssn, .int .i64 most] w fun e w' => e = .returned (.bool true) ∧ Below w.heap.size w w' := by
  have ht' := bounds_u32 ht
  have hs' := bounds_u16 hs
  by_cases hl : 2000 < (x.da.2.1 : Int) ∧ (x.da.2.1 : Int) ≤ 16384
  · exact splitSplits_let x tsn ssn most w hl.1 hl.2
  by_cases ha : x.da.2.1 = 0 ∨ most < 1 ∨ 1172 < most
  · exact splitSplits_err x tsn ssn most 1 w hx (by omega) (fun w => Split_arg x tsn ssn most w ha) (fun w => refSplit_arg x tsn ssn most w ha)
  by_cases hg : 16384 < (x.da.2.1 : Int)
  · exact splitSplits_err x tsn ssn most 10 w hx (by omega) (fun w => Split_large x tsn ssn most w (by omega) (by omega) hg) (fun w => refSplit_large x tsn ssn most w (by omega) (by omega) hg)
  obtain ⟨k, rfl⟩ : ∃ k : Nat, most = (k : Int) := ⟨most.toNat, by omega⟩
  have hlen := hx.bs.len
  have hk : 0 < k := by omega
  have hc : cnt k x.msg.da.length ≤ 1000000 := by
    have := cnt_le_n (k := k) (n := x.msg.da.length) hk
    have h2 : x.msg.da.length = x.bs.length := rfl
    omega
  exact splitSplits_ok x tsn ssn k _ _ w (by omega) hc (fun w' hb => Split_ok x tsn ssn k w' (hx.step hb) (by omega) (by omega) hk (by omega) (by omega) (by omega))
    (fun w' hb => refSplit_ok x tsn ssn k w' (hx.step hb) (by omega) (by omega) hk (by omega) (by omega) (by omega))
end Go.Proofs.Ytbfmklbffmodjaa
