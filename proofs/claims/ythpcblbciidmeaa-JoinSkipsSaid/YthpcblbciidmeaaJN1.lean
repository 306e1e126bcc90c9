/- The walk of the law JoinNone. -/
import Derived.Test.YthpcblbciidmeaaJZ
namespace Go.Proofs.Ythpcblbciidmeaa
open Go.RowKit Go.Maps
set_option linter.unusedVariables false

theorem no_need {p : Prop} (h : p) : ∃ u : Unit, True := ⟨(), trivial⟩
theorem JG.apart {S : Nat → Prop} {w w' : World} {G : Gh} {j : Jn} (h : JG w G j) (hp : Part S w w') (hO : ∀ i, G.O i → ¬ S i) (hF : ∀ i, G.F i → ¬ S i) : JG w' G j := ⟨h.ja.apart hp hO hF, h.good, h.ends⟩
theorem JB.apart {S : Nat → Prop} {w0 w w' : World} {G : Gh} {j : Jn} (h : JB w0 w G j) (hp : Part S w w') (hS : ∀ i, S i → w0.heap.size ≤ i) (hO : ∀ i, G.O i → ¬ S i) (hF : ∀ i, G.F i → ¬ S i) : JB w0 w' G j := ⟨h.jg.apart hp hO hF, h.ow, h.be.trans (hp.below h.be.size hS)⟩
set_option maxRecDepth 1000000 in
set_option maxHeartbeats 4000000 in
theorem joinNone_let (x : CX) (n : Int) (A : Option Addr) (m c : Nat) (w : World) (h : 2000 < (x.da.2.1 : Int) ∨ 100 < (m : Int)) :
    Calls Try.prog 6 #[.agg x.cells.toArray, .int .u32 n, .slice A m c] w fun e w' => e = .returned (.bool true) ∧ Below w.heap.size w w' := by
  have K0 := keep (fun w => awake_any w)
  have L0 := keep (below_lay w (.cells x.cells.toArray 34))
  have HB0 := keep (show KB (w.alloc (.cells x.cells.toArray 34)) w.heap.size x from heap_alloc_new w _)
  obtain ⟨xk, xf, xa, xb, xo, xs, xp, ⟨x1, x2, x3⟩, ⟨x4, x5, x6⟩, ⟨x7, x8, x9⟩, ⟨x10, x11, x12⟩, ⟨x13, x14, x15⟩, xps, xbs⟩ := x
  dsimp only [CX.cells] at *
  have h' : 2000 < (x14 : Int) ∨ (¬ 2000 < (x14 : Int) ∧ 100 < (m : Int)) := by omega
  clear h
  rcases h' with h | ⟨h, h2⟩
  all_goals
    go_enter Try.func6, Try.ntmps6
    go_wp2_with (go_at_call 8; refine (K0.out _).mono ?_; rintro e w1 ⟨rfl, hb1⟩
                 have a1 := (show KB w1 w.heap.size ⟨xk, xf, xa, xb, xo, xs, xp, (x1, x2, x3), (x4, x5, x6), (x7, x8, x9), (x10, x11, x12), (x13, x14, x15), xps, xbs⟩ from (hb1.block w.heap.size (by simp)).trans HB0.out).at_.2.2.2.2.2.2.2.2.2.2.2
                 try dsimp only [Nat.zero_add] at a1
                 have L1 := keep (up L0.out hb1)
                 clear hb1)
    go_ret
    exact ⟨rfl, L1.out⟩
set_option maxRecDepth 1000000 in
set_option maxHeartbeats 4000000 in
theorem joinNone_go (x : CX) (n : Int) (A : Option Addr) (m c : Nat) (w : World) (h : ¬ 2000 < (x.da.2.1 : Int)) (h2 : ¬ 100 < (m : Int)) :
    Calls Try.prog 6 #[.agg x.cells.toArray, .int .u32 n, .slice A m c] w fun e w' => e = .returned (.bool true) ∧ Below w.heap.size w w' := by
  have K0 := keep (fun w => awake_any w)
  have KA := keep (fun w => Add_nil x w)
  have L0 := keep (below_lay w (.cells x.cells.toArray 34))
  have HB0 := keep (show KB (w.alloc (.cells x.cells.toArray 34)) w.heap.size x from heap_alloc_new w _)
  obtain ⟨xk, xf, xa, xb, xo, xs, xp, ⟨x1, x2, x3⟩, ⟨x4, x5, x6⟩, ⟨x7, x8, x9⟩, ⟨x10, x11, x12⟩, ⟨x13, x14, x15⟩, xps, xbs⟩ := x
  dsimp only [CX.cells] at *
  go_enter Try.func6, Try.ntmps6
  go_wp2_with (first
    | (go_at_call 8; refine (K0.out _).mono ?_; rintro e w1 ⟨rfl, hb1⟩
       have kb1 := (show KB w1 w.heap.size ⟨xk, xf, xa, xb, xo, xs, xp, (x1, x2, x3), (x4, x5, x6), (x7, x8, x9), (x10, x11, x12), (x13, x14, x15), xps, xbs⟩ from (hb1.block w.heap.size (by simp)).trans HB0.out)
       have a1 := kb1.at_.2.2.2.2.2.2.2.2.2.2.2
       try dsimp only [Nat.zero_add] at a1
       have L1 := keep (up L0.out hb1)
       replace kb1 := keep kb1
       clear hb1)
    | (go_at_call 11; refine (Forward_nil _ _ _).mono ?_; rintro e w' ⟨rfl, rfl⟩)
    | (go_at_call 12; refine (Reset_nil _ _).mono ?_; rintro e w' ⟨rfl, rfl⟩)
    | (go_at_call 9; refine (New_JB (Below.refl _ w1) 1).mono ?_; rintro e w2 ⟨G0, rfl, hj0, hb2, hF0⟩; replace hj0 := keep hj0; replace hF0 := keep hF0; replace hb2 := keep hb2; clear a1)
    | (go_at_call 17; refine (piece_any _ (a := 5) (s := 0) (k := 0) (fl := 3) (d := 7) (by decide) (by decide) (by decide) (by decide) (by decide)).mono ?_
       rintro e w3 ⟨rfl, hx3, hb3, hc3⟩
       have hgd : w2.heap.size + 1 < w3.heap.size := (Array.getElem?_eq_some_iff.1 hc3).1
       have hla := below_lay w3 (.cells (oneC 5 0 0 3 7 (w2.heap.size + 1)).cells.toArray 34)
       have HP := keep (And.intro hgd (And.intro ((hla.block _ hgd).trans hc3) (And.intro (show KB (w3.alloc (.cells (oneC 5 0 0 3 7 (w2.heap.size + 1)).cells.toArray 34)) w3.heap.size (oneC 5 0 0 3 7 (w2.heap.size + 1)) from heap_alloc_new w3 _) (show w3.heap.size < (w3.alloc (.cells (oneC 5 0 0 3 7 (w2.heap.size + 1)).cells.toArray 34)).heap.size from by simp))))
       have KA1 := keep (Add_JB ((hj0.out.step hb3).step hla) (hx3.step hla) rfl)
       clear hx3 hb3 hc3 hgd hla
       dsimp only [oneC, CX.cells] at HP KA1 ⊢)
    | (go_at_call_of 10 (Value.int IntKind.u32 5); refine KA1.out.mono ?_
       rintro e w4 ⟨rfl, G1, hj1, hl1⟩
       have hO0 : ∀ i, G0.O i → i < w2.heap.size := hj0.out.jg.ja.olt
       have n1 : ¬ G0.O (w2.heap.size + 1) := fun hc => by have := hO0 _ hc; omega
       have n2 : ¬ G0.O w3.heap.size := fun hc => by have := hO0 _ hc; have := HP.out.1; omega
       have z3 := HP.out.2.2.2
       have c4 := (hl1.new (Nat.lt_trans HP.out.1 z3) n1).trans HP.out.2.1
       have k4 : KB w4 w3.heap.size (oneC 5 0 0 3 7 (w2.heap.size + 1)) := (hl1.new z3 n2).trans HP.out.2.2.1
       have a4 := k4.at_.2.2.2.2.2.2.2.2.2.2.2
       try dsimp only [Nat.zero_add, oneC] at a4
       have d4 : w4.cell? ⟨w2.heap.size + 1, 0, none⟩ = some (.int .u8 7) := by rw [cell_of_row _ _ _ _ _ _ c4]; rfl
       have f4 : w4.frozen? ⟨w2.heap.size + 1, 0, none⟩ = false := by simp [World.frozen?, c4]
       have hOn : ∀ i, G1.O i → ¬ i = w2.heap.size + 1 := fun i hi e => hl1.notO (Nat.lt_trans HP.out.1 z3) n1 (by rw [← e]; exact hi)
       have hFn : ∀ i, G1.F i → ¬ i = w2.heap.size + 1 := fun i hi e => by
         rcases hl1.f i hi with h9 | h9
         · exact hF0.out i h9
         · have := Nat.lt_trans HP.out.1 z3
           omega
       have hz2 : w1.heap.size ≤ w2.heap.size + 1 := Nat.le_succ_of_le hb2.out.size
       have KT := keep fun W (hp : Part (fun i => i = w2.heap.size + 1) w4 W) => (show Calls Try.prog 13 #[.pointer (some ⟨G0.b, 0, none⟩)] W _ from by
         rw [← hl1.b]
         exact Take_JB (hj1.apart hp (fun i hi => by rw [hi]; exact hz2) hOn hFn))
       have P5 := keep (part_set w4 (w2.heap.size + 1) 0 (.int .u8 9))
       clear hj1 hl1 hO0 n1 n2 z3 c4 k4 hOn hFn hz2)
    | (go_at_call_of 13 (Value.pointer none); refine (Take_nil _).mono ?_; rintro e w' ⟨rfl, rfl⟩)
    | (go_at_call 14; refine (Held_nil _).mono ?_; rintro e w' ⟨rfl, rfl⟩)
    | (go_at_call 13; refine (KT.out _ P5.out).mono ?_
       rintro e w6 ⟨A2, m2, c2, l2, G4, rfl, hm2, hv2, hr2, ho2, hj4, hl4⟩
       obtain ⟨g, og, gd, od, cd, rfl, hg, h3, hgd, h0, rfl⟩ := first_one (s := 0) (d := b8 7) (r := []) hm2 hv2 hr2
       have kb6 : KB w6 w.heap.size ⟨xk, xf, xa, xb, xo, xs, xp, (x1, x2, x3), (x4, x5, x6), (x7, x8, x9), (x10, x11, x12), (x13, x14, x15), xps, xbs⟩ := (hj4.be.block w.heap.size kb1.out.lt).trans kb1.out
       have KA2 := keep fun w' (hb : Below w6.heap.size w6 w') => trivial
       obtain ⟨e0, e1, e2, e3, e4, e5, e6, e7, e8, e9, e10, e11⟩ := kb6.at_
       try dsimp only [Nat.zero_add] at e0 e1 e2 e3 e4 e5 e6 e7 e8 e9 e10 e11
       have H6 := keep (And.intro (up L1.out hj4.be) (And.intro hg (And.intro h3 (And.intro hgd (show w6.cell? ⟨gd, od, none⟩ = some (.int .u8 7) from h0)))))
       clear hm2 hv2 hr2 ho2 hj4 hl4 kb6 hg h3 hgd h0 KA2 d4 f4 a4)
    | (go_at_call 10; refine (KA.out _).mono ?_
       rintro e w7 ⟨rfl, hb7⟩
       have h3 := (hb7.cell (p := ⟨g, og + 3, none⟩) H6.out.2.1).trans H6.out.2.2.1
       have h0 := (hb7.cell (p := ⟨gd, od, none⟩) H6.out.2.2.2.1).trans H6.out.2.2.2.2
       have L7 := keep (H6.out.1.trans (hb7.mono H6.out.1.size))
       clear hb7))
  go_ret
  exact ⟨rfl, L7.out⟩
theorem joinNone_walk (x : CX) (n : Int) (A : Option Addr) (m c : Nat) (u : Unit) (w : World) (_ : CV w x) (_ : (Lit.int .u32 n).wf = true) (_ : True) :
    Calls Try.prog 6 #[.agg x.cells.toArray, .int .u32 n, .slice A m c] w fun e w' => e = .returned (.bool true) ∧ Below w.heap.size w w' := by
  by_cases h : 2000 < (x.da.2.1 : Int)
  · exact joinNone_let x n A m c w (.inl h)
  · by_cases h2 : 100 < (m : Int)
    · exact joinNone_let x n A m c w (.inr h2)
    · exact joinNone_go x n A m c w h h2
end Go.Proofs.Ythpcblbciidmeaa
