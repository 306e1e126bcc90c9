/- The walk of the law SplitWholes. -/
import Derived.OpenShut
import Derived.Test.YtbfmklbffmodjaaLw2
import Derived.Test.YtbfmklbffmodjaaSp4
namespace Go.Proofs.Ytbfmklbffmodjaa
open Go.RowKit
set_option linter.unusedVariables false

/-- Two chunks in boxes, two messages. -/
structure QW (w0 : World) (ga gb gm gn : Nat) (X Y : Array Value) (mx nx : MX) (W : World) : Prop where
  f : FF w0 ga gb X Y W
  m : MB W gm mx
  n : MB W gn nx
theorem QW.step {w0 W W' : World} {ga gb gm gn : Nat} {X Y : Array Value} {mx nx : MX} (H : QW w0 ga gb gm gn X Y mx nx W) (hb : Below W.heap.size W W') : QW w0 ga gb gm gn X Y mx nx W' := ⟨H.f.step hb, H.m.step hb, H.n.step hb⟩
theorem QW.drew {w0 W : World} {ga gb gm gn : Nat} {X Y : Array Value} {mx nx : MX} (H : QW w0 ga gb gm gn X Y mx nx W) : QW w0 ga gb gm gn X Y mx nx W.drew := ⟨H.f.drew, H.m, H.n⟩
theorem QW.cells {w0 W : World} {ga gb gm gn : Nat} {a0 a1 a2 a3 a4 a5 a6 a7 a8 a9 a10 a11 b0 b1 b2 b3 b4 b5 b6 b7 b8 b9 b10 b11 : Value} {mx nx : MX} (H : QW w0 ga gb gm gn #[a0, a1, a2, a3, a4, a5, a6, a7, a8, a9, a10, a11] #[b0, b1, b2, b3, b4, b5, b6, b7, b8, b9, b10, b11] mx nx W) :
    (W.cell? ⟨ga, 0, none⟩ = some a0 ∧ W.cell? ⟨ga, 1, none⟩ = some a1 ∧ W.cell? ⟨ga, 2, none⟩ = some a2 ∧ W.cell? ⟨ga, 3, none⟩ = some a3 ∧ W.cell? ⟨ga, 4, none⟩ = some a4 ∧ W.cell? ⟨ga, 5, none⟩ = some a5 ∧ W.cell? ⟨ga, 6, none⟩ = some a6 ∧ W.cell? ⟨ga, 7, none⟩ = some a7 ∧ W.cell? ⟨ga, 8, none⟩ = some a8 ∧ W.cell? ⟨ga, 9, none⟩ = some a9 ∧ W.cell? ⟨ga, 10, none⟩ = some a10 ∧ W.cell? ⟨ga, 11, none⟩ = some a11 ∧ W.cell? ⟨gb, 0, none⟩ = some b0 ∧ W.cell? ⟨gb, 1, none⟩ = some b1 ∧ W.cell? ⟨gb, 2, none⟩ = some b2 ∧ W.cell? ⟨gb, 3, none⟩ = some b3 ∧ W.cell? ⟨gb, 4, none⟩ = some b4 ∧ W.cell? ⟨gb, 5, none⟩ = some b5 ∧ W.cell? ⟨gb, 6, none⟩ = some b6 ∧ W.cell? ⟨gb, 7, none⟩ = some b7 ∧ W.cell? ⟨gb, 8, none⟩ = some b8 ∧ W.cell? ⟨gb, 9, none⟩ = some b9 ∧ W.cell? ⟨gb, 10, none⟩ = some b10 ∧ W.cell? ⟨gb, 11, none⟩ = some b11) ∧
    (W.cell? ⟨gm, 0, none⟩ = some (.int .u16 mx.st) ∧ W.cell? ⟨gm, 1, none⟩ = some (.bool mx.un) ∧ W.cell? ⟨gm, 2, none⟩ = some (.int .u32 mx.pp) ∧ W.cell? ⟨gm, 3, none⟩ = some (.slice mx.da.1 mx.da.2.1 mx.da.2.2)) ∧
    (W.cell? ⟨gn, 0, none⟩ = some (.int .u16 nx.st) ∧ W.cell? ⟨gn, 1, none⟩ = some (.bool nx.un) ∧ W.cell? ⟨gn, 2, none⟩ = some (.int .u32 nx.pp) ∧ W.cell? ⟨gn, 3, none⟩ = some (.slice nx.da.1 nx.da.2.1 nx.da.2.2)) := ⟨H.f.cells, H.m.all.1, H.n.all.1⟩
/-- What a call that tells a message leaves, in letters. -/
def TellQ (s : Bool) (M : Msg) (w : World) (e : Ending) (w' : World) : Prop :=
  ∃ x : MX, e = .returned (.tuple #[.agg x.cells.toArray, .bool s]) ∧ MV w' x ∧ x.msg = M ∧ Below w.heap.size w w'
section
variable (A : Option Addr) (n c : Nat) (l : List CX) (x y : CX) (w : World)
theorem FF.new (X Y : Array Value) : FF w w.heap.size (w.heap.size + 1) X Y ((w.alloc (.cells X 39)).alloc (.cells Y 39)) := by
  refine ⟨((below_lay _ _).block w.heap.size (by simp)).trans (heap_alloc_new w _), ?_, lay2 w _ _⟩
  have := heap_alloc_new (w.alloc (.cells X 39)) (.cells Y 39)
  rwa [World.size_alloc] at this
set_option maxHeartbeats 2000000 in
theorem splitWholes_let (hl : CS w A n c l) (hx : CV w x) (hy : CV w y) (h : fewLC l = false ∨ (fewLC l = true ∧ fewC x = false) ∨ (fewLC l = true ∧ fewC x = true ∧ fewC y = false)) :
    Calls Try.prog 4 #[.slice A n c, .agg x.cells.toArray, .agg y.cells.toArray] w fun e w' => e = .returned (.bool true) ∧ Below w.heap.size w w' := by
  have H0 := keep (FF.new w x.cells.toArray y.cells.toArray)
  have K0 := keep (fun w => awake_any w)
  have K1 := fun w' (hb : Below w.heap.size w w') => few_any A n c l w' (hl.step hb)
  have K2 := fun w' (hb : Below w.heap.size w w') => Few_any x w' (hx.ps.step hb)
  have K3 := fun w' (hb : Below w.heap.size w w') => Few_any y w' (hy.ps.step hb)
  clear hl hx hy
  obtain ⟨q1, hq1⟩ : ∃ q, fewLC l = q := ⟨_, rfl⟩
  obtain ⟨q2, hq2⟩ : ∃ q, fewC x = q := ⟨_, rfl⟩
  obtain ⟨q3, hq3⟩ : ∃ q, fewC y = q := ⟨_, rfl⟩
  rw [hq1] at h K1
  rw [hq2] at h K2
  rw [hq3] at h K3
  clear hq1 hq2 hq3
  obtain ⟨xk, xf, xa, xb, xo, xs, xq, ⟨x1, x2, x3⟩, ⟨x4, x5, x6⟩, ⟨x7, x8, x9⟩, ⟨x10, x11, x12⟩, ⟨x13, x14, x15⟩, xps, xbs⟩ := x
  obtain ⟨yk, yf, ya, yb, yo, ys, yq, ⟨y1, y2, y3⟩, ⟨y4, y5, y6⟩, ⟨y7, y8, y9⟩, ⟨y10, y11, y12⟩, ⟨y13, y14, y15⟩, yps, ybs⟩ := y
  dsimp only [CX.cells] at H0 K2 K3 ⊢
  replace K1 := keep K1
  replace K2 := keep K2
  replace K3 := keep K3
  rcases h with rfl | ⟨rfl, rfl⟩ | ⟨rfl, rfl, rfl⟩
  all_goals
    go_enter Try.func4, Try.ntmps4
    go_wp2_with (first
      | (go_at_call 7; refine (K0.out _).mono ?_; rintro e w1 ⟨rfl, hb1⟩
         have H1 := keep (H0.out.step hb1)
         obtain ⟨c0, c1, c2, c3, c4, c5, c6, c7, c8, c9, c10, c11, d0, d1, d2, d3, d4, d5, d6, d7, d8, d9, d10, d11⟩ := H1.out.cells
         have L1 := keep H1.out.below
         clear hb1 H0)
      | (go_at_call 11; refine (K1.out _ L1.out).mono ?_; rintro e w2 ⟨rfl, hb2⟩
         have H2 := keep (H1.out.step hb2)
         clear c0 c1 c2 c3 c4 c5 c6 c7 c8 c9 c10 c11 d0 d1 d2 d3 d4 d5 d6 d7 d8 d9 d10 d11
         obtain ⟨c0, c1, c2, c3, c4, c5, c6, c7, c8, c9, c10, c11, d0, d1, d2, d3, d4, d5, d6, d7, d8, d9, d10, d11⟩ := H2.out.cells
         have L2 := keep H2.out.below
         clear hb2 H1)
      | (go_at_call 12; have _isold := H2; refine (K2.out _ L2.out).mono ?_; rintro e w3 ⟨rfl, hb3⟩
         have H3 := keep (H2.out.step hb3)
         clear c0 c1 c2 c3 c4 c5 c6 c7 c8 c9 c10 c11 d0 d1 d2 d3 d4 d5 d6 d7 d8 d9 d10 d11
         obtain ⟨c0, c1, c2, c3, c4, c5, c6, c7, c8, c9, c10, c11, d0, d1, d2, d3, d4, d5, d6, d7, d8, d9, d10, d11⟩ := H3.out.cells
         have L3 := keep H3.out.below
         clear hb3 H2 _isold)
      | (go_at_call 12; refine (K3.out _ L3.out).mono ?_; rintro e w4 ⟨rfl, hb4⟩
         have L4 := keep (up L3.out hb4)
         clear hb4 H3))
    go_ret
    first
      | exact ⟨rfl, L4.out⟩
      | exact ⟨rfl, L3.out⟩
      | exact ⟨rfl, L2.out⟩
set_option maxHeartbeats 4000000 in
theorem splitWholes_few (hl : CS w A n c l) (hx : CV w x) (hy : CV w y) (s : Bool) (M : Msg) (h1 : fewLC l = true) (h2 : fewC x = true) (h3 : fewC y = true)
    (KW : ∀ w', Below w.heap.size w w' → Calls Try.prog 13 #[.slice A n c] w' (TellQ s M w')) (KR : ∀ w', Below w.heap.size w w' → Calls Try.prog 14 #[.slice A n c] w' (TellQ s M w')) :
    Calls Try.prog 4 #[.slice A n c, .agg x.cells.toArray, .agg y.cells.toArray] w fun e w' => e = .returned (.bool true) ∧ Below w.heap.size w w' := by
  have H0 := keep (FF.new w x.cells.toArray y.cells.toArray)
  have K0 := keep (fun w => awake_any w)
  have K1 := fun w' (hb : Below w.heap.size w w') => few_any A n c l w' (hl.step hb)
  have K2 := fun w' (hb : Below w.heap.size w w') => Few_any x w' (hx.ps.step hb)
  have K3 := fun w' (hb : Below w.heap.size w w') => Few_any y w' (hy.ps.step hb)
  have KF := fun w' => Follows_any x y hx.cb hy.cb w'
  have KG := fun w' => refFollows_any x y hx.cb hy.cb w'
  rw [h1] at K1
  rw [h2] at K2
  rw [h3] at K3
  obtain ⟨f, hf⟩ : ∃ f, fol x.ch y.ch = f := ⟨_, rfl⟩
  rw [hf] at KF KG
  clear hl hx hy h1 h2 h3 hf
  obtain ⟨xk, xf, xa, xb, xo, xs, xq, ⟨x1, x2, x3⟩, ⟨x4, x5, x6⟩, ⟨x7, x8, x9⟩, ⟨x10, x11, x12⟩, ⟨x13, x14, x15⟩, xps, xbs⟩ := x
  obtain ⟨yk, yf, ya, yb, yo, ys, yq, ⟨y1, y2, y3⟩, ⟨y4, y5, y6⟩, ⟨y7, y8, y9⟩, ⟨y10, y11, y12⟩, ⟨y13, y14, y15⟩, yps, ybs⟩ := y
  dsimp only [CX.cells] at H0 K2 K3 KF KG ⊢
  replace K1 := keep K1
  replace K2 := keep K2
  replace K3 := keep K3
  replace KF := keep KF
  replace KG := keep KG
  replace KW := keep KW
  replace KR := keep KR
  go_enter Try.func4, Try.ntmps4
  go_wp2_with (first
    | (go_at_call 7; refine (K0.out _).mono ?_; rintro e w1 ⟨rfl, hb1⟩
       have H1 := keep (H0.out.step hb1)
       obtain ⟨c0, c1, c2, c3, c4, c5, c6, c7, c8, c9, c10, c11, d0, d1, d2, d3, d4, d5, d6, d7, d8, d9, d10, d11⟩ := H1.out.cells
       have L1 := keep H1.out.below
       clear hb1 H0)
    | (go_at_call 11; refine (K1.out _ L1.out).mono ?_; rintro e w2 ⟨rfl, hb2⟩
       have H2 := keep (H1.out.step hb2)
       clear c0 c1 c2 c3 c4 c5 c6 c7 c8 c9 c10 c11 d0 d1 d2 d3 d4 d5 d6 d7 d8 d9 d10 d11
       obtain ⟨c0, c1, c2, c3, c4, c5, c6, c7, c8, c9, c10, c11, d0, d1, d2, d3, d4, d5, d6, d7, d8, d9, d10, d11⟩ := H2.out.cells
       have L2 := keep H2.out.below
       clear hb2 H1)
    | (go_at_call 12; have _isold := H2; refine (K2.out _ L2.out).mono ?_; rintro e w3 ⟨rfl, hb3⟩
       have H3 := keep (H2.out.step hb3)
       clear c0 c1 c2 c3 c4 c5 c6 c7 c8 c9 c10 c11 d0 d1 d2 d3 d4 d5 d6 d7 d8 d9 d10 d11
       obtain ⟨c0, c1, c2, c3, c4, c5, c6, c7, c8, c9, c10, c11, d0, d1, d2, d3, d4, d5, d6, d7, d8, d9, d10, d11⟩ := H3.out.cells
       have L3 := keep H3.out.below
       clear hb3 H2 _isold)
    | (go_at_call 12; refine (K3.out _ L3.out).mono ?_; rintro e w4 ⟨rfl, hb4⟩
       have H4 := keep (H3.out.step hb4)
       clear c0 c1 c2 c3 c4 c5 c6 c7 c8 c9 c10 c11 d0 d1 d2 d3 d4 d5 d6 d7 d8 d9 d10 d11
       have L4 := keep H4.out.below
       clear hb4 H3)
    | (go_at_call 13; refine (KW.out _ L4.out).mono ?_; rintro e w5 ⟨⟨ms, mu, mp, ⟨m1, m2, m3⟩, mbs⟩, rfl, mv, mm, hb5⟩
       dsimp only [MX.cells]
       have l5 := below_lay w5 (.cells #[Value.int .u16 ms, .bool mu, .int .u32 mp, .slice m1 m2 m3] 26)
       have H5 := keep ((H4.out.step hb5).step l5)
       have N5 := keep (show MB (w5.alloc (.cells #[Value.int .u16 ms, .bool mu, .int .u32 mp, .slice m1 m2 m3] 26)) w5.heap.size ⟨ms, mu, mp, (m1, m2, m3), mbs⟩ from heap_alloc_new w5 _)
       have V5 := keep (And.intro (mv.step l5) mm)
       have L5 := keep H5.out.below
       clear hb5 H4 l5 mv mm)
    | (go_at_call 14; refine (KR.out _ L5.out).mono ?_; rintro e w6 ⟨⟨ns, nu, np, ⟨n1, n2, n3⟩, nbs⟩, rfl, nv, nm, hb6⟩
       dsimp only [MX.cells]
       have l6 := below_lay w6 (.cells #[Value.int .u16 ns, .bool nu, .int .u32 np, .slice n1 n2 n3] 26)
       have HQ := keep (show QW w w.heap.size (w.heap.size + 1) w5.heap.size w6.heap.size _ _ ⟨ms, mu, mp, (m1, m2, m3), mbs⟩ ⟨ns, nu, np, (n1, n2, n3), nbs⟩ (w6.alloc (.cells #[Value.int .u16 ns, .bool nu, .int .u32 np, .slice n1 n2 n3] 26)) from ⟨(H5.out.step hb6).step l6, (N5.out.step hb6).step l6, heap_alloc_new w6 _⟩)
       have VM := keep ((V5.out.1.step hb6).step l6)
       have VN := keep (nv.step l6)
       have EQ := keep (V5.out.2.trans nm.symm)
       clear hb6 H5 N5 V5 l6 nv nm))
  have HQ1 := keep HQ.out.drew
  have VM1 := keep (VM.out.step (Below.refl _ _).drew)
  have VN1 := keep (VN.out.step (Below.refl _ _).drew)
  clear HQ VM VN
  generalize w6.alloc _ = W at HQ1 VM1 VN1 ⊢
  generalize w5.heap.size = gm at HQ1 ⊢
  generalize w6.heap.size = gn at HQ1 ⊢
  have KM := fun (w' : World) (hb : Below W.drew.heap.size W.drew w') => refSameM_any _ _ w' (VM1.out.step hb) (VN1.out.step hb)
  rw [sameM_iff.2 EQ.out] at KM
  dsimp only [MX.cells] at KM
  replace KM := keep KM
  go_region_held3 (fun w' => (w'.cell? ⟨w.heap.size, 0, none⟩ = some (.int .u8 xk) ∧ w'.cell? ⟨w.heap.size, 1, none⟩ = some (.int .u8 xf) ∧ w'.cell? ⟨w.heap.size, 2, none⟩ = some (.int .u32 xa) ∧ w'.cell? ⟨w.heap.size, 3, none⟩ = some (.int .u32 xb) ∧ w'.cell? ⟨w.heap.size, 4, none⟩ = some (.int .u16 xo) ∧ w'.cell? ⟨w.heap.size, 5, none⟩ = some (.int .u16 xs) ∧ w'.cell? ⟨w.heap.size, 6, none⟩ = some (.int .u32 xq) ∧ w'.cell? ⟨w.heap.size, 7, none⟩ = some (.slice x1 x2 x3) ∧ w'.cell? ⟨w.heap.size, 8, none⟩ = some (.slice x4 x5 x6) ∧ w'.cell? ⟨w.heap.size, 9, none⟩ = some (.slice x7 x8 x9) ∧ w'.cell? ⟨w.heap.size, 10, none⟩ = some (.slice x10 x11 x12) ∧ w'.cell? ⟨w.heap.size, 11, none⟩ = some (.slice x13 x14 x15) ∧ w'.cell? ⟨w.heap.size + 1, 0, none⟩ = some (.int .u8 yk) ∧ w'.cell? ⟨w.heap.size + 1, 1, none⟩ = some (.int .u8 yf) ∧ w'.cell? ⟨w.heap.size + 1, 2, none⟩ = some (.int .u32 ya) ∧ w'.cell? ⟨w.heap.size + 1, 3, none⟩ = some (.int .u32 yb) ∧ w'.cell? ⟨w.heap.size + 1, 4, none⟩ = some (.int .u16 yo) ∧ w'.cell? ⟨w.heap.size + 1, 5, none⟩ = some (.int .u16 ys) ∧ w'.cell? ⟨w.heap.size + 1, 6, none⟩ = some (.int .u32 yq) ∧ w'.cell? ⟨w.heap.size + 1, 7, none⟩ = some (.slice y1 y2 y3) ∧ w'.cell? ⟨w.heap.size + 1, 8, none⟩ = some (.slice y4 y5 y6) ∧ w'.cell? ⟨w.heap.size + 1, 9, none⟩ = some (.slice y7 y8 y9) ∧ w'.cell? ⟨w.heap.size + 1, 10, none⟩ = some (.slice y10 y11 y12) ∧ w'.cell? ⟨w.heap.size + 1, 11, none⟩ = some (.slice y13 y14 y15)) ∧ (w'.cell? ⟨gm, 0, none⟩ = some (.int .u16 ms) ∧ w'.cell? ⟨gm, 1, none⟩ = some (.bool mu) ∧ w'.cell? ⟨gm, 2, none⟩ = some (.int .u32 mp) ∧ w'.cell? ⟨gm, 3, none⟩ = some (.slice m1 m2 m3)) ∧ (w'.cell? ⟨gn, 0, none⟩ = some (.int .u16 ns) ∧ w'.cell? ⟨gn, 1, none⟩ = some (.bool nu) ∧ w'.cell? ⟨gn, 2, none⟩ = some (.int .u32 np) ∧ w'.cell? ⟨gn, 3, none⟩ = some (.slice n1 n2 n3)))
    (first | exact HQ1.out.cells | exact HQ7.out.cells | exact HQ8.out.cells | exact HQ9.out.cells)
    (first
    | (go_at_call 15; refine (KM.out _ (Below.refl _ _)).mono ?_; rintro e w7 ⟨rfl, hb7⟩
       have HQ7 := keep (HQ1.out.step hb7)
       clear hb7 HQ1)
    | (go_at_call 16; refine (KF.out _).mono ?_; rintro e w8 ⟨rfl, hb8⟩
       have HQ8 := keep (HQ7.out.step hb8)
       clear hb8 HQ7)
    | (go_at_call 17; refine (KG.out _).mono ?_; rintro e w9 ⟨rfl, hb9⟩
       have HQ9 := keep (HQ8.out.step hb9)
       clear hb9 HQ8))
  go_wp2_with fail
  go_ret
  exact ⟨rfl, HQ9.out.f.below⟩
end
theorem splitWholes_walk (A : Option Addr) (n c : Nat) (l : List CX) (x y : CX) (w : World) (hl : CS w A n c l) (hx : CV w x) (hy : CV w y) :
    Calls Try.prog 4 #[.slice A n c, .agg x.cells.toArray, .agg y.cells.toArray] w fun e w' => e = .returned (.bool true) ∧ Below w.heap.size w w' := by
  by_cases h1 : fewLC l = true
  case neg => exact splitWholes_let A n c l x y w hl hx hy (.inl (by simpa using h1))
  by_cases h2 : fewC x = true
  case neg => exact splitWholes_let A n c l x y w hl hx hy (.inr (.inl ⟨h1, by simpa using h2⟩))
  by_cases h3 : fewC y = true
  case neg => exact splitWholes_let A n c l x y w hl hx hy (.inr (.inr ⟨h1, h2, by simpa using h3⟩))
  have h80 : l.length ≤ 80 := by
    unfold fewLC at h1
    simp only [Bool.and_eq_true, decide_eq_true_eq] at h1
    exact h1.1
  have hD : ∀ z ∈ l, z.bs.length ≤ 20000 := fun z hz => by
    unfold fewLC at h1
    simp only [Bool.and_eq_true, decide_eq_true_eq] at h1
    have := fewC_da (List.all_eq_true.1 h1.2 z hz)
    have := (hl.2.2.2 z hz).bs.len
    omega
  have hn : n ≤ 1000000 := by have := hl.1; omega
  exact splitWholes_few A n c l x y w hl hx hy _ _ h1 h2 h3 (fun w' hb => Whole_any A n c l w' (hl.step hb) hn hD) (fun w' hb => refWhole_any A n c l w' (hl.step hb) hn hD)
end Go.Proofs.Ytbfmklbffmodjaa
