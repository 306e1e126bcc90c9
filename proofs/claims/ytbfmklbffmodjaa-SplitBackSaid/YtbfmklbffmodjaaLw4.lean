/- The walk of the law SplitJoins. -/
import Derived.OpenShut
import Derived.Test.YtbfmklbffmodjaaLw2
namespace Go.Proofs.Ytbfmklbffmodjaa
open Go.RowKit
set_option linter.unusedVariables false

/-- Two messages in boxes. -/
structure BB (w0 : World) (x y : MX) (W : World) : Prop where
  a : MB W w0.heap.size x
  b : MB W (w0.heap.size + 1) y
  below : Below w0.heap.size w0 W
theorem BB.step {w0 W W' : World} {x y : MX} (H : BB w0 x y W) (hb : Below W.heap.size W W') : BB w0 x y W' := ⟨H.a.step hb, H.b.step hb, up H.below hb⟩
theorem BB.new (w : World) (x y : MX) : BB w x y ((w.alloc (.cells x.cells.toArray 26)).alloc (.cells y.cells.toArray 26)) := by
  refine ⟨((below_lay _ _).block w.heap.size (by simp)).trans (heap_alloc_new w _), ?_, lay2 w _ _⟩
  have := heap_alloc_new (w.alloc (.cells x.cells.toArray 26)) (.cells y.cells.toArray 26)
  rwa [World.size_alloc] at this
/-- What Split leaves, whatever it is. -/
def SplitE (er : Int) (w : World) (e : Ending) (w' : World) : Prop := ∃ (A : Option Addr) (n c : Nat), e = .returned (.tuple #[.slice A n c, .int .i64 er]) ∧ Below w.heap.size w w'
section
variable (x y : MX) (tsn most : Int) (w : World)
set_option maxHeartbeats 2000000 in
theorem splitJoins_let (h : 2000 < (x.da.2.1 : Int) ∨ ((x.da.2.1 : Int) ≤ 2000 ∧ 2000 < (y.da.2.1 : Int))) :
    Calls Try.prog 6 #[.agg x.cells.toArray, .agg y.cells.toArray, .int .u32 tsn, .int .i64 most] w fun e w' => e = .returned (.bool true) ∧ Below w.heap.size w w' := by
  have R0 := keep (BB.new w x y)
  have K0 := keep (fun w => awake_any w)
  obtain ⟨xs, xu, xp, ⟨x1, x2, x3⟩, xbs⟩ := x
  obtain ⟨ys, yu, yp, ⟨y1, y2, y3⟩, ybs⟩ := y
  dsimp only at h
  dsimp only [MX.cells] at R0 ⊢
  rcases h with h | ⟨h, h'⟩
  all_goals
    first | (have q : ¬ 2000 < (x2 : Int) := (by omega)) | skip
    go_enter Try.func6, Try.ntmps6
    go_wp2_with (first
      | (go_at_call 7; refine (K0.out _).mono ?_; rintro e w1 ⟨rfl, hb1⟩
         have R1 := keep (R0.out.step hb1)
         obtain ⟨⟨m0, m1, m2, m3⟩, _⟩ := R1.out.a.all
         obtain ⟨⟨n0, n1, n2, n3⟩, _⟩ := R1.out.b.all
         dsimp only at m0 m1 m2 m3 n0 n1 n2 n3
         have L1 := keep R1.out.below
         clear hb1 R0))
    go_ret
    exact ⟨rfl, L1.out⟩
set_option maxHeartbeats 2000000 in
theorem splitJoins_err (ht : 0 ≤ tsn ∧ tsn < 4294967296) (h : (x.da.2.1 : Int) ≤ 2000) (h' : (y.da.2.1 : Int) ≤ 2000) (e1 e2 : Int) (he : ¬ e1 = 0 ∨ (e1 = 0 ∧ ¬ e2 = 0))
    (KA : ∀ w', Below w.heap.size w w' → Calls Try.prog 8 #[.agg x.cells.toArray, .int .u32 tsn, .int .u16 3, .int .i64 most] w' (SplitE e1 w'))
    (KB : ∀ t : Int, 0 ≤ t ∧ t < 4294967296 → ∀ w', Below w.heap.size w w' → Calls Try.prog 8 #[.agg y.cells.toArray, .int .u32 t, .int .u16 4, .int .i64 most] w' (SplitE e2 w')) :
    Calls Try.prog 6 #[.agg x.cells.toArray, .agg y.cells.toArray, .int .u32 tsn, .int .i64 most] w fun e w' => e = .returned (.bool true) ∧ Below w.heap.size w w' := by
  have R0 := keep (BB.new w x y)
  have K0 := keep (fun w => awake_any w)
  obtain ⟨xs, xu, xp, ⟨x1, x2, x3⟩, xbs⟩ := x
  obtain ⟨ys, yu, yp, ⟨y1, y2, y3⟩, ybs⟩ := y
  dsimp only at h h'
  dsimp only [MX.cells] at R0 KA KB ⊢
  replace KA := keep KA
  replace KB := keep KB
  have q1 : ¬ 2000 < (x2 : Int) := by omega
  have q2 : ¬ 2000 < (y2 : Int) := by omega
  clear h h'
  rcases he with he | ⟨he, he'⟩
  all_goals
    first | (have r1 : (e1 != 0) = true := (by simp; exact he)) | (have r2 : (e2 != 0) = true := (by simp; exact he'); subst he)
    go_enter Try.func6, Try.ntmps6
    go_wp2_with (first
      | (go_at_call 7; refine (K0.out _).mono ?_; rintro e w1 ⟨rfl, hb1⟩
         have R1 := keep (R0.out.step hb1)
         obtain ⟨⟨m0, m1, m2, m3⟩, _⟩ := R1.out.a.all
         obtain ⟨⟨n0, n1, n2, n3⟩, _⟩ := R1.out.b.all
         dsimp only at m0 m1 m2 m3 n0 n1 n2 n3
         have L1 := keep R1.out.below
         clear hb1 R0)
      | (go_at_call 8; refine (KA.out _ L1.out).mono ?_; rintro e w2 ⟨A, n, c, rfl, hb2⟩
         have R2 := keep (R1.out.step hb2)
         clear m0 m1 m2 m3 n0 n1 n2 n3
         obtain ⟨⟨n0, n1, n2, n3⟩, _⟩ := R2.out.b.all
         dsimp only at n0 n1 n2 n3
         have L2 := keep R2.out.below
         clear hb2 R1 KA)
      | (go_at_call 8; refine (KB.out _ (u32_in _) _ L2.out).mono ?_; rintro e w3 ⟨B, m, d, rfl, hb3⟩
         have L3 := keep (up L2.out hb3)
         clear hb3 R2 KB))
    go_ret
    exact ⟨rfl, L3.out⟩
end
theorem CS.of_two {w : World} {base n m c : Nat} {A : Option Addr} {l k : List CX} {e : TypeId} (h : w.ownsRow base e 12 (.slice A (n + m) c) (n + m) (flatF CX.cells l ++ flatF CX.cells k)) (hv : ∀ x ∈ l, CV w x) (hw : ∀ x ∈ k, CV w x) : CS w A (n + m) c (l ++ k) := by
  rw [← flatF_append] at h
  exact CS.of_own h fun x hx => (List.mem_append.1 hx).elim (hv x) (hw x)
set_option maxHeartbeats 4000000 in
theorem splitJoins_ok (x y : MX) (tsn : Int) (k N M : Nat) (w : World) (ht : 0 ≤ tsn ∧ tsn < 4294967296) (h : (x.da.2.1 : Int) ≤ 2000) (h' : (y.da.2.1 : Int) ≤ 2000) (hk : 0 < k) (hk2 : k ≤ 1172) (hx0 : 0 < x.msg.da.length) (hy0 : 0 < y.msg.da.length) (hN : cnt k x.msg.da.length = N + 1) (hM : cnt k y.msg.da.length = M + 1) (hN2 : N ≤ 2000) (hM2 : M ≤ 2000)
    (KA : ∀ w', Below w.heap.size w w' → Calls Try.prog 8 #[.agg x.cells.toArray, .int .u32 tsn, .int .u16 3, .int .i64 (k : Int)] w' (SplitQ (N + 1) (splitL x.msg tsn 3 k) w'))
    (KB : ∀ t : Int, 0 ≤ t ∧ t < 4294967296 → ∀ w', Below w.heap.size w w' → Calls Try.prog 8 #[.agg y.cells.toArray, .int .u32 t, .int .u16 4, .int .i64 (k : Int)] w' (SplitQ (M + 1) (splitL y.msg t 4 k) w')) :
    Calls Try.prog 6 #[.agg x.cells.toArray, .agg y.cells.toArray, .int .u32 tsn, .int .i64 (k : Int)] w fun e w' => e = .returned (.bool true) ∧ Below w.heap.size w w' := by
  obtain ⟨Z, hZ⟩ : ∃ Z : Value, Z = .agg #[.int .u8 0, .int .u8 0, .int .u32 0, .int .u32 0, .int .u16 0, .int .u16 0, .int .u32 0, .slice none 0 0, .slice none 0 0, .slice none 0 0, .slice none 0 0, .slice none 0 0] := ⟨_, rfl⟩
  obtain ⟨i0, hi, hz0, hz1, hz2⟩ := info_parts chunk_info
  rw [← hZ] at hz0
  have HZ : Hid (Z.cells.size = 12) := by rw [hZ]; exact keep rfl
  have R0 := keep (BB.new w x y)
  have K0 := keep (fun w => awake_any w)
  have HK := keep (And.intro hk hk2)
  have HNM := keep (And.intro hN2 hM2)
  have q1 : ¬ 2000 < (x.da.2.1 : Int) := by omega
  have q2 : ¬ 2000 < (y.da.2.1 : Int) := by omega
  have qz : ((N : Int) + 1 == 0) = false := by simp; omega
  have qz2 : ((M : Int) + 1 == 0) = false := by simp; omega
  have qn : (N : Int) < (N : Int) + 1 := by omega
  have qm : 0 < (M : Int) + 1 := by omega
  obtain ⟨hw2, hw1⟩ := wrap_in (N : Int) (by omega)
  have HF := keep (fun (ya : Ch) => not_followed (m := x.msg) (tsn := tsn) (ssn := 3) (y := ya) hk hx0)
  have HT2 := keep (fun (t : Int) => not_two (m := x.msg) (m' := y.msg) (tsn := tsn) (ssn := 3) (tsn' := t) (ssn' := 4) hk hx0 hy0)
  rw [hN] at HF
  clear hZ hk hk2 h h' hx0 hy0 hN hM hN2 hM2
  generalize x.msg = P at KA HF HT2
  generalize y.msg = Q at KB HT2
  obtain ⟨xs, xu, xp, ⟨x1, x2, x3⟩, xbs⟩ := x
  obtain ⟨ys, yu, yp, ⟨y1, y2, y3⟩, ybs⟩ := y
  dsimp only [MX.cells] at R0 KA KB q1 q2 ⊢
  replace KA := keep KA
  replace KB := keep KB
  go_enter Try.func6, Try.ntmps6
  go_wp2_with (first
    | (go_at_call 7; refine (K0.out _).mono ?_; rintro e w1 ⟨rfl, hb1⟩
       have R1 := keep (R0.out.step hb1)
       obtain ⟨⟨m0, m1, m2, m3⟩, _⟩ := R1.out.a.all
       obtain ⟨⟨n0, n1, n2, n3⟩, _⟩ := R1.out.b.all
       dsimp only at m0 m1 m2 m3 n0 n1 n2 n3
       have L1 := keep R1.out.below
       clear hb1 R0)
    | (go_at_call 8; refine (KA.out _ L1.out).mono ?_; rintro e w2 ⟨A, c, lx, rfl, hc2, hp2, hl2, hb2⟩
       have R2 := keep (R1.out.step hb2)
       clear m0 m1 m2 m3 n0 n1 n2 n3
       obtain ⟨⟨n0, n1, n2, n3⟩, _⟩ := R2.out.b.all
       dsimp only at n0 n1 n2 n3
       have L2 := keep R2.out.below
       obtain ⟨b, o, _, rfl, hbl, _⟩ := hc2.at_ (j := 0) (Nat.succ_pos N)
       have C2 := keep (And.intro hc2 hl2)
       clear hb2 R1 KA hc2 hp2 hl2)
    | (go_at_call 8; refine (KB.out _ (u32_in _) _ L2.out).mono ?_; rintro e w3 ⟨B, d9, ly, rfl, hc3, hp3, hl3, hb3⟩
       have L3 := keep (up L2.out hb3)
       obtain ⟨d, p, _, rfl, hdl, _⟩ := hc3.at_ (j := 0) (Nat.succ_pos M)
       have C3 := keep (And.intro hc3 hl3)
       have C32 := keep (C2.out.1.step hb3)
       have O3 := keep (show (w3.alloc (.cells #[] 39)).ownsRow w3.heap.size 39 12 (.slice (some ⟨w3.heap.size, 0, none⟩) 0 0) 0 [] from own_rowN (heap_alloc_new w3 _) 0 rfl (by decide))
       have l3 := below_lay w3 (.cells #[] 39)
       have C4 := keep (C3.out.1.step l3)
       have C42 := keep (C32.out.step l3)
       have B4 := keep l3
       clear hb3 R2 KB hc3 hp3 l3)
    | (at_builtin; refine wpl_appendK (by decide) rfl (.tmp 72) (.tmp 73) 28 rfl w3.heap.size 39 i0 Z Try.underlying28 hi hz0 hz1 HZ.out _ 0 [] rfl O3.out (some ⟨b, o, none⟩) (N + 1) c (flatF CX.cells lx) rfl (by rw [flatF_len CX.len, C42.out.len]) C42.out.2.2.1 (flatF_one CX.one lx) (by have := HNM.out; unfold maxLen; omega) (by rw [hz2]; have := HNM.out; omega) (by simp) ?_
       intro A5 c5 w5 ho5 hb5 _
       have o5 : w5.ownsRow w3.heap.size 39 12 (.slice A5 (N + 1) c5) (N + 1) (flatF CX.cells lx) := by
         have h := ho5.out
         rw [Nat.zero_add, List.nil_append] at h
         exact h
       have O5 := keep o5
       have C5 := keep (C3.out.1.step (B4.out.trans hb5))
       have B5 := keep (B4.out.trans hb5)
       clear ho5 hb5 o5)
    | (at_builtin; refine wpl_appendK (by decide) rfl (.tmp 74) (.tmp 75) 28 rfl w3.heap.size 39 i0 Z Try.underlying28 hi hz0 hz1 HZ.out _ (N + 1) (flatF CX.cells lx) rfl O5.out (some ⟨d, p, none⟩) (M + 1) d9 (flatF CX.cells ly) rfl (by rw [flatF_len CX.len, C5.out.len]) C5.out.2.2.1 (flatF_one CX.one ly) (by have := HNM.out; unfold maxLen; omega) (by rw [hz2]; have := HNM.out; omega) B5.out.size ?_
       intro A6 c6 w6 ho6 hb6 _
       have B6 := keep (B5.out.trans hb6)
       have C6 := keep (CS.of_two ho6.out (fun z hz => (C32.out.2.2.2 z hz).step B6.out) (fun z hz => (C3.out.1.2.2.2 z hz).step B6.out))
       have hw : wholeO ((lx ++ ly).map CX.ch) = none := by
         rw [List.map_append, C2.out.2, C3.out.2]
         unfold wholeO
         rw [HT2.out]
         rfl
       have KW := Whole_any A6 _ c6 (lx ++ ly) w6 C6.out (by have := HNM.out; omega) (fun z hz => (List.mem_append.1 hz).elim (split_small C2.out.2 HK.out.2 z) (split_small C3.out.2 HK.out.2 z))
       rw [hw] at KW
       replace KW := keep KW
       clear ho6 hb6 hw)
    | (go_at_call 13; refine KW.out.mono ?_; rintro e w7 ⟨⟨ms, mu, mp, ⟨a1, a2, a3⟩, mbs⟩, rfl, _, _, hb7⟩
       dsimp only [MX.cells]
       have l7 := below_lay w7 (.cells #[Value.int .u16 ms, .bool mu, .int .u32 mp, .slice a1 a2 a3] 26)
       have B7 := keep (B6.out.trans ((hb7.trans (l7.mono hb7.size)).mono B6.out.size))
       clear hb7 l7 KW))
  have C8 := C32.out.step B7.out
  have C9 := C3.out.1.step B7.out
  have B8 := keep (up L3.out B7.out)
  clear O3 O5 C4 C42 C5 C6 B4 B5 B6 B7
  generalize w7.alloc _ = W at C8 C9 B8 ⊢
  obtain ⟨b', o', u, hA, hbW, hatu, hlu, hvu⟩ := C8.at_ (j := N) (Nat.lt_succ_self N)
  injection hA with hA
  injection hA with z1 z2
  subst z1 z2
  obtain ⟨d', p', v, hA, hdW, hatv, hlv, hvv⟩ := C9.at_ (j := 0) (Nat.succ_pos M)
  injection hA with hA
  injection hA with z1 z2
  subst z1 z2
  rw [Nat.zero_mul, Nat.add_zero] at hatv
  have hu : u.ch = chAt P tsn 3 k N := by
    have e1 := congrArg (fun z => z[N]?) C2.out.2
    rw [List.getElem?_map, hlu] at e1
    exact (splitL_some e1.symm).2
  have hf : fol u.ch v.ch = false := by rw [hu]; exact HF.out v.ch
  have KF := fun w' => Follows_any u v hvu.cb hvv.cb w'
  rw [hf] at KF
  clear hf hu hlu hlv hvu hvv C8 C9
  obtain ⟨xk, xf, xa, xb, xo, xs, xq, ⟨x1, x2, x3⟩, ⟨x4, x5, x6⟩, ⟨x7, x8, x9⟩, ⟨x10, x11, x12⟩, ⟨x13, x14, x15⟩, xps, xbs⟩ := u
  obtain ⟨yk, yf, ya, yb, yo, ys, yq, ⟨y1, y2, y3⟩, ⟨y4, y5, y6⟩, ⟨y7, y8, y9⟩, ⟨y10, y11, y12⟩, ⟨y13, y14, y15⟩, yps, ybs⟩ := v
  dsimp only [At12] at hatu hatv
  dsimp only [CX.cells] at KF
  obtain ⟨c0, c1, c2, c3, c4, c5, c6, c7, c8, c9, c10, c11⟩ := hatu
  obtain ⟨d0, d1, d2, d3, d4, d5, d6, d7, d8, d9, d10, d11⟩ := hatv
  replace KF := keep KF
  clear hbW hdW hbl hdl
  go_region_held3 (fun w' => (w'.cell? ⟨b, o + N * 12, none⟩ = some (.int .u8 xk) ∧ w'.cell? ⟨b, o + N * 12 + 1, none⟩ = some (.int .u8 xf) ∧ w'.cell? ⟨b, o + N * 12 + 2, none⟩ = some (.int .u32 xa) ∧ w'.cell? ⟨b, o + N * 12 + 3, none⟩ = some (.int .u32 xb) ∧ w'.cell? ⟨b, o + N * 12 + 4, none⟩ = some (.int .u16 xo) ∧ w'.cell? ⟨b, o + N * 12 + 5, none⟩ = some (.int .u16 xs) ∧ w'.cell? ⟨b, o + N * 12 + 6, none⟩ = some (.int .u32 xq) ∧ w'.cell? ⟨b, o + N * 12 + 7, none⟩ = some (.slice x1 x2 x3) ∧ w'.cell? ⟨b, o + N * 12 + 8, none⟩ = some (.slice x4 x5 x6) ∧ w'.cell? ⟨b, o + N * 12 + 9, none⟩ = some (.slice x7 x8 x9) ∧ w'.cell? ⟨b, o + N * 12 + 10, none⟩ = some (.slice x10 x11 x12) ∧ w'.cell? ⟨b, o + N * 12 + 11, none⟩ = some (.slice x13 x14 x15)) ∧ (w'.cell? ⟨d, p, none⟩ = some (.int .u8 yk) ∧ w'.cell? ⟨d, p + 1, none⟩ = some (.int .u8 yf) ∧ w'.cell? ⟨d, p + 2, none⟩ = some (.int .u32 ya) ∧ w'.cell? ⟨d, p + 3, none⟩ = some (.int .u32 yb) ∧ w'.cell? ⟨d, p + 4, none⟩ = some (.int .u16 yo) ∧ w'.cell? ⟨d, p + 5, none⟩ = some (.int .u16 ys) ∧ w'.cell? ⟨d, p + 6, none⟩ = some (.int .u32 yq) ∧ w'.cell? ⟨d, p + 7, none⟩ = some (.slice y1 y2 y3) ∧ w'.cell? ⟨d, p + 8, none⟩ = some (.slice y4 y5 y6) ∧ w'.cell? ⟨d, p + 9, none⟩ = some (.slice y7 y8 y9) ∧ w'.cell? ⟨d, p + 10, none⟩ = some (.slice y10 y11 y12) ∧ w'.cell? ⟨d, p + 11, none⟩ = some (.slice y13 y14 y15)))
    (first | exact ⟨⟨c0, c1, c2, c3, c4, c5, c6, c7, c8, c9, c10, c11⟩, ⟨d0, d1, d2, d3, d4, d5, d6, d7, d8, d9, d10, d11⟩⟩ | exact q5)
    (first
    | (go_at_call 16; refine (KF.out _).mono ?_; rintro e w9 ⟨rfl, hb9⟩
       have hb' := (Below.refl W.heap.size W).drew.trans hb9
       have s : ∀ (g j : Nat) (v : Value), W.cell? ⟨g, j, none⟩ = some v → w9.cell? ⟨g, j, none⟩ = some v := fun g j v h => (hb'.cell (p := ⟨g, j, none⟩) (World.block_lt_of_cell? W _ h)).trans h
       have q5 := And.intro (And.intro (s _ _ _ c0) (And.intro (s _ _ _ c1) (And.intro (s _ _ _ c2) (And.intro (s _ _ _ c3) (And.intro (s _ _ _ c4) (And.intro (s _ _ _ c5) (And.intro (s _ _ _ c6) (And.intro (s _ _ _ c7) (And.intro (s _ _ _ c8) (And.intro (s _ _ _ c9) (And.intro (s _ _ _ c10) (s _ _ _ c11)))))))))))) (And.intro (s _ _ _ d0) (And.intro (s _ _ _ d1) (And.intro (s _ _ _ d2) (And.intro (s _ _ _ d3) (And.intro (s _ _ _ d4) (And.intro (s _ _ _ d5) (And.intro (s _ _ _ d6) (And.intro (s _ _ _ d7) (And.intro (s _ _ _ d8) (And.intro (s _ _ _ d9) (And.intro (s _ _ _ d10) (s _ _ _ d11))))))))))))
       have B9 := keep (up B8.out hb')
       clear s hb9 hb'))
  go_wp2_with fail
  go_ret
  exact ⟨rfl, B9.out⟩
theorem splitJoins_walk (x y : MX) (tsn most : Int) (w : World) (hx : MV w x) (hy : MV w y) (ht : (Lit.int .u32 tsn).wf = true) (hm : (Lit.int .i64 most).wf = true) :
    Calls Try.prog 6 #[.agg x.cells.toArray, .agg y.cells.toArray, .int .u32 tsn, .int .i64 most] w fun e w' => e = .returned (.bool true) ∧ Below w.heap.size w w' := by
  have ht' := bounds_u32 ht
  by_cases h1 : 2000 < (x.da.2.1 : Int)
  · exact splitJoins_let x y tsn most w (.inl h1)
  by_cases h2 : 2000 < (y.da.2.1 : Int)
  · exact splitJoins_let x y tsn most w (.inr ⟨by omega, h2⟩)
  have arg : ∀ (z : MX) (t s : Int), (z.da.2.1 = 0 ∨ most < 1 ∨ 1172 < most) → ∀ w', Calls Try.prog 8 #[.agg z.cells.toArray, .int .u32 t, .int .u16 s, .int .i64 most] w' (SplitE 1 w') := fun z t s h w' =>
    (Split_arg z t s most w' h).mono fun e w'' ⟨he, hb⟩ => ⟨none, 0, 0, he, hb⟩
  by_cases hb : most < 1 ∨ 1172 < most
  · exact splitJoins_err x y tsn most w (by omega) (by omega) (by omega) 1 1 (.inl (by decide)) (fun w' _ => arg x tsn 3 (.inr hb) w') (fun t _ w' _ => arg y t 4 (.inr hb) w')
  obtain ⟨k, rfl⟩ : ∃ k : Nat, most = (k : Int) := ⟨most.toNat, by omega⟩
  have hk : 0 < k := by omega
  have ok : ∀ (z : MX), MV w z → 0 < z.da.2.1 → (z.da.2.1 : Int) ≤ 2000 → ∀ (t s : Int), 0 ≤ t ∧ t < 4294967296 → 0 ≤ s ∧ s < 65536 → ∀ w', Below w.heap.size w w' → Calls Try.prog 8 #[.agg z.cells.toArray, .int .u32 t, .int .u16 s, .int .i64 (k : Int)] w' (SplitP w' z.msg t s k) := fun z hz hz0 hz2 t s ht hs w' hb => by
    have := hz.bs.len
    exact Split_ok z t s k w' (hz.step hb) ht hs hk (by omega) (by omega) (by omega)
  have okE : ∀ (z : MX), MV w z → 0 < z.da.2.1 → (z.da.2.1 : Int) ≤ 2000 → ∀ (t s : Int), 0 ≤ t ∧ t < 4294967296 → 0 ≤ s ∧ s < 65536 → ∀ w', Below w.heap.size w w' → Calls Try.prog 8 #[.agg z.cells.toArray, .int .u32 t, .int .u16 s, .int .i64 (k : Int)] w' (SplitE 0 w') := fun z hz hz0 hz2 t s ht hs w' hb =>
    (ok z hz hz0 hz2 t s ht hs w' hb).mono fun e w'' ⟨A, c, l, he, _, _, _, hb⟩ => ⟨A, _, c, he, hb⟩
  by_cases hx0 : x.da.2.1 = 0
  · by_cases hy0 : y.da.2.1 = 0
    · exact splitJoins_err x y tsn k w (by omega) (by omega) (by omega) 1 1 (.inl (by decide)) (fun w' _ => arg x tsn 3 (.inl hx0) w') (fun t _ w' _ => arg y t 4 (.inl hy0) w')
    · exact splitJoins_err x y tsn k w (by omega) (by omega) (by omega) 1 0 (.inl (by decide)) (fun w' _ => arg x tsn 3 (.inl hx0) w') (fun t ht w' hb => okE y hy (by omega) (by omega) t 4 ht (by decide) w' hb)
  by_cases hy0 : y.da.2.1 = 0
  · exact splitJoins_err x y tsn k w (by omega) (by omega) (by omega) 0 1 (.inr ⟨rfl, by decide⟩) (fun w' hb => okE x hx (by omega) (by omega) tsn 3 (by omega) (by decide) w' hb) (fun t _ w' _ => arg y t 4 (.inl hy0) w')
  have lx : x.msg.da.length = x.da.2.1 := hx.bs.len.symm
  have ly : y.msg.da.length = y.da.2.1 := hy.bs.len.symm
  obtain ⟨N, hN⟩ : ∃ N, cnt k x.msg.da.length = N + 1 := ⟨cnt k x.msg.da.length - 1, by have := cnt_pos (k := k) (n := x.msg.da.length) hk (by omega); omega⟩
  obtain ⟨M, hM⟩ : ∃ M, cnt k y.msg.da.length = M + 1 := ⟨cnt k y.msg.da.length - 1, by have := cnt_pos (k := k) (n := y.msg.da.length) hk (by omega); omega⟩
  have cx := cnt_le_n (k := k) (n := x.msg.da.length) hk
  have cy := cnt_le_n (k := k) (n := y.msg.da.length) hk
  refine splitJoins_ok x y tsn k N M w (by omega) (by omega) (by omega) hk (by omega) (by omega) (by omega) hN hM (by omega) (by omega) (fun w' hb => ?_) (fun t ht w' hb => ?_)
  · have := ok x hx (by omega) (by omega) tsn 3 (by omega) (by decide) w' hb
    unfold SplitP at this
    rw [hN] at this
    exact this
  · have := ok y hy (by omega) (by omega) t 4 ht (by decide) w' hb
    unfold SplitP at this
    rw [hM] at this
    exact this
end Go.Proofs.Ytbfmklbffmodjaa
