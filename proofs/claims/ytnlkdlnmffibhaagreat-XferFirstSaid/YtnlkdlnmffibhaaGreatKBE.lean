/- KBE of the stage: texts Ro3, Ro4, Ro5, Ro6, Xf1, Xf0, joined. -/
import Derived.Test.YtnlkdlnmffibhaaGreatKBD
import Derived.Test.YtnlkdlnmffibhaaGreatKAM
import Derived.Test.YtnlkdlnmffibhaaGreatKAN
import Derived.Test.YtnlkdlnmffibhaaGreatKAP
import Derived.Test.YtnlkdlnmffibhaaGreatKBA
import Derived.Test.YtnlkdlnmffibhaaGreatKBC
import Derived.Test.YtnlkdlnmffibhaaGreatKAA
import Derived.Deep.QuietTactic
set_option linter.unusedSimpArgs false
set_option linter.unusedVariables false
set_option maxRecDepth 8000
namespace Go.Proofs.YtnlkdlnmffibhaaGreat
section
open Go.RowKit
def rsm (s : RS) (r : Int) : Int := if s.kn = true then (7 * s.sm + r) / 8 else r
def rva (s : RS) (r : Int) : Int := if s.kn = true then (3 * s.va + max (s.sm - r) (r - s.sm)) / 4 else r / 2
structure Fit_ro (s : RS) (r : Int) : Prop where
  r0 : 0 ≤ r
  r1 : r ≤ 1073741824
  s0 : 0 ≤ s.sm
  s1 : s.sm ≤ 2147483648
  v0 : 0 ≤ s.va
  v1 : s.va ≤ 2147483648
  w0 : 0 ≤ s.wa
  w1 : s.wa ≤ 2147483648
theorem below_drewN_ro {B : Nat} {a w : World} (h : Below B a w) (k : Nat) : Below B a (w.drewN k) := ⟨h.os, h.tape, h.output, h.size, h.block⟩
theorem ret_two {k : IntKind} {a b c d : Int} (h : a = b) (h' : c = d) : Ending.returned (.tuple #[.int k a, .int k c]) = .returned (.tuple #[.int k b, .int k d]) := by rw [h, h']
theorem reckon_new (s : RS) (r : Int) (h0 : 0 ≤ r) (h1 : r ≤ 1073741824) (hk : s.kn = false) (w : World) :
    Calls Tryz.prog 91 #[.agg s.cells, .int .i64 r] w fun e w' => e = .returned (.tuple #[.int .i64 (rsm s r), .int .i64 (rva s r)]) ∧ Below w.heap.size w w' := by
  have l1 := below_lay w (.cells s.cells 59)
  have e1 : rsm s r = r := by unfold rsm; rw [hk]; rfl
  have e2 : rva s r = r.tdiv 2 := by unfold rva; rw [hk, Int.tdiv_eq_ediv_of_nonneg h0]; rfl
  have a1 : wrap64 (r.tdiv 2) = r.tdiv 2 := (wrap_in_ro _ (by rw [Int.tdiv_eq_ediv_of_nonneg h0]; omega)).2
  obtain ⟨sm, va, wa, kn⟩ := s
  dsimp only at hk
  subst hk
  rw [e1, e2]
  clear e1 e2
  replace l1 := keep l1
  clear h0 h1
  dsimp only [RS.cells] at l1 ⊢
  go_enter Tryz.func91, Tryz.ntmps91
  go_wp2_with fail
  go_ret2
  exact ⟨ret_two rfl a1, l1.out⟩
set_option maxHeartbeats 1000000 in
theorem reckon_old (s : RS) (r : Int) (hf : Fit_ro s r) (hk : s.kn = true) (w : World) :
    Calls Tryz.prog 91 #[.agg s.cells, .int .i64 r] w fun e w' => e = .returned (.tuple #[.int .i64 (rsm s r), .int .i64 (rva s r)]) ∧ Below w.heap.size w w' := by
  have l1 := below_lay w (.cells s.cells 59)
  have e1 : rsm s r = (7 * s.sm + r) / 8 := by unfold rsm; rw [hk]; rfl
  have e2 : rva s r = (3 * s.va + max (s.sm - r) (r - s.sm)) / 4 := by unfold rva; rw [hk]; rfl
  obtain ⟨sm, va, wa, kn⟩ := s
  obtain ⟨r0, r1, s0, s1, v0, v1, w0, w1⟩ := hf
  dsimp only at hk r0 r1 s0 s1 v0 v1 w0 w1 e1 e2
  subst hk
  have a1 := (wrap_in_ro (7 * sm) (by omega)).1
  have a2 := (wrap_in_ro (7 * sm + r) (by omega)).1
  have a3 := (wrap_in_ro (3 * va) (by omega)).1
  have a4 := (wrap_in_ro (sm - r) (by omega)).1
  have a5 := (wrap_in_ro (r - sm) (by omega)).1
  obtain ⟨d, hd⟩ : ∃ d, max (sm - r) (r - sm) = d := ⟨_, rfl⟩
  have hd0 : 0 ≤ d ∧ d ≤ 2147483648 := by omega
  rw [hd] at e2
  have a6 := (wrap_in_ro (3 * va + d) (by omega)).1
  have a7 : (7 * sm + r).tdiv 8 = (7 * sm + r) / 8 := Int.tdiv_eq_ediv_of_nonneg (by omega)
  have a8 : (3 * va + d).tdiv 4 = (3 * va + d) / 4 := Int.tdiv_eq_ediv_of_nonneg (by omega)
  have a9 : (if sm - r < r - sm then r - sm else sm - r) = d := by omega
  have b1 := (wrap_in_ro ((7 * sm + r).tdiv 8) (by rw [a7]; omega)).2
  have b2 := (wrap_in_ro ((3 * va + d).tdiv 4) (by rw [a8]; omega)).2
  rw [← a7] at e1
  rw [← a8] at e2
  clear r0 r1 s0 s1 v0 v1 w0 w1 hd hd0 a7 a8
  replace l1 := keep l1
  replace e1 := keep e1
  replace e2 := keep e2
  dsimp only [RS.cells] at l1 ⊢
  go_enter Tryz.func91, Tryz.ntmps91
  go_wp2_with fail
  all_goals go_quiet (fail)
  all_goals (try go_wp2_with fail)
  go_ret2
  exact ⟨ret_two (b1.trans e1.out.symm) (b2.trans e2.out.symm), below_drewN_ro l1.out _⟩
theorem reckon_any (s : RS) (r : Int) (hf : Fit_ro s r) (w : World) :
    Calls Tryz.prog 91 #[.agg s.cells, .int .i64 r] w fun e w' => e = .returned (.tuple #[.int .i64 (rsm s r), .int .i64 (rva s r)]) ∧ Below w.heap.size w w' := by
  rcases h : s.kn with _ | _
  · exact reckon_new s r hf.r0 hf.r1 h w
  · exact reckon_old s r hf h w
def okR (s : RS) (r : Int) : Bool := inB 1073741824 r && inB 2147483648 s.sm && inB 2147483648 s.va && inB 2147483648 s.wa
def morI (v : Int) : Int := max (4 * v) 1
def RS.samp (s : RS) (r : Int) : RS := if okR s r = true then ⟨rsm s r, rva s r, clampI (rsm s r + morI (rva s r)), true⟩ else s
theorem Fit_ro.of {s : RS} {r : Int} (h : okR s r = true) : Fit_ro s r := by
  simp only [okR, Bool.and_eq_true, inB_iff] at h
  obtain ⟨⟨⟨a, b⟩, c⟩, d⟩ := h
  exact ⟨a.1, a.2, b.1, b.2, c.1, c.2, d.1, d.2⟩
theorem Fit_ro.sm {s : RS} {r : Int} (h : Fit_ro s r) : 0 ≤ rsm s r ∧ rsm s r ≤ 2147483648 := by
  obtain ⟨r0, r1, s0, s1, v0, v1, w0, w1⟩ := h
  unfold rsm
  split <;> omega
theorem Fit_ro.va {s : RS} {r : Int} (h : Fit_ro s r) : 0 ≤ rva s r ∧ rva s r ≤ 2147483648 := by
  obtain ⟨r0, r1, s0, s1, v0, v1, w0, w1⟩ := h
  unfold rva
  split <;> omega
end
section
open Go.RowKit
set_option maxHeartbeats 1000000 in
theorem Sample_no (s : RS) (r : Int) (b1 b2 b3 b4 : Bool) (h1 : inB 1073741824 r = b1) (h2 : inB 2147483648 s.sm = b2) (h3 : inB 2147483648 s.va = b3) (h4 : inB 2147483648 s.wa = b4) (hb : (b1 && b2 && b3 && b4) = false) (w : World) :
    Calls Tryz.prog 57 #[.agg s.cells, .int .i64 r] w (StPost_ro w s) := by
  obtain ⟨sm, va, wa, kn⟩ := s
  dsimp only [RS.cells] at h1 h2 h3 h4 ⊢
  have T := Two_ro.new sm va wa kn w
  replace T := keep T
  have K1 := keep (fun m w => Bounds_any 0 m w)
  have K2 := keep (fun g h w hd => fits_any g h 1073741824 r (by decide) w hd)
  have K3 := keep (fun g h w hd => fits_any g h 2147483648 sm (by decide) w hd)
  have K4 := keep (fun g h w hd => fits_any g h 2147483648 va (by decide) w hd)
  have K5 := keep (fun g h w hd => fits_any g h 2147483648 wa (by decide) w hd)
  rw [h1] at K2
  rw [h2] at K3
  rw [h3] at K4
  rw [h4] at K5
  clear h1 h2 h3 h4
  rcases b1 with _ | _
  · clear hb
    go_enter Tryz.func57, Tryz.ntmps57
    go_wp2_with (first
      | (go_at_call_of 89 (Value.int IntKind.i64 2147483648); refine (K1.out _ _).mono ?_; rintro e w3 ⟨g, h, rfl, hd, hb⟩
         have T3 := T.out.step hb
         replace T3 := keep T3
         replace hd := keep hd
         clear hb T)
      | (go_at_call_of 89 (Value.int IntKind.i64 1073741824); refine (K1.out _ _).mono ?_; rintro e w4 ⟨g4, h4, rfl, hd4, hb4⟩
         have T4 := T3.out.step hb4
         obtain ⟨⟨d0, d1, d2, d3⟩, _⟩ := T4.r.all
         obtain ⟨⟨x0, x1, x2, x3⟩, f0, f1, f2, f3⟩ := T4.t.all
         dsimp only [RS.zero] at d0 d1 d2 d3 x0 x1 x2 x3
         replace T4 := keep T4
         have hd5 := keep (hd.out.step hb4)
         replace hd4 := keep hd4
         clear hb4 T3 hd K1)
      | (go_at_call_of 90 (Value.int IntKind.i64 r); refine (K2.out _ _ _ hd4.out).mono ?_; rintro e w5 ⟨rfl, rfl⟩)
      | (go_at_call_of 90 (Value.int IntKind.i64 sm); refine (K3.out _ _ _ hd5.out).mono ?_; rintro e w5 ⟨rfl, rfl⟩)
      | (go_at_call_of 90 (Value.int IntKind.i64 va); refine (K4.out _ _ _ hd5.out).mono ?_; rintro e w5 ⟨rfl, rfl⟩)
      | (go_at_call_of 90 (Value.int IntKind.i64 wa); refine (K5.out _ _ _ hd5.out).mono ?_; rintro e w5 ⟨rfl, rfl⟩))
    exact T4.out.ret rfl rfl rfl
  rcases b2 with _ | _
  · clear hb
    go_enter Tryz.func57, Tryz.ntmps57
    go_wp2_with (first
      | (go_at_call_of 89 (Value.int IntKind.i64 2147483648); refine (K1.out _ _).mono ?_; rintro e w3 ⟨g, h, rfl, hd, hb⟩
         have T3 := T.out.step hb
         replace T3 := keep T3
         replace hd := keep hd
         clear hb T)
      | (go_at_call_of 89 (Value.int IntKind.i64 1073741824); refine (K1.out _ _).mono ?_; rintro e w4 ⟨g4, h4, rfl, hd4, hb4⟩
         have T4 := T3.out.step hb4
         obtain ⟨⟨d0, d1, d2, d3⟩, _⟩ := T4.r.all
         obtain ⟨⟨x0, x1, x2, x3⟩, f0, f1, f2, f3⟩ := T4.t.all
         dsimp only [RS.zero] at d0 d1 d2 d3 x0 x1 x2 x3
         replace T4 := keep T4
         have hd5 := keep (hd.out.step hb4)
         replace hd4 := keep hd4
         clear hb4 T3 hd K1)
      | (go_at_call_of 90 (Value.int IntKind.i64 r); refine (K2.out _ _ _ hd4.out).mono ?_; rintro e w5 ⟨rfl, rfl⟩)
      | (go_at_call_of 90 (Value.int IntKind.i64 sm); refine (K3.out _ _ _ hd5.out).mono ?_; rintro e w5 ⟨rfl, rfl⟩)
      | (go_at_call_of 90 (Value.int IntKind.i64 va); refine (K4.out _ _ _ hd5.out).mono ?_; rintro e w5 ⟨rfl, rfl⟩)
      | (go_at_call_of 90 (Value.int IntKind.i64 wa); refine (K5.out _ _ _ hd5.out).mono ?_; rintro e w5 ⟨rfl, rfl⟩))
    exact T4.out.ret rfl rfl rfl
  rcases b3 with _ | _
  · clear hb
    go_enter Tryz.func57, Tryz.ntmps57
    go_wp2_with (first
      | (go_at_call_of 89 (Value.int IntKind.i64 2147483648); refine (K1.out _ _).mono ?_; rintro e w3 ⟨g, h, rfl, hd, hb⟩
         have T3 := T.out.step hb
         replace T3 := keep T3
         replace hd := keep hd
         clear hb T)
      | (go_at_call_of 89 (Value.int IntKind.i64 1073741824); refine (K1.out _ _).mono ?_; rintro e w4 ⟨g4, h4, rfl, hd4, hb4⟩
         have T4 := T3.out.step hb4
         obtain ⟨⟨d0, d1, d2, d3⟩, _⟩ := T4.r.all
         obtain ⟨⟨x0, x1, x2, x3⟩, f0, f1, f2, f3⟩ := T4.t.all
         dsimp only [RS.zero] at d0 d1 d2 d3 x0 x1 x2 x3
         replace T4 := keep T4
         have hd5 := keep (hd.out.step hb4)
         replace hd4 := keep hd4
         clear hb4 T3 hd K1)
      | (go_at_call_of 90 (Value.int IntKind.i64 r); refine (K2.out _ _ _ hd4.out).mono ?_; rintro e w5 ⟨rfl, rfl⟩)
      | (go_at_call_of 90 (Value.int IntKind.i64 sm); refine (K3.out _ _ _ hd5.out).mono ?_; rintro e w5 ⟨rfl, rfl⟩)
      | (go_at_call_of 90 (Value.int IntKind.i64 va); refine (K4.out _ _ _ hd5.out).mono ?_; rintro e w5 ⟨rfl, rfl⟩)
      | (go_at_call_of 90 (Value.int IntKind.i64 wa); refine (K5.out _ _ _ hd5.out).mono ?_; rintro e w5 ⟨rfl, rfl⟩))
    exact T4.out.ret rfl rfl rfl
  rcases b4 with _ | _
  · clear hb
    go_enter Tryz.func57, Tryz.ntmps57
    go_wp2_with (first
      | (go_at_call_of 89 (Value.int IntKind.i64 2147483648); refine (K1.out _ _).mono ?_; rintro e w3 ⟨g, h, rfl, hd, hb⟩
         have T3 := T.out.step hb
         replace T3 := keep T3
         replace hd := keep hd
         clear hb T)
      | (go_at_call_of 89 (Value.int IntKind.i64 1073741824); refine (K1.out _ _).mono ?_; rintro e w4 ⟨g4, h4, rfl, hd4, hb4⟩
         have T4 := T3.out.step hb4
         obtain ⟨⟨d0, d1, d2, d3⟩, _⟩ := T4.r.all
         obtain ⟨⟨x0, x1, x2, x3⟩, f0, f1, f2, f3⟩ := T4.t.all
         dsimp only [RS.zero] at d0 d1 d2 d3 x0 x1 x2 x3
         replace T4 := keep T4
         have hd5 := keep (hd.out.step hb4)
         replace hd4 := keep hd4
         clear hb4 T3 hd K1)
      | (go_at_call_of 90 (Value.int IntKind.i64 r); refine (K2.out _ _ _ hd4.out).mono ?_; rintro e w5 ⟨rfl, rfl⟩)
      | (go_at_call_of 90 (Value.int IntKind.i64 sm); refine (K3.out _ _ _ hd5.out).mono ?_; rintro e w5 ⟨rfl, rfl⟩)
      | (go_at_call_of 90 (Value.int IntKind.i64 va); refine (K4.out _ _ _ hd5.out).mono ?_; rintro e w5 ⟨rfl, rfl⟩)
      | (go_at_call_of 90 (Value.int IntKind.i64 wa); refine (K5.out _ _ _ hd5.out).mono ?_; rintro e w5 ⟨rfl, rfl⟩))
    exact T4.out.ret rfl rfl rfl
  · cases hb
set_option maxHeartbeats 2000000 in
theorem Sample_ok (s : RS) (r : Int) (hok : okR s r = true) (w : World) :
    Calls Tryz.prog 57 #[.agg s.cells, .int .i64 r] w (StPost_ro w ⟨rsm s r, rva s r, clampI (rsm s r + morI (rva s r)), true⟩) := by
  have hf := Fit_ro.of hok
  have h5 := hf.sm
  have h6 := hf.va
  have K6 := keep (fun w => reckon_any s r hf w)
  simp only [okR, Bool.and_eq_true] at hok
  obtain ⟨⟨⟨h1, h2⟩, h3⟩, h4⟩ := hok
  clear hf
  generalize rsm s r = x at h5 K6 ⊢
  generalize rva s r = y at h6 K6 ⊢
  obtain ⟨sm, va, wa, kn⟩ := s
  dsimp only [RS.cells] at h1 h2 h3 h4 K6 ⊢
  obtain ⟨m, hm⟩ : ∃ m, morI y = m := ⟨_, rfl⟩
  have e1 := wrap_in_ro (4 * y) (by omega)
  have e2 : (if 4 * y < 1 then (1 : Int) else 4 * y) = m := by rw [← hm]; unfold morI; omega
  have e3 := wrap_in_ro (x + m) (by rw [← hm]; unfold morI; omega)
  rw [hm]
  obtain ⟨e1, e1'⟩ := e1
  obtain ⟨e3, e3'⟩ := e3
  clear hm h5 h6
  have T := Two_ro.new sm va wa kn w
  replace T := keep T
  have K1 := keep (fun m w => Bounds_any 0 m w)
  have K2 := keep (fun g h w hd => fits_any g h 1073741824 r (by decide) w hd)
  have K3 := keep (fun g h w hd => fits_any g h 2147483648 sm (by decide) w hd)
  have K4 := keep (fun g h w hd => fits_any g h 2147483648 va (by decide) w hd)
  have K5 := keep (fun g h w hd => fits_any g h 2147483648 wa (by decide) w hd)
  rw [h1] at K2
  rw [h2] at K3
  rw [h3] at K4
  rw [h4] at K5
  have K7 := keep (fun w => waits_any w)
  have K8 := keep (fun g h w (hd : Bd w g h 1000 60000) => clo_any 1000 60000 (x + m) g h w hd.1 hd.2.1)
  have hcl : held 1000 60000 (x + m) = clampI (x + m) := rfl
  rw [hcl] at K8
  clear hcl h1 h2 h3 h4
  generalize clampI (x + m) = z at K8 ⊢
  go_enter Tryz.func57, Tryz.ntmps57
  go_wp2_with (first
    | (go_at_call_of 89 (Value.int IntKind.i64 2147483648); refine (K1.out _ _).mono ?_; rintro e w3 ⟨g, h, rfl, hd, hb⟩
       have T3 := T.out.step hb
       replace T3 := keep T3
       replace hd := keep hd
       clear hb T)
    | (go_at_call_of 89 (Value.int IntKind.i64 1073741824); refine (K1.out _ _).mono ?_; rintro e w4 ⟨g4, h4, rfl, hd4, hb4⟩
       have T4 := T3.out.step hb4
       obtain ⟨⟨d0, d1, d2, d3⟩, _⟩ := T4.r.all
       obtain ⟨⟨x0, x1, x2, x3⟩, f0, f1, f2, f3⟩ := T4.t.all
       dsimp only [RS.zero] at d0 d1 d2 d3 x0 x1 x2 x3
       replace T4 := keep T4
       have hd5 := keep (hd.out.step hb4)
       replace hd4 := keep hd4
       clear hb4 T3 hd K1)
    | (go_at_call_of 90 (Value.int IntKind.i64 r); refine (K2.out _ _ _ hd4.out).mono ?_; rintro e w5 ⟨rfl, rfl⟩)
    | (go_at_call_of 90 (Value.int IntKind.i64 sm); refine (K3.out _ _ _ hd5.out).mono ?_; rintro e w5 ⟨rfl, rfl⟩)
    | (go_at_call_of 90 (Value.int IntKind.i64 va); refine (K4.out _ _ _ hd5.out).mono ?_; rintro e w5 ⟨rfl, rfl⟩)
    | (go_at_call_of 90 (Value.int IntKind.i64 wa); refine (K5.out _ _ _ hd5.out).mono ?_; rintro e w5 ⟨rfl, rfl⟩)
    | (go_at_call 91; refine (K6.out _).mono ?_; rintro e w6 ⟨rfl, hb6⟩
       have T6 := T4.out.step hb6
       obtain ⟨⟨d0, d1, d2, d3⟩, f0, f1, f2, f3⟩ := T6.r.all
       have T7 := ((T6.sm x).va y).kn true
       obtain ⟨⟨q0, q1, q2, q3⟩, _⟩ := T7.r.all
       dsimp only at d0 d1 d2 d3 q0 q1 q2 q3
       replace T7 := keep T7
       clear hb6 T4 T6 K6 hd4 hd5 K2 K3 K4 K5))
  generalize World.setCell _ _ _ = W at T7 q0 q1 q2 q3 ⊢
  clear d0 d1 d2 d3 f0 f1 f2 f3
  go_region_held3 (fun w' => w'.cell? ⟨w.heap.size, 0, none⟩ = some (.int .i64 x) ∧ w'.cell? ⟨w.heap.size, 1, none⟩ = some (.int .i64 y))
    (first | exact ⟨q0, q1⟩ | exact ⟨p0, p1⟩ | exact ⟨r0, r1⟩)
    (first
    | (go_at_call 92; refine (K7.out _).mono ?_; rintro e w8 ⟨g8, h8, rfl, hd8, hb8⟩
       have T8 := T7.out.drew.step hb8
       obtain ⟨⟨p0, p1, p2, p3⟩, f0, f1, f2, f3⟩ := T8.r.all
       have T9 := T8.wa z
       obtain ⟨⟨r0, r1, r2, r3⟩, _⟩ := T9.r.all
       obtain ⟨⟨x0, x1, x2, x3⟩, y0, y1, y2, y3⟩ := T9.t.all
       dsimp only [RS.zero] at p0 p1 p2 p3 r0 r1 r2 r3 x0 x1 x2 x3
       replace T9 := keep T9
       replace hd8 := keep hd8
       clear hb8 T8 T7 K7
       unfold clo)
    | (go_at_call 125; refine (K8.out _ _ _ hd8.out).mono ?_; rintro e w9 ⟨rfl, rfl⟩))
  all_goals (try go_wp2_with fail)
  all_goals exact T9.out.ret rfl rfl rfl
end
section
open Go.RowKit
theorem Sample_any (s : RS) (r : Int) (w : World) : Calls Tryz.prog 57 #[.agg s.cells, .int .i64 r] w (StPost_ro w (s.samp r)) := by
  unfold RS.samp
  rcases h : okR s r with _ | _
  · exact Sample_no s r _ _ _ _ rfl rfl rfl rfl h w
  · exact Sample_ok s r h w
def four (s : RS) : Ending := .returned (.tuple #[.int .i64 s.sm, .int .i64 s.va, .int .i64 s.wa, .bool s.kn])
end
section
open Go.RowKit
theorem Start_at_ro (w : World) : Calls Tryz.prog 50 #[] w fun e w' => e = .returned (.agg #[.int .i64 0, .int .i64 0, .int .i64 3000, .bool false]) ∧ Below w.heap.size w w' := Start_any_ro w
end
section
open Go.RowKit Go.Maps
structure Xg where
  b : Nat
  nb : Nat
  Q : Gq
  gb : Nat
  gk : Nat
  gv : Value
  J : Gh
structure Xm where
  q : Qm
  ws : WS
  rs : RS
  tm : Int
  ru : Bool
  pe : Int
  nl : List Int
  sk : Int
  tl : Bool
  fa : Int
  s : St
  j : Jn
  ow : Bool
def Xm.cells (x : Xm) (g : Xg) : List Value := [.pointer (some ⟨g.Q.b, 0, none⟩), .int .i64 x.ws.cw, .int .i64 x.ws.th, .int .i64 x.ws.pa, .int .i64 x.ws.mt, .bool x.ws.re, .int .u32 x.ws.ex, .int .i64 x.rs.sm, .int .i64 x.rs.va, .int .i64 x.rs.wa, .bool x.rs.kn, .int .i64 x.tm, .bool x.ru, .int .i64 x.pe, .slice (some ⟨g.nb, 0, none⟩) x.nl.length x.nl.length, .int .u32 x.sk, .bool x.tl, .int .i64 x.fa, .pointer (some ⟨g.gb, 0, none⟩), .pointer (some ⟨g.J.b, 0, none⟩), .bool x.ow]
def Xg.S (g : Xg) : Nat → Nat → Prop
  | 0 => fun i => i = g.b
  | 1 => fun i => i = g.nb
  | 2 => fun i => g.Q.O i ∨ g.Q.F i
  | 3 => fun i => Ow g.gb g.gk g.gv i
  | 4 => fun i => g.J.O i ∨ g.J.F i
  | _ => fun _ => False
def Xg.O (g : Xg) (i : Nat) : Prop := ∃ k, g.S k i
structure XA (w : World) (g : Xg) (x : Xm) : Prop where
  blk : w.heap[g.b]? = some (.cells (x.cells g).toArray 72 (0, 0))
  num : w.heap[g.nb]? = some (.cells (x.nl.map (Value.int .u16)).toArray 30 (0, 0))
  qa : QA w g.Q x.q
  nu : Nums x.q
  sa : SA w g.gb g.gk g.gv x.s
  jg : JG w g.J x.j
  lt : ∀ k i, g.S k i → i < w.heap.size
  ap : ∀ k l i, k ≠ l → g.S k i → ¬ g.S l i
structure Xl (w : World) (g : Xg) (w' : World) (g' : Xg) : Prop where
  b : g'.b = g.b
  part : Part g.O w w'
  o : ∀ i, g'.O i → g.O i ∨ w.heap.size ≤ i
section
variable {w w' : World} {g g' : Xg} {x x' : Xm}
theorem Xl.refl (w : World) (g : Xg) : Xl w g w g := ⟨rfl, Part.refl _ _, fun i h => .inl h⟩
theorem Xl.trans {a b c : World} {G H K : Xg} (h : Xl a G b H) (k : Xl b H c K) : Xl a G c K :=
  ⟨k.b.trans h.b, h.part.trans k.part fun i hi => h.o i hi, fun i hi => by
    rcases k.o i hi with h1 | h1
    · exact h.o i h1
    · exact .inr (Nat.le_trans h.part.size h1)⟩
theorem Xl.below (h : Below w.heap.size w w') : Xl w g w' g := ⟨rfl, Part.of_below _ h, fun i hi => .inl hi⟩
theorem Xl.out (h : Xl w g w' g') {i : Nat} (hi : i < w.heap.size) (hn : ¬ g.O i) : ¬ g'.O i := fun ho => by
  rcases h.o i ho with h1 | h1
  · exact hn h1
  · omega
theorem XA.olt (h : XA w g x) {i : Nat} (hi : g.O i) : i < w.heap.size := by
  obtain ⟨k, hk⟩ := hi
  exact h.lt k i hk
theorem XA.kept {S : Nat → Prop} (h : XA w g x) (hp : Part S w w') (hS : ∀ i, g.O i → ¬ S i) : XA w' g x :=
  ⟨(hp.block g.b (h.lt 0 _ rfl) (hS _ ⟨0, rfl⟩)).trans h.blk, (hp.block g.nb (h.lt 1 _ rfl) (hS _ ⟨1, rfl⟩)).trans h.num,
    h.qa.apart hp (fun i hi => hS i ⟨2, .inl hi⟩) (fun i hi => hS i ⟨2, .inr hi⟩), h.nu, h.sa.kept hp (fun i hi => hS i ⟨3, hi⟩),
    ⟨h.jg.ja.apart hp (fun i hi => hS i ⟨4, .inl hi⟩) (fun i hi => hS i ⟨4, .inr hi⟩), h.jg.good, h.jg.ends⟩,
    fun k i hi => Nat.lt_of_lt_of_le (h.lt k i hi) hp.size, h.ap⟩
theorem XA.step (h : XA w g x) (hb : Below w.heap.size w w') : XA w' g x := h.kept (Part.of_below (fun _ => False) hb) fun i hi hc => hc
theorem XA.at_ (h : XA w g x) (i : Nat) (v : Value) (hv : (x.cells g)[i]? = some v) : w.cell? ⟨g.b, i, none⟩ = some v := upd_cell h.blk i v (by simpa using hv)
theorem XA.fz (h : XA w g x) (i : Nat) : w.frozen? ⟨g.b, i, none⟩ = false := upd_fz h.blk i
theorem ap_upd {s s' : Nat → Nat → Prop} {B : Nat} (k0 : Nat) (hlt : ∀ k i, s k i → i < B) (hap : ∀ k l i, k ≠ l → s k i → ¬ s l i) (he : ∀ k, k ≠ k0 → s' k = s k) (hn : ∀ i, s' k0 i → s k0 i ∨ B ≤ i) : ∀ k l i, k ≠ l → s' k i → ¬ s' l i := by
  intro k l i hne h1 h2
  by_cases hk : k = k0
  · subst hk
    rw [he l (Ne.symm hne)] at h2
    rcases hn i h1 with h3 | h3
    · exact hap k l i hne h3 h2
    · have := hlt l i h2; omega
  · rw [he k hk] at h1
    by_cases hl : l = k0
    · subst hl
      rcases hn i h2 with h3 | h3
      · exact hap k l i hne h1 h3
      · have := hlt k i h1; omega
    · rw [he l hl] at h2
      exact hap k l i hne h1 h2
theorem lt_upd {s s' : Nat → Nat → Prop} {B B' : Nat} (k0 : Nat) (hlt : ∀ k i, s k i → i < B) (hB : B ≤ B') (he : ∀ k, k ≠ k0 → s' k = s k) (hn : ∀ i, s' k0 i → i < B') : ∀ k i, s' k i → i < B' := by
  intro k i hi
  by_cases hk : k = k0
  · subst hk
    exact hn i hi
  · rw [he k hk] at hi
    exact Nat.lt_of_lt_of_le (hlt k i hi) hB
theorem o_upd {g g' : Xg} {B : Nat} (k0 : Nat) (he : ∀ k, k ≠ k0 → g'.S k = g.S k) (hn : ∀ i, g'.S k0 i → g.S k0 i ∨ B ≤ i) : ∀ i, g'.O i → g.O i ∨ B ≤ i := by
  rintro i ⟨k, hk⟩
  by_cases h : k = k0
  · subst h
    rcases hn i hk with h1 | h1
    · exact .inl ⟨k, h1⟩
    · exact .inr h1
  · rw [he k h] at hk
    exact .inl ⟨k, hk⟩
theorem XA.no (h : XA w g x) {k l i : Nat} (hne : k ≠ l) (hi : g.S k i) : ¬ g.S l i := h.ap k l i hne hi
theorem XA.upQ (h : XA w g x) {Q' : Gq} {q' : Qm} (hq : QA w' Q' q') (hn : Nums q') (hl : Ltr w g.Q w' Q') : XA w' { g with Q := Q' } { x with q := q' } ∧ Xl w g w' { g with Q := Q' } := by
  have hS : ∀ k, k ≠ 2 → Xg.S { g with Q := Q' } k = g.S k := fun k hk => by
    match k, hk with
    | 0, _ => rfl
    | 1, _ => rfl
    | 2, hk => exact absurd rfl hk
    | 3, _ => rfl
    | 4, _ => rfl
    | _ + 5, _ => rfl
  have hN : ∀ i, Xg.S { g with Q := Q' } 2 i → g.S 2 i ∨ w.heap.size ≤ i := fun i hi => by
    rcases hi with h1 | h1
    · rcases hl.o i h1 with h2 | h2
      · exact .inl (.inl h2)
      · exact .inr h2
    · rcases hl.f i h1 with h2 | h2
      · exact .inl (.inr h2)
      · exact .inr h2
  have hp : ∀ k i, k ≠ 2 → g.S k i → ¬ g.Q.O i := fun k i hk hi hc => h.ap k 2 i hk hi (.inl hc)
  refine ⟨⟨?_, (hl.part.block g.nb (h.lt 1 _ rfl) (hp 1 _ (by decide) rfl)).trans h.num, hq, hn, h.sa.kept hl.part fun i hi => hp 3 i (by decide) hi,
    ⟨h.jg.ja.apart hl.part (fun i hi => hp 4 i (by decide) (.inl hi)) (fun i hi => hp 4 i (by decide) (.inr hi)), h.jg.good, h.jg.ends⟩,
    lt_upd 2 h.lt hl.part.size hS fun i hi => by rcases hi with h1 | h1; exact hq.olt i h1; exact hq.flt i h1, ap_upd 2 h.lt h.ap hS hN⟩,
    rfl, hl.part.mono fun i hi => ⟨2, .inl hi⟩, o_upd 2 hS hN⟩
  have hb := (hl.part.block g.b (h.lt 0 _ rfl) (hp 0 _ (by decide) rfl)).trans h.blk
  have he : Xm.cells { x with q := q' } { g with Q := Q' } = x.cells g := by
    unfold Xm.cells
    dsimp only
    rw [hl.b]
  rw [he]
  exact hb
theorem XA.upS (h : XA w g x) {v' : Value} {s' : St} (hs : SA w' g.gb g.gk v' s') (hv : ∀ i, v'.ownBlock = some i → g.gv.ownBlock = some i ∨ w.heap.size ≤ i) {S : Nat → Prop} (hp : Part S w w') (hS : ∀ i, S i → Ow g.gb g.gk g.gv i) : XA w' { g with gv := v' } { x with s := s' } ∧ Xl w g w' { g with gv := v' } := by
  have hE : ∀ k, k ≠ 3 → Xg.S { g with gv := v' } k = g.S k := fun k hk => by
    match k, hk with
    | 0, _ => rfl
    | 1, _ => rfl
    | 2, _ => rfl
    | 3, hk => exact absurd rfl hk
    | 4, _ => rfl
    | _ + 5, _ => rfl
  have hN : ∀ i, Xg.S { g with gv := v' } 3 i → g.S 3 i ∨ w.heap.size ≤ i := fun i hi => by
    rcases hi with h1 | h1 | h1
    · exact .inl (.inl h1)
    · exact .inl (.inr (.inl h1))
    · rcases hv i h1 with h2 | h2
      · exact .inl (.inr (.inr h2))
      · exact .inr h2
  have hc : ∀ k i, k ≠ 3 → g.S k i → ¬ S i := fun k i hk hi hc => h.ap k 3 i hk hi (hS i hc)
  exact ⟨⟨(hp.block g.b (h.lt 0 _ rfl) (hc 0 _ (by decide) rfl)).trans h.blk, (hp.block g.nb (h.lt 1 _ rfl) (hc 1 _ (by decide) rfl)).trans h.num,
    h.qa.apart hp (fun i hi => hc 2 i (by decide) (.inl hi)) (fun i hi => hc 2 i (by decide) (.inr hi)), h.nu, hs,
    ⟨h.jg.ja.apart hp (fun i hi => hc 4 i (by decide) (.inl hi)) (fun i hi => hc 4 i (by decide) (.inr hi)), h.jg.good, h.jg.ends⟩,
    lt_upd 3 h.lt hp.size hE fun i hi => hs.ow_lt hi, ap_upd 3 h.lt h.ap hE hN⟩,
    rfl, hp.mono fun i hi => ⟨3, hS i hi⟩, o_upd 3 hE hN⟩
theorem XA.upJ (h : XA w g x) {J' : Gh} {j' : Jn} (hj : JG w' J' j') (hl : Later w g.J w' J') : XA w' { g with J := J' } { x with j := j' } ∧ Xl w g w' { g with J := J' } := by
  have hS : ∀ k, k ≠ 4 → Xg.S { g with J := J' } k = g.S k := fun k hk => by
    match k, hk with
    | 0, _ => rfl
    | 1, _ => rfl
    | 2, _ => rfl
    | 3, _ => rfl
    | 4, hk => exact absurd rfl hk
    | _ + 5, _ => rfl
  have hN : ∀ i, Xg.S { g with J := J' } 4 i → g.S 4 i ∨ w.heap.size ≤ i := fun i hi => by
    rcases hi with h1 | h1
    · rcases hl.o i h1 with h2 | h2
      · exact .inl (.inl h2)
      · exact .inr h2
    · rcases hl.f i h1 with h2 | h2
      · exact .inl (.inr h2)
      · exact .inr h2
  have hp : ∀ k i, k ≠ 4 → g.S k i → ¬ g.J.O i := fun k i hk hi hc => h.ap k 4 i hk hi (.inl hc)
  refine ⟨⟨?_, (hl.part.block g.nb (h.lt 1 _ rfl) (hp 1 _ (by decide) rfl)).trans h.num,
    h.qa.apart hl.part (fun i hi => hp 2 i (by decide) (.inl hi)) (fun i hi => hp 2 i (by decide) (.inr hi)), h.nu, h.sa.kept hl.part fun i hi => hp 3 i (by decide) hi, hj,
    lt_upd 4 h.lt hl.part.size hS fun i hi => by rcases hi with h1 | h1; exact hj.ja.olt i h1; exact hj.ja.flt i h1, ap_upd 4 h.lt h.ap hS hN⟩,
    rfl, hl.part.mono fun i hi => ⟨4, .inl hi⟩, o_upd 4 hS hN⟩
  have hb := (hl.part.block g.b (h.lt 0 _ rfl) (hp 0 _ (by decide) rfl)).trans h.blk
  have he : Xm.cells { x with j := j' } { g with J := J' } = x.cells g := by
    unfold Xm.cells
    dsimp only
    rw [hl.b]
  rw [he]
  exact hb
theorem XA.put (h : XA w g x) (i : Nat) (v : Value) (x' : Xm) (hq : x'.q = x.q) (hs : x'.s = x.s) (hj : x'.j = x.j) (hn : x'.nl = x.nl) (hc : (x.cells g).toArray.setIfInBounds i v = (x'.cells g).toArray) :
    XA (w.setCell ⟨g.b, i, none⟩ v) g x' ∧ Xl w g (w.setCell ⟨g.b, i, none⟩ v) g := by
  have hp := part_set w g.b i v
  have hno : ∀ k j, k ≠ 0 → g.S k j → ¬ j = g.b := fun k j hk hj hc => h.ap k 0 j hk hj hc
  refine ⟨⟨?_, ?_, ?_, ?_, ?_, ?_, fun k j hj => Nat.lt_of_lt_of_le (h.lt k j hj) hp.size, h.ap⟩, rfl, hp.mono fun j hj => ⟨0, hj⟩, fun j hj => .inl hj⟩
  · have h1 := heap_setCell_same w g.b i _ _ v h.blk
    rw [hc] at h1
    exact h1
  · rw [hn]
    exact (hp.block g.nb (h.lt 1 _ rfl) (hno 1 _ (by decide) rfl)).trans h.num
  · rw [hq]
    exact h.qa.apart hp (fun j hj => hno 2 j (by decide) (.inl hj)) (fun j hj => hno 2 j (by decide) (.inr hj))
  · rw [hq]
    exact h.nu
  · rw [hs]
    exact h.sa.kept hp fun j hj => hno 3 j (by decide) hj
  · rw [hj]
    exact ⟨h.jg.ja.apart hp (fun j hj => hno 4 j (by decide) (.inl hj)) (fun j hj => hno 4 j (by decide) (.inr hj)), h.jg.good, h.jg.ends⟩
theorem XA.putN (h : XA w g x) (i : Nat) (v : Int) (hi : i < x.nl.length) :
    XA (w.setCell ⟨g.nb, i, none⟩ (.int .u16 v)) g { x with nl := x.nl.set i v } ∧ Xl w g (w.setCell ⟨g.nb, i, none⟩ (.int .u16 v)) g := by
  have hp := part_set w g.nb i (.int .u16 v)
  have hno : ∀ k j, k ≠ 1 → g.S k j → ¬ j = g.nb := fun k j hk hj hc => h.ap k 1 j hk hj hc
  refine ⟨⟨?_, ?_, ?_, h.nu, ?_, ?_, fun k j hj => Nat.lt_of_lt_of_le (h.lt k j hj) hp.size, h.ap⟩, rfl, hp.mono fun j hj => ⟨1, hj⟩, fun j hj => .inl hj⟩
  · have he : Xm.cells { x with nl := x.nl.set i v } g = x.cells g := by
      unfold Xm.cells
      dsimp only
      rw [List.length_set]
    rw [he]
    exact (hp.block g.b (h.lt 0 _ rfl) (hno 0 _ (by decide) rfl)).trans h.blk
  · have h1 := heap_setCell_same w g.nb i _ _ (.int .u16 v) h.num
    rw [h1]
    simp [List.map_set]
  · exact h.qa.apart hp (fun j hj => hno 2 j (by decide) (.inl hj)) (fun j hj => hno 2 j (by decide) (.inr hj))
  · exact h.sa.kept hp fun j hj => hno 3 j (by decide) hj
  · exact ⟨h.jg.ja.apart hp (fun j hj => hno 4 j (by decide) (.inl hj)) (fun j hj => hno 4 j (by decide) (.inr hj)), h.jg.good, h.jg.ends⟩
end
end
section
open Go.RowKit
def bd (n : Int) : Int := max 0 (min n 1099511627776)
theorem bd_in (n : Int) : 0 ≤ bd n ∧ bd n ≤ 1099511627776 := by unfold bd; omega
theorem xbounded_any (n : Int) (w : World) : Calls Tryz.prog 18 #[.int .i64 n] w fun e w' => e = .returned (.int .i64 (bd n)) ∧ w = w' := by
  go_enter Tryz.func18, Tryz.ntmps18
  go_wp2
  all_goals go_ret
  all_goals refine ⟨ret_int ?_, rfl⟩
  all_goals unfold bd
  all_goals (try split)
  all_goals (try split)
  all_goals omega
theorem until_always (now : Int) (w : World) : Calls Tryz.prog 17 #[.int .i64 now, .int .i64 (-1)] w fun e w' => e = .returned (.int .i64 (-1)) ∧ w = w' := by
  go_enter Tryz.func17, Tryz.ntmps17
  go_wp2
  all_goals go_ret
  all_goals exact ⟨rfl, rfl⟩
theorem sends_at (b : Nat) (A : Option Addr) (n c : Nat) (st : Int) (w : World) (h : w.cell? ⟨b, 14, none⟩ = some (.slice A n c)) (h0 : 0 ≤ st) (h1 : st < 65536) : Calls Tryz.prog 31 #[.pointer (some ⟨b, 0, none⟩), .int .u16 st] w fun e w' => e = .returned (.bool (decide (st < (n : Int)))) ∧ w = w' := by
  have hw : IntKind.i64.wrap st = st := by simp [IntKind.wrap, IntKind.signed, IntKind.bits]; omega
  go_enter Tryz.func31, Tryz.ntmps31
  go_wp2
  all_goals go_ret
  all_goals exact ⟨rfl, rfl⟩
theorem piece_at (b : Nat) (mt : Int) (w : World) (h : w.cell? ⟨b, 4, none⟩ = some (.int .i64 mt)) (h1 : 0 ≤ mt) (h2 : mt ≤ 65536) (k : Int) (hk : max 1 (min 1172 (mt - 28)) = k) : Calls Tryz.prog 33 #[.pointer (some ⟨b, 0, none⟩)] w fun e w' => e = .returned (.int .i64 k) ∧ w = w' := by
  subst hk
  go_enter Tryz.func33, Tryz.ntmps33
  go_wp2
  all_goals go_ret
  all_goals refine ⟨ret_int ?_, rfl⟩
  all_goals (try split)
  all_goals (try split)
  all_goals omega
theorem xSend_nil (m : MX) (life tries now : Int) (w : World) : Calls Tryz.prog 7 #[.pointer none, .agg m.cells.toArray, .int .i64 life, .int .i64 tries, .int .i64 now] w fun e w' => e = .returned (.int .i64 1) ∧ Below w.heap.size w w' := by
  go_enter Tryz.func7, Tryz.ntmps7
  go_wp2
  go_ret
  exact ⟨rfl, below_lay _ _⟩
theorem xTell_nil (now : Int) (w : World) : Calls Tryz.prog 8 #[.pointer none, .int .i64 now] w fun e w' => e = .returned (.slice none 0 0) ∧ w = w' := by
  go_enter Tryz.func8, Tryz.ntmps8
  go_wp2
  all_goals go_ret
  all_goals exact ⟨rfl, rfl⟩
theorem xMessages_nil (w : World) : Calls Tryz.prog 14 #[.pointer none] w fun e w' => e = .returned (.slice none 0 0) ∧ w = w' := by
  go_enter Tryz.func14, Tryz.ntmps14
  go_wp2
  all_goals go_ret
  all_goals exact ⟨rfl, rfl⟩
theorem xDue_nil (w : World) : Calls Tryz.prog 9 #[.pointer none] w fun e w' => e = .returned (.tuple #[.int .i64 0, .bool false]) ∧ w = w' := by
  go_enter Tryz.func9, Tryz.ntmps9
  go_wp2
  all_goals exact bodyPost_ret (results_tmp2 rfl _ _ _) rfl ⟨rfl, rfl⟩
theorem xNext_nil (w : World) : Calls Tryz.prog 11 #[.pointer none] w fun e w' => e = .returned (.int .u32 0) ∧ w = w' := by
  go_enter Tryz.func11, Tryz.ntmps11
  go_wp2
  all_goals go_ret
  all_goals exact ⟨rfl, rfl⟩
theorem xIdle_nil (w : World) : Calls Tryz.prog 15 #[.pointer none] w fun e w' => e = .returned (.bool true) ∧ w = w' := by
  go_enter Tryz.func15, Tryz.ntmps15
  go_wp2
  all_goals (try go_quiet (fail))
  all_goals (try go_wp2)
  all_goals go_ret
  all_goals exact ⟨rfl, rfl⟩
end
end Go.Proofs.YtnlkdlnmffibhaaGreat
