/- Package rto: Sample. -/
import Derived.Test.YtkpbaoiaebdngaaRo3
namespace Go.Proofs.Ytkpbaoiaebdngaa
open Go.RowKit
set_option linter.unusedVariables false

set_option maxHeartbeats 1000000 in
theorem Sample_no (s : RS) (r : Int) (b1 b2 b3 b4 : Bool) (h1 : inB 1073741824 r = b1) (h2 : inB 2147483648 s.sm = b2) (h3 : inB 2147483648 s.va = b3) (h4 : inB 2147483648 s.wa = b4) (hb : (b1 && b2 && b3 && b4) = false) (w : World) :
    Calls Try.prog 9 #[.agg s.cells, .int .i64 r] w (StPost w s) := by
  obtain ⟨sm, va, wa, kn⟩ := s
  dsimp only [RS.cells] at h1 h2 h3 h4 ⊢
  have T := Two.new sm va wa kn w
  replace T := keep T
  have K1 := keep (fun m w => Bounds_any 0 m w)
  have K2 := keep (fun g h w hd => fits_any g h 1073741824 r (by decide) w hd)
  have K3 := keep (fun g h w hd => fits_any g h 2147483648 sm (by decide) w hd)
  have K4 := keep (fun g h w hd => fits_any g h 2147483648 va (by decide) w hd)
  have K5 := keep (fun g h w hd => fits_any g h 2147483648 wa (by decide) w hd)
  rw [h1] at K2
  rw [h2] at K3
  rw [h3] at K4
  rw [h4] at K5
  clear h1 h2 h3 h4
  rcases b1 with _ | _
  · clear hb
    go_enter Try.func9, Try.ntmps9
    go_wp2_with (first
      | (go_at_call_of 14 (Value.int IntKind.i64 2147483648); refine (K1.out _ _).mono ?_; rintro e w3 ⟨g, h, rfl, hd, hb⟩
         have T3 := T.out.step hb
         replace T3 := keep T3
         replace hd := keep hd
         clear hb T)
      | (go_at_call_of 14 (Value.int IntKind.i64 1073741824); refine (K1.out _ _).mono ?_; rintro e w4 ⟨g4, h4, rfl, hd4, hb4⟩
         have T4 := T3.out.step hb4
         obtain ⟨⟨d0, d1, d2, d3⟩, _⟩ := T4.r.all
         obtain ⟨⟨x0, x1, x2, x3⟩, f0, f1, f2, f3⟩ := T4.t.all
         dsimp only [RS.zero] at d0 d1 d2 d3 x0 x1 x2 x3
         replace T4 := keep T4
         have hd5 := keep (hd.out.step hb4)
         replace hd4 := keep hd4
         clear hb4 T3 hd K1)
      | (go_at_call_of 15 (Value.int IntKind.i64 r); refine (K2.out _ _ _ hd4.out).mono ?_; rintro e w5 ⟨rfl, rfl⟩)
      | (go_at_call_of 15 (Value.int IntKind.i64 sm); refine (K3.out _ _ _ hd5.out).mono ?_; rintro e w5 ⟨rfl, rfl⟩)
      | (go_at_call_of 15 (Value.int IntKind.i64 va); refine (K4.out _ _ _ hd5.out).mono ?_; rintro e w5 ⟨rfl, rfl⟩)
      | (go_at_call_of 15 (Value.int IntKind.i64 wa); refine (K5.out _ _ _ hd5.out).mono ?_; rintro e w5 ⟨rfl, rfl⟩))
    exact T4.out.ret rfl rfl rfl
  rcases b2 with _ | _
  · clear hb
    go_enter Try.func9, Try.ntmps9
    go_wp2_with (first
      | (go_at_call_of 14 (Value.int IntKind.i64 2147483648); refine (K1.out _ _).mono ?_; rintro e w3 ⟨g, h, rfl, hd, hb⟩
         have T3 := T.out.step hb
         replace T3 := keep T3
         replace hd := keep hd
         clear hb T)
      | (go_at_call_of 14 (Value.int IntKind.i64 1073741824); refine (K1.out _ _).mono ?_; rintro e w4 ⟨g4, h4, rfl, hd4, hb4⟩
         have T4 := T3.out.step hb4
         obtain ⟨⟨d0, d1, d2, d3⟩, _⟩ := T4.r.all
         obtain ⟨⟨x0, x1, x2, x3⟩, f0, f1, f2, f3⟩ := T4.t.all
         dsimp only [RS.zero] at d0 d1 d2 d3 x0 x1 x2 x3
         replace T4 := keep T4
         have hd5 := keep (hd.out.step hb4)
         replace hd4 := keep hd4
         clear hb4 T3 hd K1)
      | (go_at_call_of 15 (Value.int IntKind.i64 r); refine (K2.out _ _ _ hd4.out).mono ?_; rintro e w5 ⟨rfl, rfl⟩)
      | (go_at_call_of 15 (Value.int IntKind.i64 sm); refine (K3.out _ _ _ hd5.out).mono ?_; rintro e w5 ⟨rfl, rfl⟩)
      | (go_at_call_of 15 (Value.int IntKind.i64 va); refine (K4.out _ _ _ hd5.out).mono ?_; rintro e w5 ⟨rfl, rfl⟩)
      | (go_at_call_of 15 (Value.int IntKind.i64 wa); refine (K5.out _ _ _ hd5.out).mono ?_; rintro e w5 ⟨rfl, rfl⟩))
    exact T4.out.ret rfl rfl rfl
  rcases b3 with _ | _
  · clear hb
    go_enter Try.func9, Try.ntmps9
    go_wp2_with (first
      | (go_at_call_of 14 (Value.int IntKind.i64 2147483648); refine (K1.out _ _).mono ?_; rintro e w3 ⟨g, h, rfl, hd, hb⟩
         have T3 := T.out.step hb
         replace T3 := keep T3
         replace hd := keep hd
         clear hb T)
      | (go_at_call_of 14 (Value.int IntKind.i64 1073741824); refine (K1.out _ _).mono ?_; rintro e w4 ⟨g4, h4, rfl, hd4, hb4⟩
         have T4 := T3.out.step hb4
         obtain ⟨⟨d0, d1, d2, d3⟩, _⟩ := T4.r.all
         obtain ⟨⟨x0, x1, x2, x3⟩, f0, f1, f2, f3⟩ := T4.t.all
         dsimp only [RS.zero] at d0 d1 d2 d3 x0 x1 x2 x3
         replace T4 := keep T4
         have hd5 := keep (hd.out.step hb4)
         replace hd4 := keep hd4
         clear hb4 T3 hd K1)
      | (go_at_call_of 15 (Value.int IntKind.i64 r); refine (K2.out _ _ _ hd4.out).mono ?_; rintro e w5 ⟨rfl, rfl⟩)
      | (go_at_call_of 15 (Value.int IntKind.i64 sm); refine (K3.out _ _ _ hd5.out).mono ?_; rintro e w5 ⟨rfl, rfl⟩)
      | (go_at_call_of 15 (Value.int IntKind.i64 va); refine (K4.out _ _ _ hd5.out).mono ?_; rintro e w5 ⟨rfl, rfl⟩)
      | (go_at_call_of 15 (Value.int IntKind.i64 wa); refine (K5.out _ _ _ hd5.out).mono ?_; rintro e w5 ⟨rfl, rfl⟩))
    exact T4.out.ret rfl rfl rfl
  rcases b4 with _ | _
  · clear hb
    go_enter Try.func9, Try.ntmps9
    go_wp2_with (first
      | (go_at_call_of 14 (Value.int IntKind.i64 2147483648); refine (K1.out _ _).mono ?_; rintro e w3 ⟨g, h, rfl, hd, hb⟩
         have T3 := T.out.step hb
         replace T3 := keep T3
         replace hd := keep hd
         clear hb T)
      | (go_at_call_of 14 (Value.int IntKind.i64 1073741824); refine (K1.out _ _).mono ?_; rintro e w4 ⟨g4, h4, rfl, hd4, hb4⟩
         have T4 := T3.out.step hb4
         obtain ⟨⟨d0, d1, d2, d3⟩, _⟩ := T4.r.all
         obtain ⟨⟨x0, x1, x2, x3⟩, f0, f1, f2, f3⟩ := T4.t.all
         dsimp only [RS.zero] at d0 d1 d2 d3 x0 x1 x2 x3
         replace T4 := keep T4
         have hd5 := keep (hd.out.step hb4)
         replace hd4 := keep hd4
         clear hb4 T3 hd K1)
      | (go_at_call_of 15 (Value.int IntKind.i64 r); refine (K2.out _ _ _ hd4.out).mono ?_; rintro e w5 ⟨rfl, rfl⟩)
      | (go_at_call_of 15 (Value.int IntKind.i64 sm); refine (K3.out _ _ _ hd5.out).mono ?_; rintro e w5 ⟨rfl, rfl⟩)
      | (go_at_call_of 15 (Value.int IntKind.i64 va); refine (K4.out _ _ _ hd5.out).mono ?_; rintro e w5 ⟨rfl, rfl⟩)
      | (go_at_call_of 15 (Value.int IntKind.i64 wa); refine (K5.out _ _ _ hd5.out).mono ?_; rintro e w5 ⟨rfl, rfl⟩))
    exact T4.out.ret rfl rfl rfl
  · cases hb

set_option maxHeartbeats 2000000 in
theorem Sample_ok (s : RS) (r : Int) (hok : okR s r = true) (w : World) :
    Calls Try.prog 9 #[.agg s.cells, .int .i64 r] w (StPost w ⟨rsm s r, rva s r, clampI (rsm s r + morI (rva s r)), true⟩) := by
  have hf := Fit.of hok
  have h5 := hf.sm
  have h6 := hf.va
  have K6 := keep (fun w => reckon_any s r hf w)
  simp only [okR, Bool.and_eq_true] at hok
  obtain ⟨⟨⟨h1, h2⟩, h3⟩, h4⟩ := hok
  clear hf
  generalize rsm s r = x at h5 K6 ⊢
  generalize rva s r = y at h6 K6 ⊢
  obtain ⟨sm, va, wa, kn⟩ := s
  dsimp only [RS.cells] at h1 h2 h3 h4 K6 ⊢
  obtain ⟨m, hm⟩ : ∃ m, morI y = m := ⟨_, rfl⟩
  have e1 := wrap_in (4 * y) (by omega)
  have e2 : (if 4 * y < 1 then (1 : Int) else 4 * y) = m := by rw [← hm]; unfold morI; omega
  have e3 := wrap_in (x + m) (by rw [← hm]; unfold morI; omega)
  rw [hm]
  obtain ⟨e1, e1'⟩ := e1
  obtain ⟨e3, e3'⟩ := e3
  clear hm h5 h6
  have T := Two.new sm va wa kn w
  replace T := keep T
  have K1 := keep (fun m w => Bounds_any 0 m w)
  have K2 := keep (fun g h w hd => fits_any g h 1073741824 r (by decide) w hd)
  have K3 := keep (fun g h w hd => fits_any g h 2147483648 sm (by decide) w hd)
  have K4 := keep (fun g h w hd => fits_any g h 2147483648 va (by decide) w hd)
  have K5 := keep (fun g h w hd => fits_any g h 2147483648 wa (by decide) w hd)
  rw [h1] at K2
  rw [h2] at K3
  rw [h3] at K4
  rw [h4] at K5
  have K7 := keep (fun w => waits_any w)
  have K8 := keep (fun g h w (hd : Bd w g h 1000 60000) => clo_any 1000 60000 (x + m) g h w hd.1 hd.2.1)
  have hcl : held 1000 60000 (x + m) = clampI (x + m) := rfl
  rw [hcl] at K8
  clear hcl h1 h2 h3 h4
  generalize clampI (x + m) = z at K8 ⊢
  go_enter Try.func9, Try.ntmps9
  go_wp2_with (first
    | (go_at_call_of 14 (Value.int IntKind.i64 2147483648); refine (K1.out _ _).mono ?_; rintro e w3 ⟨g, h, rfl, hd, hb⟩
       have T3 := T.out.step hb
       replace T3 := keep T3
       replace hd := keep hd
       clear hb T)
    | (go_at_call_of 14 (Value.int IntKind.i64 1073741824); refine (K1.out _ _).mono ?_; rintro e w4 ⟨g4, h4, rfl, hd4, hb4⟩
       have T4 := T3.out.step hb4
       obtain ⟨⟨d0, d1, d2, d3⟩, _⟩ := T4.r.all
       obtain ⟨⟨x0, x1, x2, x3⟩, f0, f1, f2, f3⟩ := T4.t.all
       dsimp only [RS.zero] at d0 d1 d2 d3 x0 x1 x2 x3
       replace T4 := keep T4
       have hd5 := keep (hd.out.step hb4)
       replace hd4 := keep hd4
       clear hb4 T3 hd K1)
    | (go_at_call_of 15 (Value.int IntKind.i64 r); refine (K2.out _ _ _ hd4.out).mono ?_; rintro e w5 ⟨rfl, rfl⟩)
    | (go_at_call_of 15 (Value.int IntKind.i64 sm); refine (K3.out _ _ _ hd5.out).mono ?_; rintro e w5 ⟨rfl, rfl⟩)
    | (go_at_call_of 15 (Value.int IntKind.i64 va); refine (K4.out _ _ _ hd5.out).mono ?_; rintro e w5 ⟨rfl, rfl⟩)
    | (go_at_call_of 15 (Value.int IntKind.i64 wa); refine (K5.out _ _ _ hd5.out).mono ?_; rintro e w5 ⟨rfl, rfl⟩)
    | (go_at_call 16; refine (K6.out _).mono ?_; rintro e w6 ⟨rfl, hb6⟩
       have T6 := T4.out.step hb6
       obtain ⟨⟨d0, d1, d2, d3⟩, f0, f1, f2, f3⟩ := T6.r.all
       have T7 := ((T6.sm x).va y).kn true
       obtain ⟨⟨q0, q1, q2, q3⟩, _⟩ := T7.r.all
       dsimp only at d0 d1 d2 d3 q0 q1 q2 q3
       replace T7 := keep T7
       clear hb6 T4 T6 K6 hd4 hd5 K2 K3 K4 K5))
  generalize World.setCell _ _ _ = W at T7 q0 q1 q2 q3 ⊢
  clear d0 d1 d2 d3 f0 f1 f2 f3
  go_region_held3 (fun w' => w'.cell? ⟨w.heap.size, 0, none⟩ = some (.int .i64 x) ∧ w'.cell? ⟨w.heap.size, 1, none⟩ = some (.int .i64 y))
    (first | exact ⟨q0, q1⟩ | exact ⟨p0, p1⟩ | exact ⟨r0, r1⟩)
    (first
    | (go_at_call 17; refine (K7.out _).mono ?_; rintro e w8 ⟨g8, h8, rfl, hd8, hb8⟩
       have T8 := T7.out.drew.step hb8
       obtain ⟨⟨p0, p1, p2, p3⟩, f0, f1, f2, f3⟩ := T8.r.all
       have T9 := T8.wa z
       obtain ⟨⟨r0, r1, r2, r3⟩, _⟩ := T9.r.all
       obtain ⟨⟨x0, x1, x2, x3⟩, y0, y1, y2, y3⟩ := T9.t.all
       dsimp only [RS.zero] at p0 p1 p2 p3 r0 r1 r2 r3 x0 x1 x2 x3
       replace T9 := keep T9
       replace hd8 := keep hd8
       clear hb8 T8 T7 K7
       unfold clo)
    | (go_at_call 19; refine (K8.out _ _ _ hd8.out).mono ?_; rintro e w9 ⟨rfl, rfl⟩))
  all_goals (try go_wp2_with fail)
  all_goals exact T9.out.ret rfl rfl rfl
end Go.Proofs.Ytkpbaoiaebdngaa
