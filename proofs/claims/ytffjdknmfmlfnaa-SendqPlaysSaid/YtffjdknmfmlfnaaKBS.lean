/- KBS of the stage: texts R15, joined. -/
import Derived.Test.YtffjdknmfmlfnaaKBQ
import Derived.Deep.RegionHeld3
set_option linter.unusedSimpArgs false
set_option linter.unusedVariables false
namespace Go.Proofs.Ytffjdknmfmlfnaa
section
open Go.RowKit Go.Maps

section
variable {x : Nat → Obj → Prop} {w W W' : World} {b c : Nat} {G G' : Gq} {q q' : Qm} {s s' : SL} {p p' : Rm}
theorem Sim.fwd {l : PL} (h : Sim l q p) (hz : ∀ r ∈ p.rs, ZV w r.c ∧ Sm r.c) : fwE (Go.Proofs.Ytffjdknmfmlfnaa.flr q) (q.es.take (dnN q.es)) (dnN q.es) = rFwd p := h.forward fun x hx => by
  have h1 := (hz x.2 (by rw [h.rs]; exact List.mem_map.2 ⟨x, hx, rfl⟩)).1.fl
  exact h1
theorem fwdL (h : Tw x w b G q c s p W) {l : PL} (hs : Sim l q p) : Calls Try.prog 25 #[.pointer (some ⟨b, 0, none⟩)] W fun e w' => ∃ z : SL, e = .returned (.tuple #[.int .u32 (rFwd p).1, .slice z.1 z.2.1 z.2.2, .bool (rFwd p).2.1]) ∧ Hid (Below W.heap.size W w' ∧ LR blC w' z (rFwd p).2.2) := by
  have hb := h.qs.gb
  subst hb
  have hf := hs.fwd h.ra.zv
  refine (Forward_any h.qs.qa).mono ?_
  rintro e w' ⟨z, rfl, h1, h2⟩
  rw [hf] at h2 ⊢
  exact ⟨z, rfl, keep ⟨h1, LR.of_own blC_len (by decide) h2⟩⟩
theorem rFwd_len (p : Rm) (h : p.rs.length ≤ 1024) : (rFwd p).2.2.length ≤ 1024 := by
  unfold rFwd
  split
  · exact Nat.zero_le _
  · have h1 := rSkp_len p.rs ((rLst p.rs (rDn p.rs)).toNat + 1)
    have h2 := (rLst_lo p.rs (rDn p.rs)).2
    have h3 : rDn p.rs ≤ p.rs.length := (List.takeWhile_sublist _).length_le
    dsimp only
    omega
theorem fwdR (h : Tw x w b G q c s p W) : Calls Try.prog 26 #[.pointer (some ⟨c, 0, none⟩)] W fun e w' => ∃ z : SL, e = .returned (.tuple #[.int .u32 (rFwd p).1, .slice z.1 z.2.1 z.2.2, .bool (rFwd p).2.1]) ∧ Hid (Below W.heap.size W w' ∧ LR blC w' z (rFwd p).2.2 ∧ z.2.1 ≤ 1024) := by
  refine (refForward15_any h.ra).mono ?_
  rintro e w' ⟨A, n, k, rfl, h1⟩
  exact ⟨(A, n, k), rfl, keep ⟨h1.out.bl, LR.of_own blC_len (by decide) h1.out.row, by rw [h1.out.len]; exact rFwd_len p h.ra.le⟩⟩
theorem stOut_is (x : Option En) : ∃ st ok, stOut x = .tuple #[.int .i64 st, .bool ok] := by
  cases x with
  | none => exact ⟨_, _, rfl⟩
  | some e => exact ⟨_, _, rfl⟩
theorem dN (W : World) (k : Nat) : Below W.heap.size W (W.drewN k) := below_drewN (Below.refl _ _) k
theorem floL (h : Tw x w b G q c s p W) {f : Int} (hf : flr q = f) : Calls Try.prog 14 #[.pointer (some ⟨b, 0, none⟩)] W fun e w' => e = .returned (.int .u32 f) ∧ Below W.heap.size W w' := (Floor_qs h.qs hf).mono fun e w' hh => ⟨hh.1, hh.2.out⟩
theorem floR (h : Tw x w b G q c s p W) {f : Int} (hf : rFlr p = f) : Calls Try.prog 30 #[.pointer (some ⟨c, 0, none⟩)] W fun e w' => e = .returned (.int .u32 f) ∧ Below W.heap.size W w' := by
  subst hf
  refine (refFloor15_any h.ra).mono ?_
  rintro e w' ⟨rfl, k, rfl⟩
  exact ⟨rfl, dN _ _⟩
theorem nextL (h : Tw x w b G q c s p W) {f : Int} (hf : q.nx = f) : Calls Try.prog 31 #[.pointer (some ⟨b, 0, none⟩)] W fun e w' => e = .returned (.int .u32 f) ∧ Below W.heap.size W w' := by
  have hb := h.qs.gb
  subst hb hf
  refine (Next_any h.qs.qa).mono ?_
  rintro e w' ⟨rfl, rfl⟩
  exact ⟨rfl, Below.refl _ _⟩
theorem lenL (h : Tw x w b G q c s p W) {n : Nat} (hn : q.es.length = n) : Calls Try.prog 15 #[.pointer (some ⟨b, 0, none⟩)] W fun e w' => e = .returned (.int .i64 (n : Int)) ∧ Below W.heap.size W w' := by
  refine (Len_qs h.qs hn).mono ?_
  rintro e w' ⟨rfl, rfl⟩
  exact ⟨rfl, Below.refl _ _⟩
theorem flyL (h : Tw x w b G q c s p W) {f : Nat} (hf : octs q.es [1] = f) : Calls Try.prog 32 #[.pointer (some ⟨b, 0, none⟩)] W fun e w' => e = .returned (.int .i64 (f : Int)) ∧ Below W.heap.size W w' := by
  have hb := h.qs.gb
  subst hb hf
  exact (Flying_any h.qs.qa).mono fun e w' hh => ⟨hh.1, hh.2⟩
theorem lefL (h : Tw x w b G q c s p W) {f : Nat} (hf : octs q.es [2, 0] = f) : Calls Try.prog 34 #[.pointer (some ⟨b, 0, none⟩)] W fun e w' => e = .returned (.int .i64 (f : Int)) ∧ Below W.heap.size W w' := by
  have hb := h.qs.gb
  subst hb hf
  exact (Left_any h.qs.qa).mono fun e w' hh => ⟨hh.1, hh.2⟩
theorem octR (h : Tw x w b G q c s p W) (a d : Int) {f : Nat} (hf : rOct p.rs a d p.rs.length = f) : Calls Try.prog 33 #[.pointer (some ⟨c, 0, none⟩), .int .i64 a, .int .i64 d] W fun e w' => e = .returned (.int .i64 (f : Int)) ∧ Below W.heap.size W w' := by
  subst hf
  refine (refOctets15_any h.ra a d).mono ?_
  rintro e w' ⟨rfl, rfl⟩
  exact ⟨rfl, Below.refl _ _⟩
theorem skL_ {z y : SL} {l : List (Int × Int)} (h1 : LR blC W z l) (h2 : LR blC W y l) (h3 : y.2.1 ≤ 1024) : Calls Try.prog 29 #[.slice z.1 z.2.1 z.2.2, .slice y.1 y.2.1 y.2.2] W fun e w' => e = .returned (.bool true) ∧ Below W.heap.size W w' := by
  have hn : y.2.1 = z.2.1 := h2.1.trans h1.1.symm
  obtain ⟨z1, z2, z3⟩ := z
  obtain ⟨y1, y2, y3⟩ := y
  dsimp only at hn h3
  subst hn
  refine (sameSkips_z z1 y1 _ z3 y3 l W h1 h2 (by omega)).mono ?_
  rintro e w' ⟨rfl, k, rfl⟩
  exact ⟨rfl, dN _ _⟩
set_option maxRecDepth 1000000 in
set_option maxHeartbeats 8000000 in
theorem alike_any (h : Tw x w b G q c s p W) {l : PL} (hs : Sim l q p) (n : Int) (hn : 0 ≤ n ∧ n < 4294967296) :
    Calls Try.prog 9 #[.pointer (some ⟨b, 0, none⟩), .pointer (some ⟨c, 0, none⟩), .int .u32 n] W fun e w' => e = .returned (.bool true) ∧ Hid (Below W.heap.size W w') := by
  have H := keep h
  have K1 := keep (fun V (hb : Below W.heap.size W V) => fwdL (h.step hb) hs)
  have K2 := keep (fun V (hb : Below W.heap.size W V) => fwdR (h.step hb))
  have hst := hs.state h.qs.nu h.qs.qa.le n hn
  obtain ⟨st, ok, hok⟩ := stOut_is (stI q n)
  have K3 := keep (fun V (hb : Below W.heap.size W V) => State_qs (h.step hb).qs n)
  have K4 := keep (fun V (hb : Below W.heap.size W V) => refState15_any (h.step hb).ra n)
  rw [← hst] at K4
  rw [hok] at K3 K4
  obtain ⟨f, hf⟩ : ∃ f, flr q = f := ⟨_, rfl⟩
  have hfR : rFlr p = f := by rw [← hs.flr]; exact hf
  obtain ⟨nx, hnx⟩ : ∃ nx, q.nx = nx := ⟨_, rfl⟩
  have hnR : p.nx = nx := by rw [← hs.nx]; exact hnx
  obtain ⟨m, hm⟩ : ∃ m, q.es.length = m := ⟨_, rfl⟩
  have hmR : s.2.1 = m := by rw [h.ra.n, hs.rs, List.length_map, ← hm, hs.es, List.length_map]
  obtain ⟨fy, hfy⟩ : ∃ fy, octs q.es [1] = fy := ⟨_, rfl⟩
  have hfyR : rOct p.rs 1 1 p.rs.length = fy := by rw [← hs.oct (sts := [1]) (fun x => by simp)]; exact hfy
  obtain ⟨lf, hlf⟩ : ∃ lf, octs q.es [2, 0] = lf := ⟨_, rfl⟩
  have hlfR : rOct p.rs 0 2 p.rs.length = lf := by rw [← hs.oct (sts := [2, 0]) (fun x => by simp [or_comm])]; exact hlf
  have F := keep hf; have FR := keep hfR; have N := keep hnx; have M := keep hm; have FY := keep hfy; have FYR := keep hfyR; have LF := keep hlf; have LFR := keep hlfR
  have HC := keep (fun V (hb : Below W.heap.size W V) => (show V.cell? ⟨c, 0, none⟩ = some (.slice s.1 m s.2.2) ∧ V.cell? ⟨c, 1, none⟩ = some (.int .u32 nx) from by
    obtain ⟨a0, a1, _⟩ := (h.step hb).ra.b0
    rw [hmR] at a0
    rw [hnR] at a1
    exact ⟨a0, a1⟩))
  have hstq : (st == st) = true := by simp
  have hokq : (ok == ok) = true := by simp
  clear h hst hok hf hfR hnx hnR hm hmR hfy hfyR hlf hlfR
  go_enter Try.func9, Try.ntmps9
  go_wp2_with (first
    | (go_at_call 25; refine (K1.out _ (Below.refl _ _)).mono ?_; rintro e w1 ⟨z, rfl, h1⟩)
    | (go_at_call 26; refine (K2.out _ h1.out.1).mono ?_; rintro e w2 ⟨y, rfl, h2⟩; have B2 := keep (up h1.out.1 h2.out.1)
       have h3 := keep (h1.out.2.kept (ok := fun _ => True) (Kpt.of_below h2.out.1) (InF.all _)))
    | (go_at_call 27; refine (K3.out _ B2.out).mono ?_; rintro e w3 ⟨rfl, k3, rfl⟩)
    | (go_at_call 28; refine (K4.out _ (below_drewN B2.out _)).mono ?_; rintro e w4 ⟨rfl, rfl⟩))
  have S0 := keep (show LR blC ((w2.drewN k3).drewN 1) z (rFwd p).2.2 ∧ LR blC ((w2.drewN k3).drewN 1) y (rFwd p).2.2 ∧ y.2.1 ≤ 1024 from ⟨h3.out.kept (ok := fun _ => True) (Kpt.of_below (below_drewN (dN w2 k3) 1)) (InF.all _), h2.out.2.1.kept (ok := fun _ => True) (Kpt.of_below (below_drewN (dN w2 k3) 1)) (InF.all _), h2.out.2.2⟩)
  have T0 := keep (show Below W.heap.size W ((w2.drewN k3).drewN 1) from below_drewN (below_drewN B2.out _) _)
  have q0 := HC.out _ T0.out
  go_region_held3 (fun w' => w'.cell? ⟨c, 0, none⟩ = some (.slice s.1 m s.2.2) ∧ w'.cell? ⟨c, 1, none⟩ = some (.int .u32 nx))
    (first | exact q0 | exact q1 | exact q2 | exact q3 | exact q4 | exact q5 | exact q6 | exact q7 | exact q8 | exact q9)
    (first
    | (go_at_call 29; refine (skL_ S0.out.1 S0.out.2.1 S0.out.2.2).mono ?_; rintro e x1 ⟨rfl, hb⟩; have T1 := keep (up T0.out hb); have q1 := HC.out _ T1.out; clear hb)
    | (go_at_call 14; refine (floL (H.out.step T1.out) F.out).mono ?_; rintro e x2 ⟨rfl, hb⟩; have T2 := keep (up T1.out hb); have q2 := HC.out _ T2.out; clear hb)
    | (go_at_call 30; refine (floR (H.out.step T2.out) FR.out).mono ?_; rintro e x3 ⟨rfl, hb⟩; have T3 := keep (up T2.out hb); have q3 := HC.out _ T3.out; clear hb)
    | (go_at_call 31; refine (nextL (H.out.step T3.out) N.out).mono ?_; rintro e x4 ⟨rfl, hb⟩; have T4 := keep (up T3.out hb); have q4 := HC.out _ T4.out; clear hb)
    | (go_at_call 15; refine (lenL (H.out.step T4.out) M.out).mono ?_; rintro e x5 ⟨rfl, hb⟩; have T5 := keep (up T4.out hb); have q5 := HC.out _ T5.out; clear hb)
    | (go_at_call 32; refine (flyL (H.out.step T5.out) FY.out).mono ?_; rintro e x6 ⟨rfl, hb⟩; have T6 := keep (up T5.out hb); have q6 := HC.out _ T6.out; clear hb)
    | (go_at_call 34; refine (lefL (H.out.step T7.out) LF.out).mono ?_; rintro e x8 ⟨rfl, hb⟩; have T8 := keep (up T7.out hb); have q8 := HC.out _ T8.out; clear hb)
    | (go_at_call 33; refine (octR (H.out.step T8.out) 0 2 LFR.out).mono ?_; rintro e x9 ⟨rfl, hb⟩; have T9 := keep (up T8.out hb); have q9 := HC.out _ T9.out; clear hb)
    | (go_at_call 33; refine (octR (H.out.step T6.out) 1 1 FYR.out).mono ?_; rintro e x7 ⟨rfl, hb⟩; have T7 := keep (up T6.out hb); have q7 := HC.out _ T7.out; clear hb))
  first
  | (go_ret; exact ⟨rfl, T9⟩)
  | (go_wp2; go_ret; exact ⟨rfl, T9⟩)
  | (go_wp2_with fail; go_ret; exact ⟨rfl, T9⟩)
  | (trace_state; sorry)
end
end
end Go.Proofs.Ytffjdknmfmlfnaa
