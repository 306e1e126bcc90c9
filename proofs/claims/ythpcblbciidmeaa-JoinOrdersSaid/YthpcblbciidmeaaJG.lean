/- The ends of a run are noted. -/
import Derived.Test.YthpcblbciidmeaaJF
namespace Go.Proofs.Ythpcblbciidmeaa
open Go.RowKit Go.Maps
set_option linter.unusedVariables false

theorem JA.noted {w : World} {G : Gh} {j : Jn} {o : Int} (h : JA w G j o) {first last : Int} (f0 : 0 ≤ first ∧ first < 4294967296) (l0 : 0 ≤ last ∧ last < 4294967296) {p q : Nat} (hp : G.pb first = some p) (hq : G.pb last = some q) :
    JA ((w.setCell ⟨p, 12, none⟩ (.int .u32 last)).setCell ⟨q, 12, none⟩ (.int .u32 first)) { G with far := setF G.far first last } j o ∧ Part G.O w ((w.setCell ⟨p, 12, none⟩ (.int .u32 last)).setCell ⟨q, 12, none⟩ (.int .u32 first)) := by
  have h1 := h.setFar hp l0
  have h2 := h1.1.setFar (n := last) (p := q) hq f0
  have hO := (h.pa.op first p hp).1
  have hO' := (h.pa.op last q hq).1
  refine ⟨?_, (h1.2.mono (S' := G.O) fun i hi => by rw [hi]; exact hO).trans h2.2 fun i hi => .inl (by rw [hi]; exact hO')⟩
  exact h2.1
set_option maxRecDepth 1000000 in
set_option maxHeartbeats 4000000 in
theorem bind_any {w : World} {G : Gh} {j : Jn} {o : Int} (h : JA w G j o) {first last : Int} (f0 : 0 ≤ first ∧ first < 4294967296) (l0 : 0 ≤ last ∧ last < 4294967296) {p q : Nat} (hp : G.pb first = some p) (hq : G.pb last = some q) :
    Calls Try.prog 28 #[.pointer (some ⟨G.b, 0, none⟩), .int .u32 first, .int .u32 last] w fun e w' => e = .returned (.tuple #[]) ∧ JA w' { G with far := setF G.far first last } j o ∧ Part G.O w w' := by
  have HR := rel_map h
  have c0 := (HR w rfl rfl).1
  have L1 := fun W h1 h2 => (HR W h1 h2).2 first f0.1 f0.2
  have L2 := fun W h1 h2 => (HR W h1 h2).2 last l0.1 l0.2
  rw [pgV_some hp] at L1
  rw [pgV_some hq] at L2
  dsimp only [Option.getD] at L1 L2
  have HS := keep fun W h1 h2 => And.intro (HR W h1 h2).1 (And.intro (L1 W h1 h2) (L2 W h1 h2))
  obtain ⟨hO, hP, _⟩ := h.pa.op first p hp
  obtain ⟨hO', hQ, _⟩ := h.pa.op last q hq
  obtain ⟨_, p12, pf⟩ := hP.at_
  obtain ⟨_, q12, qf⟩ := hQ.at_
  have hbp : G.b ≠ p := h.only_b.p _ _ hp |>.symm
  have hbq : G.b ≠ q := h.only_b.p _ _ hq |>.symm
  have hkp : G.k ≠ p := map_cells h.pa.map.block hP.blk
  have hkq : G.k ≠ q := map_cells h.pa.map.block hQ.blk
  have HS1 := keep fun W h1 h2 => And.intro (HR W h1 h2).1 (L1 W h1 h2)
  have HF0 := (h.step (Below.refl _ w).drew).noted f0 l0 hp hq
  have HF := keep (And.intro HF0.1 ((Part.refl G.O w).drew.trans HF0.2 fun i hi => .inl hi))
  clear HF0
  have hpq : p = q → first = last := fun e => h.pa.inj first last p hp (by rw [e]; exact hq)
  clear h HR L1 L2 hp hq f0 l0 hO hP hO' hQ
  generalize G.far first = ff at p12
  generalize G.far last = fl at q12
  obtain ⟨b, k, sb, N, v, pb, pc, far, wm, gs, rs, O, F⟩ := G
  dsimp only at *
  by_cases e : p = q
  · have e2 := hpq e
    subst e e2
    clear hpq q12 qf hbq hkq
    go_enter Try.func28, Try.ntmps28
    go_wp2
    go_region_held3 (fun w' => w'.cell? ⟨b, 0, none⟩ = some (.map (some k)) ∧ (Instr.lookup 60 (.map (some k)) (.int .u32 first) false).run Try.prog w' = .ok (.pointer (some ⟨p, 0, none⟩)) w')
      (first | exact HS1.out _ rfl rfl | exact HS1.out _ (same_set rfl hbp) (same_set rfl hkp) | exact HS1.out _ (same_set (same_set rfl hbp) hbp) (same_set (same_set rfl hkp) hkp))
      (first | fail)
    all_goals go_wp2
    all_goals exact bodyPost_end (results_none rfl _ _ _) rfl ⟨rfl, HF.out⟩
  · have e' : q ≠ p := fun c => e c.symm
    clear hpq
    go_enter Try.func28, Try.ntmps28
    go_wp2
    go_region_held3 (fun w' => w'.cell? ⟨b, 0, none⟩ = some (.map (some k)) ∧ (Instr.lookup 60 (.map (some k)) (.int .u32 first) false).run Try.prog w' = .ok (.pointer (some ⟨p, 0, none⟩)) w' ∧ (Instr.lookup 60 (.map (some k)) (.int .u32 last) false).run Try.prog w' = .ok (.pointer (some ⟨q, 0, none⟩)) w')
      (first | exact HS.out _ rfl rfl | exact HS.out _ (same_set rfl hbp) (same_set rfl hkp) | exact HS.out _ (same_set (same_set rfl hbp) hbq) (same_set (same_set rfl hkp) hkq))
      (first | fail)
    all_goals go_wp2
    all_goals exact bodyPost_end (results_none rfl _ _ _) rfl ⟨rfl, HF.out⟩
end Go.Proofs.Ythpcblbciidmeaa
