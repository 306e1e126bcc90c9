/- Why a chunk is not taken. -/
import Derived.Test.YthpcblbciidmeaaJH
namespace Go.Proofs.Ythpcblbciidmeaa
open Go.RowKit Go.Maps
set_option linter.unusedVariables false

theorem refusal_nil (x : CX) (w : World) : Calls Try.prog 19 #[.pointer none, .agg x.cells.toArray] w fun e w' => e = .returned (.int .i64 1) ∧ Below w.heap.size w w' := by
  have L0 := keep (below_lay w (.cells x.cells.toArray 34))
  obtain ⟨xk, xf, xa, xb, xo, xs, xp, ⟨x1, x2, x3⟩, ⟨x4, x5, x6⟩, ⟨x7, x8, x9⟩, ⟨x10, x11, x12⟩, ⟨x13, x14, x15⟩, xps, xbs⟩ := x
  dsimp only [CX.cells] at *
  go_enter Try.func19, Try.ntmps19
  go_wp2
  go_ret
  exact ⟨rfl, L0.out⟩
set_option maxRecDepth 1000000 in
set_option maxHeartbeats 4000000 in
theorem refusal_any {w : World} {G : Gh} {j : Jn} (h : JA w G j (j.oct : Int)) (hg : Good j) {x : CX} (hx : CV w x) :
    Calls Try.prog 19 #[.pointer (some ⟨G.b, 0, none⟩), .agg x.cells.toArray] w fun e w' => e = .returned (.int .i64 (addE j x.ch)) ∧ Below w.heap.size w w' := by
  obtain ⟨r, hr⟩ : ∃ r, addE j x.ch = r := ⟨_, rfl⟩
  rw [hr]
  have hlen := keep hx.bs.len
  have hn : j.n = (G.n : Nat) := h.n
  have hn64 : G.n ≤ 64 := by have := hg.wf.n1; omega
  have e1 : x.kd ≠ 0 ∨ x.bs.length = 0 → r = 1 := fun hc => by rw [← hr]; unfold addE; exact if_pos hc
  have e2 : ¬ (x.kd ≠ 0 ∨ x.bs.length = 0) → ¬ x.ou < G.n → r = 12 := fun h1 h2 => by
    rw [← hr]
    unfold addE
    rw [if_neg (show ¬ (x.ch.kd ≠ 0 ∨ x.ch.da.length = 0) from h1), if_pos (by rw [hn]; intro hc; exact h2 hc.2)]
  have e3 : ¬ (x.kd ≠ 0 ∨ x.bs.length = 0) → x.ou < G.n → (∃ y ∈ j.ch, y.a = x.a) → r = 8 := fun h1 h2 ⟨y, hy, ey⟩ => by
    rw [← hr]
    unfold addE
    rw [if_neg (show ¬ (x.ch.kd ≠ 0 ∨ x.ch.da.length = 0) from h1), if_neg (by rw [hn]; intro hc; exact hc ⟨hx.ou.1, h2⟩), if_pos (List.any_eq_true.2 ⟨y, hy, decide_eq_true ey⟩)]
  have e4 : ¬ (x.kd ≠ 0 ∨ x.bs.length = 0) → x.ou < G.n → (∀ y ∈ j.ch, y.a ≠ x.a) → r = if 65536 < j.oct + x.bs.length then 9 else 0 := fun h1 h2 h3 => by
    rw [← hr]
    unfold addE
    rw [if_neg (show ¬ (x.ch.kd ≠ 0 ∨ x.ch.da.length = 0) from h1), if_neg (by rw [hn]; intro hc; exact hc ⟨hx.ou.1, h2⟩), if_neg (fun hc => by
      obtain ⟨y, hy, ey⟩ := List.any_eq_true.1 hc
      exact h3 y hy (of_decide_eq_true ey))]
    rfl
  have hle := hg.le
  have L0 := keep (below_lay w (.cells x.cells.toArray 34))
  have J0 := h.step (below_lay w (.cells x.cells.toArray 34))
  have HB0 := (show KB (w.alloc (.cells x.cells.toArray 34)) w.heap.size x from heap_alloc_new w _)
  have HR := fun W h1 h2 (h3 : W.heap[w.heap.size]? = (w.alloc (.cells x.cells.toArray 34)).heap[w.heap.size]?) => And.intro (rel_map J0 W h1 h2).1 (And.intro ((show KB W w.heap.size x from by unfold KB; rw [h3]; exact HB0).at_.2.2.1) ((rel_map J0 W h1 h2).2 x.a hx.a.1 hx.a.2))
  have c3 := J0.c3
  have hbl := h.olt _ h.ob
  have hou := hx.ou
  have hhas : (∃ p, G.pb x.a = some p ∧ ∃ y ∈ j.ch, y.a = x.a) ∨ (G.pb x.a = none ∧ ∀ y ∈ j.ch, y.a ≠ x.a) := by
    cases hp : G.pb x.a with
    | some p => exact .inl ⟨p, rfl, (G.pc x.a).ch, (h.pa.op _ _ hp).2.2.1, (h.pa.op _ _ hp).2.2.2⟩
    | none => exact .inr ⟨rfl, fun y hy e => by
        obtain ⟨p, hp', _⟩ := h.pa.has y hy
        rw [e, hp] at hp'
        cases hp'⟩
  have HK : Hid ((∀ s : Nat, s < G.n → x.ou = s → Calls Try.prog 24 #[.pointer (some ⟨G.b, 0, none⟩), .int .u16 x.ou] (w.alloc (.cells x.cells.toArray 34)) fun e w' => e = .returned (.pointer (some ⟨G.sb, s * 2, none⟩)) ∧ (w.alloc (.cells x.cells.toArray 34)) = w') ∧
      (¬ x.ou < G.n → Calls Try.prog 24 #[.pointer (some ⟨G.b, 0, none⟩), .int .u16 x.ou] (w.alloc (.cells x.cells.toArray 34)) fun e w' => e = .returned (.pointer none) ∧ (w.alloc (.cells x.cells.toArray 34)) = w')) :=
    keep ⟨fun s hs e => by rw [e]; exact find_ok J0 hn64 hs, fun hs => find_no J0 hn64 hou.1 hou.2 hs⟩
  have E1 := keep e1
  have E2 := keep e2
  have E3 := keep e3
  have E4 := keep e4
  clear h hg hx hr hn e1 e2 e3 e4 hn64 J0 HB0
  obtain ⟨xk, xf, xa, xb, xo, xs, xp, ⟨x1, x2, x3⟩, ⟨x4, x5, x6⟩, ⟨x7, x8, x9⟩, ⟨x10, x11, x12⟩, ⟨x13, x14, x15⟩, xps, xbs⟩ := x
  dsimp only [CX.cells] at *
  by_cases hk : xk = 0
  · by_cases hl : x14 = 0
    · have hk' : (xk != 0) = false := by simpa using hk
      have hl' : ((x14 : Int) == 0) = true := by simpa using hl
      have HKL := keep hl
      clear c3 HR hhas hbl hou hle hk hl
      go_enter Try.func19, Try.ntmps19
      go_wp2
      go_ret
      exact ⟨by rw [E1.out (.inr (by rw [← hlen.out]; exact HKL.out))] <;> rfl, L0.out⟩
    · have hk' : (xk != 0) = false := by simpa using hk
      have hl' : ((x14 : Int) == 0) = false := by simpa using hl
      have EN := keep (show ¬ (xk ≠ 0 ∨ xbs.length = 0) from by have := hlen.out; omega)
      by_cases ho : xo < G.n
      · have hs : Hid (xo.toNat < G.n ∧ xo = (xo.toNat : Nat)) := keep (by omega)
        have KF := keep (HK.out.1 _ hs.out.1 hs.out.2)
        rcases hhas with ⟨p, hp, hy⟩ | ⟨hp, hy⟩
        · rw [pgV_some hp] at HR
          dsimp only [Option.getD, CX.cells] at HR
          replace HR := keep HR
          have EE := keep (E3.out EN.out ho hy)
          clear hp hy HK c3 hle hou ho hk hl
          go_enter Try.func19, Try.ntmps19
          go_wp2_with (go_at_call 24; refine KF.out.mono ?_; rintro e w' ⟨rfl, rfl⟩)
          go_region_held3 (fun w' => w'.cell? ⟨G.b, 0, none⟩ = some (.map (some G.k)) ∧ w'.cell? ⟨w.heap.size, 2, none⟩ = some (.int .u32 xa) ∧ (Instr.lookup 60 (.map (some G.k)) (.int .u32 xa) false).run Try.prog w' = .ok (.pointer (some ⟨p, 0, none⟩)) w')
            (first | exact HR.out _ rfl rfl rfl) (first | fail)
          all_goals go_wp2
          all_goals (go_ret; exact ⟨by rw [EE.out] <;> rfl, L0.out.drew⟩)
        · rw [pgV_none hp] at HR
          dsimp only [Option.getD, CX.cells] at HR
          replace HR := keep HR
          have EE := keep (E4.out EN.out ho hy)
          have hw := wrap_small (x := 65536 - (j.oct : Int)) (by omega) (by omega)
          clear hp hy HK hou ho hk hl
          by_cases hf : 65536 < j.oct + xbs.length
          · have hf' : 65536 - (j.oct : Int) < (x14 : Int) := by have := hlen.out; omega
            have HF := keep hf
            have HLE := keep hle
            clear hf hle
            generalize (j.oct : Int) = oc at *
            go_enter Try.func19, Try.ntmps19
            go_wp2_with (go_at_call 24; refine KF.out.mono ?_; rintro e w' ⟨rfl, rfl⟩)
            go_region_held3 (fun w' => w'.cell? ⟨G.b, 0, none⟩ = some (.map (some G.k)) ∧ w'.cell? ⟨w.heap.size, 2, none⟩ = some (.int .u32 xa) ∧ (Instr.lookup 60 (.map (some G.k)) (.int .u32 xa) false).run Try.prog w' = .ok (.pointer none) w')
              (first | exact HR.out _ rfl rfl rfl) (first | fail)
            all_goals go_wp2
            all_goals go_quiet (fail)
            all_goals go_wp2
            all_goals (go_ret; exact ⟨by rw [EE.out, if_pos HF.out] <;> rfl, below_drewN L0.out.drew _⟩)
          · have hf' : ¬ 65536 - (j.oct : Int) < (x14 : Int) := by have := hlen.out; omega
            have HF := keep hf
            have HLE := keep hle
            clear hf hle
            generalize (j.oct : Int) = oc at *
            go_enter Try.func19, Try.ntmps19
            go_wp2_with (go_at_call 24; refine KF.out.mono ?_; rintro e w' ⟨rfl, rfl⟩)
            go_region_held3 (fun w' => w'.cell? ⟨G.b, 0, none⟩ = some (.map (some G.k)) ∧ w'.cell? ⟨w.heap.size, 2, none⟩ = some (.int .u32 xa) ∧ (Instr.lookup 60 (.map (some G.k)) (.int .u32 xa) false).run Try.prog w' = .ok (.pointer none) w')
              (first | exact HR.out _ rfl rfl rfl) (first | fail)
            all_goals go_wp2
            all_goals go_quiet (fail)
            all_goals go_wp2
            all_goals (go_ret; exact ⟨by rw [EE.out, if_neg HF.out] <;> rfl, below_drewN L0.out.drew _⟩)
      · have KF := keep (HK.out.2 ho)
        have EE := keep (E2.out EN.out ho)
        clear HK c3 HR hhas hbl hle hou ho hk hl
        go_enter Try.func19, Try.ntmps19
        go_wp2_with (go_at_call 24; refine KF.out.mono ?_; rintro e w' ⟨rfl, rfl⟩)
        go_ret
        exact ⟨by rw [EE.out] <;> rfl, L0.out⟩
  · have hk' : (xk != 0) = true := by simpa using hk
    clear c3 HR hhas hbl hou hle
    go_enter Try.func19, Try.ntmps19
    go_wp2
    go_ret
    exact ⟨by rw [E1.out (.inl hk)] <;> rfl, L0.out⟩
end Go.Proofs.Ythpcblbciidmeaa
