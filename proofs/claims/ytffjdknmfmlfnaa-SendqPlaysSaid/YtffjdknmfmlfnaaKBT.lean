/- KBT of the stage: texts R17, joined. -/
import Derived.Test.YtffjdknmfmlfnaaKBR
import Derived.Test.YtffjdknmfmlfnaaKBS
import Derived.Test.YtffjdknmfmlfnaaKBE
import Derived.Test.YtffjdknmfmlfnaaKBD
set_option linter.unusedSimpArgs false
set_option linter.unusedVariables false
namespace Go.Proofs.Ytffjdknmfmlfnaa
section
open Go.RowKit Go.Maps

theorem StP.bl {w W : World} {b c : Nat} {ct : Int} (h : StP w b c ct W) : Below w.heap.size w W := by
  obtain ⟨_, _, _, _, _, h1, _⟩ := h.ex
  exact h1.qs.bl
theorem StP.step {w W W' : World} {b c : Nat} {ct : Int} (h : StP w b c ct W) (hb : Below W.heap.size W W') : StP w b c ct W' := by
  obtain ⟨G, q, s, p, l, h1, h2⟩ := h.ex
  exact ⟨⟨G, q, s, p, l, h1.step hb, h2⟩⟩
theorem stp_step {w W : World} {b c : Nat} {ct : Int} (h : StP w b c ct W) (hct : ct ≤ 1000000) (x : FX) (hx : FV w x) (hfx : FewX x) (first : Int) (hf : 0 ≤ first ∧ first < 4294967296) :
    Calls Try.prog 8 #[.pointer (some ⟨b, 0, none⟩), .pointer (some ⟨c, 0, none⟩), .agg x.cells.toArray, .int .u32 first] W fun e w' => e = .returned (.bool true) ∧ Hid (StP w b c (ct + 1) w') := by
  obtain ⟨G, q, s, p, l, h1, h2, h3, h4⟩ := h.ex
  refine (step_any h1 h2 x hx hfx ⟨h3, by omega⟩ first hf).mono ?_
  rintro e w' ⟨rfl, h5⟩
  obtain ⟨G', q', s', p', l', a1, a2, a3, a4⟩ := h5.out.ex
  exact ⟨rfl, keep ⟨⟨G', q', s', p', l', a1, a2, a3, by omega⟩⟩⟩
theorem stp_alike {w W : World} {b c : Nat} {ct : Int} (h : StP w b c ct W) (n : Int) (hn : 0 ≤ n ∧ n < 4294967296) :
    Calls Try.prog 9 #[.pointer (some ⟨b, 0, none⟩), .pointer (some ⟨c, 0, none⟩), .int .u32 n] W fun e w' => e = .returned (.bool true) ∧ Hid (StP w b c ct w') := by
  have H := keep h
  obtain ⟨G, q, s, p, l, h1, h2, h3, h4⟩ := h.ex
  refine (alike_any h1 h2 n hn).mono ?_
  rintro e w' ⟨rfl, h5⟩
  exact ⟨rfl, keep (H.out.step h5.out)⟩
theorem stp_new {w W W' : World} {b c : Nat} {first : Int} (hb : b < c) (hq : QS w b (newG b) (newQ first) W) (hr : RA w c (none, 0, 0) ⟨[], first, 0⟩ W') (hW : Below W.heap.size W W') : StP w b c 0 W' := by
  have h1 : ∀ i, Rb c (none, 0, 0) i → ¬ (newG b).O i ∧ ¬ (newG b).F i := fun i hi => by
    rcases hi with rfl | hi
    · exact ⟨fun hc => absurd (show i = b from hc) (by omega), fun hc => hc.elim⟩
    · cases hi
  exact ⟨⟨_, _, _, _, _, ⟨hq.step hW, hr, h1, fun B X he => he.elim⟩, sim_new first, Int.le_refl _, Int.le_refl _⟩⟩
set_option maxRecDepth 1000000 in
set_option maxHeartbeats 8000000 in
theorem sendqPlays_walk (first : Int) (A : Option Addr) (m c : Nat) (l : List FX) (w : World) (hf : (Lit.int .u32 first).wf = true) (hz : FS w A m c l) :
    Calls Try.prog 3 #[.int .u32 first, .slice A m c] w fun e w' => e = .returned (.bool true) ∧ Below w.heap.size w w' := by
  have KA := keep (awake_any w)
  have HZ := keep hz
  have hml := hz.1.1
  dsimp only at hml
  have HML := keep hml
  have HF2 := keep (show 0 ≤ first ∧ first < 4294967296 from wf32 hf)
  clear hz hf hml
  have KN := keep (fun W (hb : Below w.heap.size w W) => New_qs (w := w) first HF2.out hb)
  have KM := keep (fun W (hb : Below w.heap.size w W) => refNew15_any (w := w) first HF2.out hb)
  go_enter Try.func3, Try.ntmps3
  go_wp2_with (first
    | (go_at_call 4; refine KA.out.mono ?_; rintro e w1 ⟨rfl, hb1⟩; replace hb1 := keep hb1
       have KW := keep (few_any (HZ.out.step hb1.out))))
  refine KW.out.mono ?_
  rintro e w2 ⟨⟨r, rfl, hr⟩, k, rfl⟩
  dsimp only
  have HB2 := keep (below_drewN hb1.out k)
  cases r with
  | false =>
    go_wp2
    go_ret
    exact ⟨rfl, HB2.out⟩
  | true =>
    have hm40 : m ≤ 40 := (hr.out rfl).1
    have HFX := keep (hr.out rfl).2
    clear hr KW
    generalize w1.drewN k = w2 at HB2 ⊢
    go_wp2_with (first
      | (go_at_call 6; refine (KN.out _ HB2.out).mono ?_; rintro e w3 ⟨rfl, hq3⟩)
      | (go_at_call 7; refine (KM.out _ hq3.out.bl).mono ?_; rintro e w4 ⟨rfl, hr4⟩))
    obtain ⟨b, hb⟩ : ∃ b, w2.heap.size = b := ⟨_, rfl⟩
    obtain ⟨c', hc'⟩ : ∃ c', w3.heap.size = c' := ⟨_, rfl⟩
    have hbc : b < c' := by rw [← hb, ← hc']; exact hq3.out.qa.olt _ (show w2.heap.size = w2.heap.size from rfl)
    rw [hb] at hq3 ⊢
    rw [hc'] at hr4 ⊢
    have H0 := keep (stp_new hbc hq3.out hr4.out.1 (by rw [hc']; exact hr4.out.2))
    clear hb hc' hq3 hr4 hbc
    go_loopw [8] (fun i wr => ∃ j : Nat, j ≤ m ∧ i = .int .i64 j ∧ Hid (StP w b c' j wr)) (fun i _ => m - (intOf i).toNat)
    case atStart => exact ⟨0, Nat.zero_le _, rfl, H0⟩
    case round =>
      clear H0
      obtain ⟨j, hj, rfl, HR⟩ := hrel
      by_cases hlt : j < m
      · obtain ⟨g, o, x, rfl, hgl, hlj, hxv, _, _, _, _, _, _⟩ := HZ.out.at_ hlt
        have HD := keep (show ∀ W, Below w.heap.size w W → W.cell? ⟨g, o + j * 6, none⟩ = some (.int .i64 x.wh) ∧ W.cell? ⟨g, o + j * 6 + 1, none⟩ = some (.int .i64 x.n) ∧ W.cell? ⟨g, o + j * 6 + 2, none⟩ = some (.int .i64 x.m) ∧ W.cell? ⟨g, o + j * 6 + 3, none⟩ = some (.slice x.l.1 x.l.2.1 x.l.2.2) ∧ W.cell? ⟨g, o + j * 6 + 4, none⟩ = some (.int .u32 x.cum) ∧ W.cell? ⟨g, o + j * 6 + 5, none⟩ = some (.slice x.b.1 x.b.2.1 x.b.2.2) from fun W hb => by
          obtain ⟨g', o', x', e1, _, e2, _, h0, h1, h2, h3, h4, h5⟩ := (HZ.out.step hb).at_ hlt
          rw [hlj] at e2
          injection e2 with e2
          injection e1 with e1
          injection e1 with e1 e3
          subst e1 e2 e3
          exact ⟨h0, h1, h2, h3, h4, h5⟩)
        have KS := keep (stp_step HR.out (by have := hm40; omega) x hxv (HFX.out x (List.mem_of_getElem? hlj)) first HF2.out)
        have hcu := hxv.cum
        obtain ⟨cu, hcu0⟩ : ∃ cu, (first + x.cum) % 4294967296 = cu := ⟨_, rfl⟩
        have hcw : IntKind.u32.wrap (first + x.cum) = cu := by rw [wrap_u32]; exact hcu0
        have HCU := keep (show 0 ≤ cu ∧ cu < 4294967296 by omega)
        obtain ⟨xw, xn, xm, ⟨l1, l2, l3⟩, xc, ⟨b1, b2, b3⟩, xls, xbls⟩ := x
        dsimp only [FX.cells] at HD KS hcu0 hcw
        have hjI : (j : Int) < (m : Int) := by omega
        have hj0 : (0 : Int) ≤ (j : Int) := by omega
        have hmI : (m : Int) ≤ 40 := by omega
        clear hlj hxv hcu
        obtain ⟨d0, d1, d2, d3, d4, d5⟩ := HD.out _ HR.out.bl
        go_wp2_with (first
          | (go_at_call 8; refine KS.out.mono ?_; rintro e y1 ⟨rfl, S1⟩; have d4' := (HD.out _ S1.out.bl).2.2.2.2.1; have KL := keep (stp_alike S1.out cu HCU.out))
          | (go_at_call 9; refine KL.out.mono ?_; rintro e y2 ⟨rfl, S2⟩))
        go_roundw
        case rel => exact ⟨j + 1, by omega, by go_num, S2⟩
        case measure => simp [intOf]; omega
      · obtain rfl : j = m := by omega
        have HB := keep HR.out.bl
        clear HR
        go_wp2
        go_ret
        exact ⟨rfl, HB.out⟩
end
end Go.Proofs.Ytffjdknmfmlfnaa
