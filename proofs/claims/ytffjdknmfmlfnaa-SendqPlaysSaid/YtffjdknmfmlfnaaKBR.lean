/- KBR of the stage: texts R16, joined. -/
import Derived.Test.YtffjdknmfmlfnaaKBQ
import Derived.Deep.RegionHeld3
set_option linter.unusedSimpArgs false
set_option linter.unusedVariables false
namespace Go.Proofs.Ytffjdknmfmlfnaa
section
open Go.RowKit Go.Maps

theorem bounded_at (n : Int) : ∃ z : Int, ∀ w, Calls Try.prog 18 #[.int .i64 n] w fun e w' => e = .returned (.int .i64 z) ∧ w = w' := by
  refine ⟨bits .and .i64 n 1099511627775, fun w => ?_⟩
  go_enter Try.func18, Try.ntmps18
  go_wp2
  go_ret
  exact ⟨rfl, rfl⟩
section
variable {x0 : Nat → Obj → Prop} {w W W' : World} {b c : Nat} {G G' : Gq} {q q' : Qm} {s s' : SL} {p p' : Rm}
/-- What a step leaves. -/
structure StP (w : World) (b c : Nat) (ct : Int) (W : World) : Prop where
  ex : ∃ G q s p l, Tw (fun _ _ => False) w b G q c s p W ∧ Sim l q p ∧ 0 ≤ p.ct ∧ p.ct ≤ ct
theorem Tw.of_box {B : Nat} {v0 v1 v2 v3 v4 v5 : Value} {t : TypeId} (h : Tw x0 w b G q c s p W) (hx : x0 B (.cells #[v0, v1, v2, v3, v4, v5] t (0, 0))) : W.cell? ⟨B, 0, none⟩ = some v0 ∧ W.cell? ⟨B, 1, none⟩ = some v1 ∧ W.cell? ⟨B, 2, none⟩ = some v2 ∧ W.cell? ⟨B, 3, none⟩ = some v3 ∧ W.cell? ⟨B, 4, none⟩ = some v4 ∧ W.cell? ⟨B, 5, none⟩ = some v5 := by
  have h1 := (h.bx _ _ hx).1
  exact ⟨upd_cell h1 0 _ rfl, upd_cell h1 1 _ rfl, upd_cell h1 2 _ rfl, upd_cell h1 3 _ rfl, upd_cell h1 4 _ rfl, upd_cell h1 5 _ rfl⟩
theorem acks {l : PL} (hs : Sim l q p) (cum now : Int) (hcum : 0 ≤ cum ∧ cum < 4294967296) (s0 : SL) (bl : List (Int × Int)) (hl : LR blC w s0 bl) (hn : s0.2.1 ≤ 1000) (hok : BlOK bl) :
    ∃ (by_ sa : Int) (lo mo ok : Bool) (q' : Qm) (p' : Rm) (l' : PL), Sim l' q' p' ∧ p'.ct = p.ct ∧
      (∀ x W G s, Tw x w b G q c s p W → Calls Try.prog 13 #[.pointer (some ⟨b, 0, none⟩), .int .u32 cum, .slice s0.1 s0.2.1 s0.2.2, .int .i64 now] W fun e w' => e = .returned (.tuple #[.agg #[.int .i64 by_, .int .i64 sa, .bool lo, .bool mo], .bool ok]) ∧ ∃ G', Hid (Tw x w b G' q' c s p w')) ∧
      (∀ x W G s, Tw x w b G q' c s p W → Calls Try.prog 20 #[.pointer (some ⟨c, 0, none⟩), .int .u32 cum, .slice s0.1 s0.2.1 s0.2.2, .int .i64 now] W fun e w' => e = .returned (.tuple #[.int .i64 by_, .int .i64 sa, .bool lo, .bool mo, .bool ok]) ∧ ∃ s', Hid (Tw x w b G q' c s' p' w')) := by
  obtain ⟨A, n, k⟩ := s0
  obtain ⟨hr1, hr2⟩ := hs.reach hcum
  by_cases hre : reachedB q cum = true
  · obtain ⟨⟨l', hl'⟩, ha⟩ := hs.ack bl now hre
    refine ⟨((ackR q cum bl now).by_ : Int), (ackR q cum bl now).sa, (ackR q cum bl now).lo, (ackR q cum bl now).mo, true, ackQ q cum bl, { p with rs := rAk p (stp q cum) bl }, l', hl', rfl, fun x W G s h => ?_, fun x W G s h => ?_⟩
    · refine (ackL h cum now hcum (A, n, k) bl hl (by dsimp only at hn ⊢; omega) hok hre).mono ?_
      rintro e w' ⟨rfl, h1⟩
      exact ⟨rfl, _, h1⟩
    · rw [ha.by_, ha.sa, ha.lo, ha.mo]
      exact ackR_ h cum now hcum hl hok hn (hr2 hre) (by rw [← hr1]; exact hre)
  · rw [Bool.not_eq_true] at hre
    refine ⟨0, 0, false, false, false, q, p, l, hs, rfl, fun x W G s h => ?_, fun x W G s h => ?_⟩
    · refine (ackL_no h cum now (A, n, k) hre).mono ?_
      rintro e w' ⟨rfl, h1⟩
      exact ⟨rfl, _, h1⟩
    · refine (ackR_no h cum now hcum (by rw [← hr1]; exact hre)).mono ?_
      rintro e w' ⟨rfl, h1⟩
      exact ⟨rfl, _, h1⟩
theorem Tw.s3 {B : Nat} {v0 v1 v2 v3 v4 v5 : Value} {t : TypeId} (h : Tw x0 w b G q c s p W) (hx : x0 B (.cells #[v0, v1, v2, v3, v4, v5] t (0, 0))) : W.cell? ⟨B, 1, none⟩ = some v1 ∧ W.cell? ⟨B, 4, none⟩ = some v4 ∧ W.cell? ⟨B, 5, none⟩ = some v5 :=
  ⟨(h.of_box hx).2.1, (h.of_box hx).2.2.2.2.1, (h.of_box hx).2.2.2.2.2⟩
theorem set4_s3 {V : World} {N g : Nat} (hlt : g < V.heap.size) (hne : g ≠ N) (a0 a1 a2 a3 : Value) {v1 v4 v5 : Value} (h : V.cell? ⟨g, 1, none⟩ = some v1 ∧ V.cell? ⟨g, 4, none⟩ = some v4 ∧ V.cell? ⟨g, 5, none⟩ = some v5) :
    ((((V.setCell ⟨N, 0, none⟩ a0).setCell ⟨N, 1, none⟩ a1).setCell ⟨N, 2, none⟩ a2).setCell ⟨N, 3, none⟩ a3).cell? ⟨g, 1, none⟩ = some v1 ∧ ((((V.setCell ⟨N, 0, none⟩ a0).setCell ⟨N, 1, none⟩ a1).setCell ⟨N, 2, none⟩ a2).setCell ⟨N, 3, none⟩ a3).cell? ⟨g, 4, none⟩ = some v4 ∧ ((((V.setCell ⟨N, 0, none⟩ a0).setCell ⟨N, 1, none⟩ a1).setCell ⟨N, 2, none⟩ a2).setCell ⟨N, 3, none⟩ a3).cell? ⟨g, 5, none⟩ = some v5 := by
  have hp := (((part_set V N 0 a0).trans (part_set _ N 1 a1) fun i hi => .inl hi).trans (part_set _ N 2 a2) fun i hi => .inl hi).trans (part_set _ N 3 a3) fun i hi => .inl hi
  have hg : ∀ j v, V.cell? ⟨g, j, none⟩ = some v → ((((V.setCell ⟨N, 0, none⟩ a0).setCell ⟨N, 1, none⟩ a1).setCell ⟨N, 2, none⟩ a2).setCell ⟨N, 3, none⟩ a3).cell? ⟨g, j, none⟩ = some v := fun j v hv => (World.cell?_of_block (w := V) (a := ⟨g, j, none⟩) (hp.block g hlt hne)).trans hv
  exact ⟨hg _ _ h.1, hg _ _ h.2.1, hg _ _ h.2.2⟩
set_option maxRecDepth 1000000 in
set_option maxHeartbeats 8000000 in
theorem step_any (h : Tw x0 w b G q c s p W) {l : PL} (hs : Sim l q p) (x : FX) (hx : FV w x) (hfx : FewX x) (hct : 0 ≤ p.ct ∧ p.ct ≤ 1000000) (first : Int) (hf : 0 ≤ first ∧ first < 4294967296) :
    Calls Try.prog 8 #[.pointer (some ⟨b, 0, none⟩), .pointer (some ⟨c, 0, none⟩), .agg x.cells.toArray, .int .u32 first] W fun e w' => e = .returned (.bool true) ∧ Hid (StP w b c (p.ct + 1) w') := by
  have H := keep (h.box (.cells x.cells.toArray 34))
  have HX := keep hx
  have HF := keep hfx
  have HC := keep hct
  have HS := keep hs
  clear h hx hfx hct hs
  obtain ⟨xw, xn, xm, ⟨l1, l2, l3⟩, xc, ⟨b1, b2, b3⟩, xls, xbls⟩ := x
  dsimp only [FX.cells] at H ⊢
  obtain ⟨z, hz⟩ := bounded_at xn
  replace hz := keep hz
  by_cases h3 : xw = 3
  · subst h3
    go_enter Try.func8, Try.ntmps8
    go_wp2_with fail
    refine (timeL H.out).mono ?_
    rintro e y1 ⟨rfl, T1⟩
    dsimp only
    have KR := keep (timeR T1.out)
    rw [← HS.out.timeout.2] at KR
    go_wp2_with (first
      | (go_at_call 22; refine KR.out.mono ?_; rintro e y2 ⟨rfl, T2⟩))
    go_ret
    exact ⟨rfl, keep ⟨_, _, _, _, _, T2.out.unbox, HS.out.timeout.1, HC.out.1, by show p.ct ≤ p.ct + 1; omega⟩⟩
  · by_cases h0 : xw = 0
    · subst h0
      have hl2 : l2 ≤ 1000 := by
        have a1 := HF.out.1; have a2 := HX.out.l.1.1; dsimp only at a1 a2; omega
      have hsm := keep (show ∀ y ∈ xls, Sm y from fun y hy => (HF.out.2.2 y hy).sm)
      have HL := keep (show ZS w (l1, l2, l3) xls from HX.out.l)
      have hE : pushE q xls = rPe p xls := by unfold pushE rPe; rw [HS.out.es, HS.out.rs, List.length_map, List.length_map]
      have T0 := keep (H.out.step (Below.refl _ _).drew)
      have q0 := (T0.out.of_box (.inr ⟨rfl, rfl⟩))
      have KP := pushL T0.out HL.out hl2 hsm.out xn xm
      rw [hE] at KP
      replace KP := keep KP
      clear hE
      go_enter Try.func8, Try.ntmps8
      go_wp2_with fail
      go_region_held3 (fun w' => w'.cell? ⟨W.heap.size, 1, none⟩ = some (.int .i64 xn) ∧ w'.cell? ⟨W.heap.size, 2, none⟩ = some (.int .i64 xm) ∧ w'.cell? ⟨W.heap.size, 3, none⟩ = some (.slice l1 l2 l3))
        (first | exact ⟨q0.2.1, q0.2.2.1, q0.2.2.2.1⟩ | exact s1 | exact s2)
        (first
        | (go_at_call 10; refine KP.out.mono ?_; rintro e y1 ⟨rfl, G1, q1, H1⟩; have q2 := (H1.out.1.of_box (.inr ⟨rfl, rfl⟩)); have s1 := And.intro q2.2.1 (And.intro q2.2.2.1 q2.2.2.2.1); have KR := keep (pushR H1.out.1 HL.out hsm.out hl2 xn xm HC.out))
        | (go_at_call 16; refine KR.out.mono ?_; rintro e y2 ⟨rfl, sn, H2⟩; have q3 := (H2.out.of_box (.inr ⟨rfl, rfl⟩)); have s2 := And.intro q3.2.1 (And.intro q3.2.2.1 q3.2.2.2.1)))
      go_wp2_with fail
      go_ret
      obtain ⟨ln, hln⟩ := (HS.out.pushed H1.out.2).2
      refine ⟨rfl, keep ⟨_, _, _, _, _, H2.out.unbox, hln, ?_, ?_⟩⟩
      · have := HC.out.1
        split
        · show 0 ≤ p.ct + 1; omega
        · exact this
      · split
        · exact Int.le_refl _
        · omega
    · by_cases h1 : xw = 1
      · subst h1
        have T0 := keep (H.out.step (Below.refl _ _).drew)
        have q0 := (T0.out.of_box (.inr ⟨rfl, rfl⟩))
        have KT := keep (takeL T0.out z xm HX.out.m)
        have HLT := keep T0.out.ra.lt
        go_enter Try.func8, Try.ntmps8
        go_wp2_with fail
        go_region_held3 (fun w' => w'.cell? ⟨W.heap.size, 1, none⟩ = some (.int .i64 xn) ∧ w'.cell? ⟨W.heap.size, 2, none⟩ = some (.int .i64 xm))
          (first | exact ⟨q0.2.1, q0.2.2.1⟩ | exact s1 | exact s2 | exact s3)
          (first
          | (go_at_call 18; refine (hz.out _).mono ?_; rintro e w' ⟨rfl, rfl⟩)
          | (go_at_call 12; refine KT.out.mono ?_; rintro e y1 ⟨z1, ys, rfl, H1⟩; have q2 := (H1.out.1.of_box (.inr ⟨rfl, rfl⟩)); have s1 := And.intro q2.2.1 q2.2.2.1; have KR := keep (takeR H1.out.1 H1.out.2.1 HLT.out z xm HX.out.m))
          | (go_at_call 19; refine KR.out.mono ?_; rintro e y2 ⟨A2, n2, k2, rfl, H2⟩; have q3 := (H2.out.1.of_box (.inr ⟨rfl, rfl⟩)); have s2 := And.intro q3.2.1 q3.2.2.1; have KS := keep (took HS.out z xm H1.out.2.2.1 H2.out.2.1 H2.out.2.2.1 H2.out.2.2.2.1 H2.out.2.2.2.2))
          | (go_at_call 17; refine KS.out.mono ?_; rintro e y3 ⟨rfl, hb3⟩; have T3 := keep (H2.out.1.step hb3); have q4 := (T3.out.of_box (.inr ⟨rfl, rfl⟩)); have s3 := And.intro q4.2.1 q4.2.2.1; clear hb3))
        go_wp2_with fail
        go_ret
        obtain ⟨ln, hln, _⟩ := HS.out.take z xm
        exact ⟨rfl, keep ⟨_, _, _, _, _, T3.out.unbox, hln, HC.out.1, by show p.ct ≤ p.ct + 1; omega⟩⟩
      · by_cases h2 : xw = 2
        · subst h2
          obtain ⟨cu, hcu0⟩ : ∃ cu, (first + xc) % 4294967296 = cu := ⟨_, rfl⟩
          have hcw : IntKind.u32.wrap (first + xc) = cu := by rw [wrap_u32]; exact hcu0
          have hcu1 : 0 ≤ cu ∧ cu < 4294967296 := by omega
          obtain ⟨by_, sa, lo, mo, ok, q', p', l', hs', hct', AL, AR⟩ := acks (b := b) (c := c) HS.out cu z hcu1 (b1, b2, b3) xbls HX.out.b (by have h1 := HF.out.2.1; have h2 := HX.out.b.1; dsimp only at h1 h2 ⊢; omega) HX.out.bk
          have HE := keep (And.intro hs' hct')
          have KL := keep AL
          have KR := keep AR
          clear hs' hct' AL AR
          have e1 : (by_ == by_) = true := by simp
          have e2 : (sa == sa) = true := by simp
          have e3 : (lo == lo) = true := by simp
          have e4 : (mo == mo) = true := by simp
          have e5 : (ok == ok) = true := by simp
          go_enter Try.func8, Try.ntmps8
          go_wp2_with fail
          have HOb := H.out.mono (y := fun B Y => B = W.heap.size ∧ Y = .cells #[.int .i64 2, .int .i64 xn, .int .i64 xm, .slice l1 l2 l3, .int .u32 xc, .slice b1 b2 b3] 34) (fun B X hx => .inr hx)
          obtain ⟨V0, hV0⟩ : ∃ V0, W.alloc (.cells #[.int .i64 2, .int .i64 xn, .int .i64 xm, .slice l1 l2 l3, .int .u32 xc, .slice b1 b2 b3] 34) = V0 := ⟨_, rfl⟩
          rw [hV0] at HOb ⊢
          clear hV0
          have HOb := keep HOb
          have HNE := keep (show W.heap.size ≠ V0.heap.size from fun he => absurd ((Array.getElem?_eq_some_iff.1 (HOb.out.bx _ _ ⟨rfl, rfl⟩).1).1) (by rw [he]; exact Nat.lt_irrefl _))
          have T1 := keep (HOb.out.step (Below.refl _ _).drew)
          have T2 := keep ((HOb.out.box (.cells #[.int .i64 0, .int .i64 0, .bool false, .bool false] 49)).step (Below.refl _ _).drew)
          have T3 := keep ((HOb.out.step (Below.refl _ _).drew).box (.cells #[.int .i64 0, .int .i64 0, .bool false, .bool false] 49))
          have f1 := T1.out.s3 ⟨rfl, rfl⟩
          have f2 := T2.out.s3 (.inl ⟨rfl, rfl⟩)
          have f3 := T3.out.s3 (.inl ⟨rfl, rfl⟩)
          go_region_held3 (fun w' => w'.cell? ⟨W.heap.size, 1, none⟩ = some (.int .i64 xn) ∧ w'.cell? ⟨W.heap.size, 4, none⟩ = some (.int .u32 xc) ∧ w'.cell? ⟨W.heap.size, 5, none⟩ = some (.slice b1 b2 b3))
            (first
              | with_reducible exact f1
              | with_reducible exact f2
              | with_reducible exact f3
              | with_reducible exact s3
              | with_reducible exact (H3.out.box (.cells #[.int .i64 0, .int .i64 0, .bool false, .bool false] 49)).s3 (.inl ⟨rfl, rfl⟩)
              | with_reducible exact (H3.out.box (.cells #[.int .i64 by_, .int .i64 sa, .bool lo, .bool mo] 49)).s3 (.inl ⟨rfl, rfl⟩)
              | with_reducible exact s4
              | with_reducible exact s5
              | trace_state)
            (first
            | (go_at_call 18; refine (hz.out _).mono ?_; rintro e w' ⟨rfl, rfl⟩)
            | (go_at_call 13; first
               | (with_reducible refine (KL.out _ _ _ _ T1.out).mono ?_
                  rintro e y3 ⟨rfl, G3, H3⟩
                  have s3 := H3.out.s3 ⟨rfl, rfl⟩
                  have s4 := set4_s3 (V := y3.alloc (.cells #[.int .i64 0, .int .i64 0, .bool false, .bool false] 49)) (N := y3.heap.size) (g := W.heap.size) (Array.getElem?_eq_some_iff.1 ((H3.out.box (.cells #[.int .i64 0, .int .i64 0, .bool false, .bool false] 49)).bx _ _ (.inl ⟨rfl, rfl⟩)).1).1 (fun he => absurd ((Array.getElem?_eq_some_iff.1 (H3.out.bx _ _ ⟨rfl, rfl⟩).1).1) (by rw [he]; exact Nat.lt_irrefl _)) (.int .i64 by_) (.int .i64 sa) (.bool lo) (.bool mo) ((H3.out.box (.cells #[.int .i64 0, .int .i64 0, .bool false, .bool false] 49)).s3 (.inl ⟨rfl, rfl⟩)))
               | (with_reducible refine (KL.out _ _ _ _ T2.out).mono ?_
                  rintro e y3 ⟨rfl, G3, H3⟩
                  have s3 := H3.out.s3 (.inl ⟨rfl, rfl⟩)
                  have hbx : RsB y3 V0.heap.size 0 0 false false := (H3.out.bx _ _ (.inr ⟨rfl, rfl⟩)).1
                  obtain ⟨x0, x1, x2, x3⟩ := hbx.cells
                  obtain ⟨p0, p1, p2, p3⟩ := hbx.fzs
                  have s5 := set4_s3 (V := y3) (N := V0.heap.size) (g := W.heap.size) (Array.getElem?_eq_some_iff.1 (H3.out.bx _ _ (.inl ⟨rfl, rfl⟩)).1).1 HNE.out (.int .i64 by_) (.int .i64 sa) (.bool lo) (.bool mo) s3)
               | (with_reducible refine (KL.out _ _ _ _ T3.out).mono ?_
                  rintro e y3 ⟨rfl, G3, H3⟩
                  have s3 := H3.out.s3 (.inl ⟨rfl, rfl⟩)
                  have hbx : RsB y3 V0.heap.size 0 0 false false := (H3.out.bx _ _ (.inr ⟨rfl, rfl⟩)).1
                  obtain ⟨x0, x1, x2, x3⟩ := hbx.cells
                  obtain ⟨p0, p1, p2, p3⟩ := hbx.fzs
                  have s5 := set4_s3 (V := y3) (N := V0.heap.size) (g := W.heap.size) (Array.getElem?_eq_some_iff.1 (H3.out.bx _ _ (.inl ⟨rfl, rfl⟩)).1).1 HNE.out (.int .i64 by_) (.int .i64 sa) (.bool lo) (.bool mo) s3)))
          all_goals
            first
            | (have T5 := H3.out.box (.cells #[.int .i64 by_, .int .i64 sa, .bool lo, .bool mo] 49)
               obtain ⟨W5, hW5⟩ : ∃ W5, y3.alloc (.cells #[.int .i64 by_, .int .i64 sa, .bool lo, .bool mo] 49) = W5 := ⟨_, rfl⟩
               obtain ⟨bx, hbx2⟩ : ∃ bx, y3.heap.size = bx := ⟨_, rfl⟩
               rw [hW5] at T5 ⊢
               rw [hbx2] at T5 ⊢
               clear hW5 hbx2 s3 s4 f1 f2 f3)
            | (have T5 := (H3.out.put (.inr ⟨rfl, rfl⟩) HOb.out.qs.bl.size ((((part_set y3 V0.heap.size 0 (.int .i64 by_)).trans (part_set _ V0.heap.size 1 (.int .i64 sa)) fun i hi => .inl hi).trans (part_set _ V0.heap.size 2 (.bool lo)) fun i hi => .inl hi).trans (part_set _ V0.heap.size 3 (.bool mo)) fun i hi => .inl hi) (res4_at hbx by_ sa lo mo)).mono (y := fun C Z => (C = W.heap.size ∧ Z = (.cells #[.int .i64 2, .int .i64 xn, .int .i64 xm, .slice l1 l2 l3, .int .u32 xc, .slice b1 b2 b3] 34)) ∨ (C = V0.heap.size ∧ Z = (.cells #[.int .i64 by_, .int .i64 sa, .bool lo, .bool mo] 49))) (fun C Z hz => by
                  rcases hz with ⟨hz1, hz2⟩ | hz
                  · exact .inl ⟨by rw [hz1]; exact HNE.out, .inl ⟨hz1, hz2⟩⟩
                  · exact .inr hz)
               obtain ⟨W5, hW5⟩ : ∃ W5, (((y3.setCell ⟨V0.heap.size, 0, none⟩ (.int .i64 by_)).setCell ⟨V0.heap.size, 1, none⟩ (.int .i64 sa)).setCell ⟨V0.heap.size, 2, none⟩ (.bool lo)).setCell ⟨V0.heap.size, 3, none⟩ (.bool mo) = W5 := ⟨_, rfl⟩
               obtain ⟨bx, hbx2⟩ : ∃ bx, V0.heap.size = bx := ⟨_, rfl⟩
               rw [hW5] at T5 ⊢
               rw [hbx2] at T5 ⊢
               clear hW5 hbx2 s3 s5 f1 f2 f3 hbx x0 x1 x2 x3 p0 p1 p2 p3)
          all_goals
            have T5d := keep (T5.step (Below.refl _ _).drew)
            have q5 := T5d.out.s3 (.inl ⟨rfl, rfl⟩)
            have KR5 := keep (KR.out _ _ _ _ T5d.out)
            clear T5 H3
            go_wp2_with fail
            go_region_held3 (fun w' => w'.cell? ⟨W.heap.size, 1, none⟩ = some (.int .i64 xn) ∧ w'.cell? ⟨W.heap.size, 4, none⟩ = some (.int .u32 xc) ∧ w'.cell? ⟨W.heap.size, 5, none⟩ = some (.slice b1 b2 b3))
              (first | exact q5 | exact q6)
              (first
              | (go_at_call 18; refine (hz.out _).mono ?_; rintro e w' ⟨rfl, rfl⟩)
              | (go_at_call 20; refine KR5.out.mono ?_
                 rintro e y6 ⟨rfl, s6, H6⟩
                 have q6 := H6.out.s3 (.inl ⟨rfl, rfl⟩)
                 have hr6 : RsB y6 bx by_ sa lo mo := (H6.out.bx _ _ (.inr ⟨rfl, rfl⟩)).1
                 obtain ⟨z0, z1, z2, z3⟩ := hr6.cells))
            clear q5 q6 hr6
            go_wp2_with fail
            go_ret
            exact ⟨rfl, keep ⟨_, _, _, _, _, H6.out.unbox, HE.out.1, by rw [HE.out.2]; exact HC.out.1, by rw [HE.out.2]; omega⟩⟩
        · have hz0 : (xw == 0) = false := by simpa using h0
          have hz1 : (xw == 1) = false := by simpa using h1
          have hz2 : (xw == 2) = false := by simpa using h2
          have hz3 : (xw == 3) = false := by simpa using h3
          have T0 := keep (H.out.step (Below.refl _ _).drew)
          have q0 := (T0.out.of_box (.inr ⟨rfl, rfl⟩))
          have KE := exL T0.out z
          rw [(HS.out.expire z).2] at KE
          replace KE := keep KE
          go_enter Try.func8, Try.ntmps8
          go_wp2_with fail
          go_region_held3 (fun w' => w'.cell? ⟨W.heap.size, 1, none⟩ = some (.int .i64 xn))
            (first | exact q0.2.1 | exact s1 | exact s2)
            (first
            | (go_at_call 18; refine (hz.out _).mono ?_; rintro e w' ⟨rfl, rfl⟩)
            | (go_at_call 23; refine KE.out.mono ?_; rintro e y1 ⟨rfl, H1⟩; have q2 := (H1.out.of_box (.inr ⟨rfl, rfl⟩)); have s1 := q2.2.1; have KR := keep (exR H1.out z))
            | (go_at_call 24; refine KR.out.mono ?_; rintro e y2 ⟨rfl, H2⟩; have q3 := (H2.out.of_box (.inr ⟨rfl, rfl⟩)); have s2 := q3.2.1))
          go_wp2_with fail
          go_ret
          obtain ⟨ln, hln⟩ := (HS.out.expire z).1
          exact ⟨rfl, keep ⟨_, _, _, _, _, H2.out.unbox, hln, HC.out.1, by show p.ct ≤ p.ct + 1; omega⟩⟩
end
end
end Go.Proofs.Ytffjdknmfmlfnaa
