/- Package dcep: an opening that is kept; Ask. -/
import Derived.Test.YtapaiknghnbfmaaDoorD8
namespace Go.Proofs.YtapaiknghnbfmaaDoor
open Go.RowKit
set_option linter.unusedVariables false

set_option maxHeartbeats 4000000 in
theorem kept_any (o : OV) (ho : o.Ok) (w : World) : Calls Tryd.prog 56 #[.agg o.cells.toArray] w fun e w' => e = .returned (.agg o.cells.toArray) ∧ Below w.heap.size w w' := by
  have L0 := up (below_lay w (.cells o.cells.toArray 25)) (below_lay _ (.cells oZ.cells.toArray 25))
  have S0 := (SB.laid w o).step (below_lay _ (.cells oZ.cells.toArray 25))
  have R0 := SB.laid (w.alloc (.cells o.cells.toArray 25)) oZ
  have hsz : (w.alloc (.cells o.cells.toArray 25)).heap.size = w.heap.size + 1 := by simp
  rw [hsz] at R0
  have KA := keep (fun W => sclone_any o.la (by have := ho.la; omega) W)
  have KB := keep (fun W => sclone_any o.pr (by have := ho.pr; omega) W)
  clear ho hsz
  obtain ⟨k, p, l, la, pr⟩ := o
  dsimp only [OV.cells, oZ] at *
  have T0 := keep (And.intro (L0.drew) (And.intro (S0.step (Below.refl _ _).drew) (R0.step (Below.refl _ _).drew)))
  clear L0 S0 R0
  have r0 := And.intro T0.out.2.1.ob.c3 T0.out.2.1.ob.c4
  dsimp only at r0
  go_enter Tryd.func56, Tryd.ntmps56
  go_wp2_with fail
  go_region_held3 (fun w' => w'.cell? ⟨w.heap.size, 3, none⟩ = some (.string la) ∧ w'.cell? ⟨w.heap.size, 4, none⟩ = some (.string pr))
    (first | with_reducible exact r0 | with_reducible exact r1 | with_reducible exact r2 | with_reducible exact r3 | with_reducible exact r4 | trace_state)
    (first
    | (go_at_call 72; first
       | (with_reducible refine (KB.out _).mono ?_
          rintro e w2 ⟨rfl, hb2⟩
          have T2 := keep (And.intro (T1.out.1.trans (hb2.mono T1.out.1.size)) (And.intro (T1.out.2.1.step hb2) (T1.out.2.2.step hb2)))
          have r2 := And.intro T2.out.2.1.ob.c3 T2.out.2.1.ob.c4
          dsimp only at r2
          have f3 := T2.out.2.1.fz 3
          have f4 := T2.out.2.1.fz 4
          have r3 := And.intro (T2.out.2.1.put3 la).ob.c3 (T2.out.2.1.put3 la).ob.c4
          have r4 := And.intro ((T2.out.2.1.put3 la).put4 pr).ob.c3 ((T2.out.2.1.put3 la).put4 pr).ob.c4
          dsimp only at r3 r4)
       | (with_reducible refine (KA.out _).mono ?_
          rintro e w1 ⟨rfl, hb1⟩
          have T1 := keep (And.intro (T0.out.1.trans (hb1.mono T0.out.1.size)) (And.intro (T0.out.2.1.step hb1) (T0.out.2.2.step hb1)))
          have r1 := And.intro T1.out.2.1.ob.c3 T1.out.2.1.ob.c4
          dsimp only at r1)))
  have S4 := keep (show SB ((w2.setCell ⟨w.heap.size, 3, none⟩ (.string la)).setCell ⟨w.heap.size, 4, none⟩ (.string pr)) w.heap.size ⟨k, p, l, la, pr⟩ from (T2.out.2.1.put3 la).put4 pr)
  have R4 := keep ((T2.out.2.2.else_ (k := w.heap.size) (j := 3) (by omega) (.string la)).else_ (k := w.heap.size) (j := 4) (by omega) (.string pr))
  have B4 := keep ((T2.out.1.setCell (p := ⟨w.heap.size, 3, none⟩) (Nat.le_refl _) (.string la)).setCell (p := ⟨w.heap.size, 4, none⟩) (Nat.le_refl _) (.string pr))
  obtain ⟨W4, hW4⟩ : ∃ W4, (w2.setCell ⟨w.heap.size, 3, none⟩ (.string la)).setCell ⟨w.heap.size, 4, none⟩ (.string pr) = W4 := ⟨_, rfl⟩
  rw [hW4] at S4 R4 B4 ⊢
  clear hW4 r0 r1 r2 r3 r4 f3 f4
  obtain ⟨s0, s1, s2, s3, s4⟩ := S4.out.ob
  obtain ⟨z0, z1, z2, z3, z4⟩ := R4.out.ob
  dsimp only at s0 s1 s2 s3 s4 z0 z1 z2 z3 z4
  have y0 := R4.out.fz 0
  have y1 := R4.out.fz 1
  have y2 := R4.out.fz 2
  have y3 := R4.out.fz 3
  have y4 := R4.out.fz 4
  go_wp2_with fail
  exact bodyPost_ret (results_cell_row rfl _ _ (w.heap.size + 1) _ (OV.cells ⟨k, p, l, la, pr⟩).toArray (0, 0) _ rfl (R4.out.laid5 ⟨k, p, l, la, pr⟩) Tryd.underlying25 rfl Op_size) rfl ⟨rfl, below5 B4.out (Nat.le_succ _) _ _ _ _ _⟩
theorem bs_part {S : Nat → Prop} {w w' : World} {A : Option Addr} {n c : Nat} {bs : List UInt8} (h : BS w A n c bs) (hp : Part S w w') (hA : ∀ a, A = some a → ¬ S a.block) : BS w' A n c bs := ⟨h.1, h.2.1, hp.sr h.2.2 hA⟩
theorem below_dN (W : World) (k : Nat) : Below W.heap.size W (W.drewN k) := ⟨rfl, rfl, rfl, Nat.le_refl _, fun _ _ => rfl⟩
/-- The stream that is asked for. -/
def askI (ev : Bool) (l : List Ch) : Option Nat := (List.range l.length).find? fun i => ownB ev i && (chAt l i).st == 0
theorem askI_some {ev : Bool} {l : List Ch} {j : Nat} (hj : j < l.length) (hno : ∀ i, i < j → (ownB ev i && (chAt l i).st == 0) = false) (hy : (ownB ev j && (chAt l j).st == 0) = true) : askI ev l = some j := by
  unfold askI
  rw [List.find?_range_eq_some]
  exact ⟨hy, by simpa using hj, fun i hi => by rw [hno i hi]; rfl⟩
theorem askI_none {ev : Bool} {l : List Ch} (hno : ∀ i, i < l.length → (ownB ev i && (chAt l i).st == 0) = false) : askI ev l = none := by
  unfold askI
  rw [List.find?_eq_none]
  intro i hi
  rw [hno i (List.mem_range.1 hi)]
  simp
def askE (ev : Bool) (l : List Ch) (o : OV) : Int := if encE o = 0 then (match askI ev l with | some _ => 0 | none => 9) else encE o
def askS (ev : Bool) (l : List Ch) (o : OV) : Nat := if encE o = 0 then (askI ev l).getD 0 else 0
def askD (ev : Bool) (l : List Ch) (o : OV) : List UInt8 := if encE o = 0 then (match askI ev l with | some _ => encB o | none => []) else []
def askL (ev : Bool) (l : List Ch) (o : OV) : List Ch := if encE o = 0 then (match askI ev l with | some i => l.set i ⟨1, o, false, false⟩ | none => l) else l
section
variable {w W W' : World} {b g : Nat} {ev : Bool} {l : List Ch}
theorem encode_any (o : OV) (ho : o.Ok) (w : World) (hT : Tabs w) : Calls Tryd.prog 12 #[.agg o.cells.toArray] w (EncP o w) := by
  by_cases h : wrongB o = true ∨ 256 < o.la.size ∨ 256 < o.pr.size
  · exact encode_no o ho w hT h
  · exact encode_ok o ho w hT (by cases hb : wrongB o with | false => rfl | true => exact absurd (.inl hb) h) (by omega)
theorem Ask_nil (o : OV) : Calls Tryd.prog 30 #[.pointer none, .agg o.cells.toArray] W fun e w' => e = .returned (.tuple #[.int .u16 0, .slice none 0 0, .int .i64 1]) ∧ Below W.heap.size W w' := by
  have l1 := keep (below_lay W (.cells o.cells.toArray 25))
  go_enter Tryd.func30, Tryd.ntmps30
  go_wp2
  go_ret3
  exact ⟨rfl, l1.out⟩
/-- What Ask leaves. -/
structure AskP (w : World) (b g : Nat) (ev : Bool) (l : List Ch) (o : OV) (W : World) (e : Ending) (w' : World) : Prop where
  r : ∃ A n c, e = .returned (.tuple #[.int .u16 (askS ev l o : Int), .slice A n c, .int .i64 (askE ev l o)]) ∧ Hid (BS w' A n c (askD ev l o))
  tb : Hid (TB w b g ev (askL ev l o) w')
  pt : Hid (Part (fun i => i = g) W w')
set_option maxHeartbeats 4000000 in
theorem Ask_bad (h : TB w b g ev l W) (o : OV) (ho : o.Ok) (hT : Tabs W) (he : encE o ≠ 0) : Calls Tryd.prog 30 #[.pointer (some ⟨b, 0, none⟩), .agg o.cells.toArray] W (AskP w b g ev l o W) := by
  have l1 := below_lay W (.cells o.cells.toArray 25)
  have KE := encode_any o ho _ (hT.step l1)
  have H := keep (h.step l1)
  have e1 : askE ev l o = encE o := by unfold askE; rw [if_neg he]
  have e2 : askS ev l o = 0 := by unfold askS; rw [if_neg he]
  have e3 : askD ev l o = [] := by unfold askD; rw [if_neg he]
  have e4 : askL ev l o = l := by unfold askL; rw [if_neg he]
  unfold EncP RetF at KE
  obtain ⟨er, her⟩ : ∃ er, encE o = er := ⟨_, rfl⟩
  rw [her] at KE he e1
  have q1 : (er == 0) = false := by simpa using he
  have q2 : (er != 0) = true := by simpa using he
  have HE := keep (And.intro e1 (And.intro e2 (And.intro e3 e4)))
  have KE := keep KE
  have l1 := keep l1
  clear h e1 e2 e3 e4 hT her he ho
  obtain ⟨k, p, lm, la, pr⟩ := o
  dsimp only [OV.cells] at KE H l1 ⊢
  go_enter Tryd.func30, Tryd.ntmps30
  go_wp2_with (go_at_call 12; refine KE.out.mono ?_; rintro e w1 ⟨A1, n1, c1, rfl, hs1, hb1, hf1⟩; have B1 := keep (up l1.out hb1); have H1 := keep (H.out.step hb1); clear hs1 hb1 hf1)
  go_ret3
  exact ⟨⟨none, 0, 0, by rw [HE.out.1, HE.out.2.1]; rfl, keep (by rw [HE.out.2.2.1]; exact BS.nil _)⟩, keep (by rw [HE.out.2.2.2]; exact H1.out), keep (Part.of_below _ B1.out)⟩
set_option maxHeartbeats 8000000 in
theorem Ask_ok (h : TB w b g ev l W) (o : OV) (ho : o.Ok) (hT : Tabs W) (he : encE o = 0) : Calls Tryd.prog 30 #[.pointer (some ⟨b, 0, none⟩), .agg o.cells.toArray] W (AskP w b g ev l o W) := by
  have l1 := below_lay W (.cells o.cells.toArray 25)
  have S0 := SB.laid W o
  have KE := encode_any o ho _ (hT.step l1)
  have H := keep (h.step l1)
  have KK := keep (fun W => kept_any o ho W)
  unfold EncP RetF at KE
  have hD : encD o = encB o := by unfold encD; rw [if_pos he]
  rw [he, hD] at KE
  have KE := keep KE
  have HE := keep he
  have l1 := keep l1
  have S0 := keep S0
  have HLE := keep h.le
  have HBG := keep (And.intro h.lob h.log)
  have hWb := h.ltb
  have hWg := h.row.lt
  have HLT := keep (And.intro hWb hWg)
  clear h hT he ho hD hWb hWg
  obtain ⟨k, p, lm, la, pr⟩ := o
  dsimp only [OV.cells] at KE H l1 S0 KK ⊢
  go_enter Tryd.func30, Tryd.ntmps30
  go_wp2_with (go_at_call 12; refine KE.out.mono ?_; rintro e w1 ⟨A1, n1, c1, rfl, hs1, hb1, hf1⟩; have S1 := keep (S0.out.step hb1); have B1 := keep (up l1.out hb1); have H1 := keep (H.out.step hb1); have HS1 := keep hs1; have HF1 := keep hf1; obtain ⟨d0, d1⟩ := H1.out.c0; clear hs1 hb1 hf1)
  go_loopw [27, 9, 10, 11] (fun i _ _ _ wr => ∃ j : Nat, j ≤ l.length ∧ i = .int .i64 j ∧ Hid (∀ i, i < j → (ownB ev i && (chAt l i).st == 0) = false) ∧ Hid (Below w1.heap.size w1 wr)) (fun i _ _ _ _ => l.length - (intOf i).toNat)
  case atStart => exact ⟨0, Nat.zero_le _, rfl, keep (fun i hi => absurd hi (Nat.not_lt_zero i)), keep (Below.refl _ _)⟩
  case round =>
    obtain ⟨j, hj, rfl, HNo, HB⟩ := hrel
    have H2 := keep (H1.out.step HB.out)
    by_cases hlt : j < l.length
    · have hjI : (j : Int) < (l.length : Int) := by omega
      have hj0 : (0 : Int) ≤ (j : Int) := by omega
      have hj64 : (j : Int) ≤ 64 := by have := HLE.out; omega
      obtain ⟨e0, e1⟩ := H2.out.c0
      have q0 := (H2.out.row.at_ (get_chAt hlt)).1
      have hsz : Tryd.prog.cellsOf 109 = 8 := by kernel_rfl
      clear d0 d1
      have HNX := keep HNo.out
      cases hown : ownB ev j
      · have hnext : ∀ i, i < j + 1 → (ownB ev i && (chAt l i).st == 0) = false := fun i hi => by
          rcases Nat.lt_or_ge i j with h1 | h1
          · exact HNo.out i h1
          · obtain rfl : i = j := by omega
            rw [hown]; rfl
        have HNX2 := keep hnext
        have KO0 := fun W' (hb : Below wr.heap.size wr W') => own_any (H2.out.step hb) j (by omega)
        rw [hown] at KO0
        have KO := keep KO0
        clear hown hnext KO0
        go_wp2_with fail
        go_quiet (fail)
        go_wp2_with (go_at_call 55; refine (KO.out _ (below_dN _ _)).mono ?_; rintro e w4 ⟨rfl, rfl⟩)
        go_roundw
        case rel => exact ⟨j + 1, by omega, by go_num, HNX2, keep (HB.out.trans ((below_dN wr nq).mono HB.out.size))⟩
        case measure => simp [intOf]; omega
      · have KO0 := fun W' (hb : Below wr.heap.size wr W') => own_any (H2.out.step hb) j (by omega)
        rw [hown] at KO0
        have KO := keep KO0
        by_cases hst : (chAt l j).st = 0
        · have HAI := keep (askI_some hlt HNo.out (by rw [hown, hst]; rfl))
          rw [hst] at q0
          have x1 : askE ev l ⟨k, p, lm, la, pr⟩ = 0 := by unfold askE; rw [if_pos HE.out, HAI.out]
          have x2 : askS ev l ⟨k, p, lm, la, pr⟩ = j := by unfold askS; rw [if_pos HE.out, HAI.out]; rfl
          have x3 : askD ev l ⟨k, p, lm, la, pr⟩ = encB ⟨k, p, lm, la, pr⟩ := by unfold askD; rw [if_pos HE.out, HAI.out]
          have x4 : askL ev l ⟨k, p, lm, la, pr⟩ = l.set j ⟨1, ⟨k, p, lm, la, pr⟩, false, false⟩ := by unfold askL; rw [if_pos HE.out, HAI.out]
          have HX := keep (And.intro x1 (And.intro x2 (And.intro x3 x4)))
          obtain ⟨v0, v1, v2, v3, v4⟩ := (S1.out.step HB.out).ob
          dsimp only at v0 v1 v2 v3 v4
          have HLTj := keep hlt
          clear hown hst KO0 x1 x2 x3 x4
          go_wp2_with fail
          go_quiet (fail)
          go_wp2_with (first
            | (go_at_call 55; refine (KO.out _ (below_dN _ _)).mono ?_; rintro e w4 ⟨rfl, rfl⟩)
            | (go_at_call 56; refine (KK.out _).mono ?_; rintro e w5 ⟨rfl, hb5⟩
               have B5 := keep (B1.out.trans ((HB.out.trans (((below_dN wr nq).trans (hb5.mono (by exact Nat.le_refl _))).mono HB.out.size)).mono B1.out.size))
               have H5 := keep (H2.out.step ((below_dN wr nq).trans (hb5.mono (by exact Nat.le_refl _))))
               obtain ⟨a0, a1, a2, a3, a4, a5, a6, a7⟩ := H5.out.row.at_ (get_chAt HLTj.out)
               have f0 := H5.out.row.fz (j * 8)
               have f1 := H5.out.row.fz (j * 8 + 1)
               have f2 := H5.out.row.fz (j * 8 + 2)
               have f3 := H5.out.row.fz (j * 8 + 3)
               have f4 := H5.out.row.fz (j * 8 + 4)
               have f5 := H5.out.row.fz (j * 8 + 5)
               have f6 := H5.out.row.fz (j * 8 + 6)
               have f7 := H5.out.row.fz (j * 8 + 7)
               have HB5 := keep hb5
               clear hb5))
          go_ret3
          have HP := (Part.of_below (fun i => i = g) B5.out).trans (part8 w5 g (j * 8) (.int .i64 1) (.int .u8 k) (.int .u16 p) (.int .u32 lm) (.string la) (.string pr) (.bool false) (.bool false)) fun i hi => .inl hi
          refine ⟨⟨A1, n1, c1, by rw [HX.out.1, HX.out.2.1]; rfl, keep ?_⟩, keep ?_, keep HP⟩
          · rw [HX.out.2.2.1]
            have h1 := HS1.out.step (HB.out.trans (((below_dN wr nq).trans (HB5.out.mono (by exact Nat.le_refl _))).mono HB.out.size))
            exact bs_part h1 (part8 w5 g (j * 8) _ _ _ _ _ _ _ _) fun a ha => by
              have h2 := HF1.out a ha
              have h3 := HLT.out.2
              have h4 := l1.out.size
              omega
          · rw [HX.out.2.2.2]
            exact H5.out.turn (part8 w5 g (j * 8) _ _ _ _ _ _ _ _) (H5.out.row.put8 HLTj.out ⟨1, ⟨k, p, lm, la, pr⟩, false, false⟩) (by rw [List.length_set])
        · have hnext : ∀ i, i < j + 1 → (ownB ev i && (chAt l i).st == 0) = false := fun i hi => by
            rcases Nat.lt_or_ge i j with h1 | h1
            · exact HNo.out i h1
            · obtain rfl : i = j := by omega
              rw [hown, Bool.true_and]; simpa using hst
          have HNX2 := keep hnext
          have qs : ((chAt l j).st == 0) = false := by simpa using hst
          generalize (chAt l j).st = st at q0 qs
          clear hown hst KO0 hnext
          go_wp2_with fail
          go_quiet (fail)
          go_wp2_with (go_at_call 55; refine (KO.out _ (below_dN _ _)).mono ?_; rintro e w4 ⟨rfl, rfl⟩)
          go_roundw
          case rel => exact ⟨j + 1, by omega, by go_num, HNX2, keep (HB.out.trans ((below_dN wr nq).mono HB.out.size))⟩
          case measure => simp [intOf]; omega
    · obtain rfl : j = l.length := by omega
      have hn := askI_none HNo.out
      have x1 : askE ev l ⟨k, p, lm, la, pr⟩ = 9 := by unfold askE; rw [if_pos HE.out, hn]
      have x2 : askS ev l ⟨k, p, lm, la, pr⟩ = 0 := by unfold askS; rw [if_pos HE.out, hn]; rfl
      have x3 : askD ev l ⟨k, p, lm, la, pr⟩ = [] := by unfold askD; rw [if_pos HE.out, hn]
      have x4 : askL ev l ⟨k, p, lm, la, pr⟩ = l := by unfold askL; rw [if_pos HE.out, hn]
      have HX := keep (And.intro x1 (And.intro x2 (And.intro x3 x4)))
      clear hn x1 x2 x3 x4 d0 d1 HNo
      go_wp2_with fail
      go_ret3
      exact ⟨⟨none, 0, 0, by rw [HX.out.1, HX.out.2.1]; rfl, keep (by rw [HX.out.2.2.1]; exact BS.nil _)⟩, keep (by rw [HX.out.2.2.2]; exact H2.out), keep (Part.of_below _ (up B1.out HB.out))⟩
end
end Go.Proofs.YtapaiknghnbfmaaDoor
