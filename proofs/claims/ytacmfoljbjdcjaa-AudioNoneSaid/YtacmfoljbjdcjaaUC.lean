/- Law 20: of a forwarder that is none; what is handed in, or told, is not changed by each other (AudioNone). -/
import Derived.Test.YtacmfoljbjdcjaaUB
import Derived.Test.YtacmfoljbjdcjaaUF
namespace Go.Proofs.Ytacmfoljbjdcjaa
open Go.RowKit Go.Maps
set_option linter.unusedVariables false
set_option linter.unusedSimpArgs false

def NM (j : Nat) : Fm := match j with
  | 0 => newM 3 4
  | j + 1 => listenM (NM j) (j : Int)
def NP : Fm := hearM (NM 3) 0 ⟨false, 0, 0, 0, 0, [7]⟩
def NU : Fm := pullM NP 1
theorem nm_u3 : (NM 3).u ≤ 100000 := of_decide_eq_true (by kernel_rfl)
theorem np_1 : pullI NP 1 = ⟨false, 0, 0, 0, 1, [7]⟩ ∧ pullB NP 1 = true := ⟨by kernel_rfl, by kernel_rfl⟩
theorem nu_2 : pullI NU 2 = ⟨false, 0, 0, 0, 1, [7]⟩ ∧ pullB NU 2 = true := ⟨by kernel_rfl, by kernel_rfl⟩
theorem nm_listen {w W : World} {b j : Nat} (h : FQ w b (NM j) [] W) : Calls Try.prog 18 #[ptr b, .int .i64 (j : Int)] W fun e w' => (∃ x, e = .returned (.int .i64 x)) ∧ Hid (FQ w b (NM (j + 1)) [] w') :=
  (Listen_q h (j : Int)).mono fun e w' ⟨g1, g2, _⟩ => ⟨⟨_, g1⟩, g2⟩
set_option maxHeartbeats 8000000 in
set_option maxRecDepth 1000000 in
theorem audioNone_walk (nn : Int) (y : Pv) (w : World) (hn : (Lit.int .i64 nn).wf = true) (hy : PA w y) :
    Calls Try.prog 6 #[.int .i64 nn, .agg y.cells.toArray] w fun e w' => e = .returned (.bool true) ∧ Below w.heap.size w w' := by
  obtain ⟨ym, yk, yq, yt, yo, ⟨y1, y2, y3⟩, yb⟩ := y
  unfold Pv.cells
  dsimp only
  have HY := keep hy
  have b1 := below_lay w (.cells #[.bool ym, .int .u8 yk, .int .u16 yq, .int .u32 yt, .int .u32 yo, .slice y1 y2 y3] 26)
  have HX := keep (show ∀ W, Below (w.alloc (.cells #[.bool ym, .int .u8 yk, .int .u16 yq, .int .u32 yt, .int .u32 yo, .slice y1 y2 y3] 26)).heap.size (w.alloc (.cells #[.bool ym, .int .u8 yk, .int .u16 yq, .int .u32 yt, .int .u32 yo, .slice y1 y2 y3] 26)) W → W.cell? ⟨w.heap.size, 0, none⟩ = some (.bool ym) ∧ W.cell? ⟨w.heap.size, 1, none⟩ = some (.int .u8 yk) ∧ W.cell? ⟨w.heap.size, 2, none⟩ = some (.int .u16 yq) ∧ W.cell? ⟨w.heap.size, 3, none⟩ = some (.int .u32 yt) ∧ W.cell? ⟨w.heap.size, 4, none⟩ = some (.int .u32 yo) ∧ W.cell? ⟨w.heap.size, 5, none⟩ = some (.slice y1 y2 y3) ∧ Below w.heap.size w W from fun W hb => by
    have g := (hb.block w.heap.size (by simp)).trans (heap_alloc_new w (.cells #[.bool ym, .int .u8 yk, .int .u16 yq, .int .u32 yt, .int .u32 yo, .slice y1 y2 y3] 26))
    exact ⟨upd_cell g 0 _ rfl, upd_cell g 1 _ rfl, upd_cell g 2 _ rfl, upd_cell g 3 _ rfl, upd_cell g 4 _ rfl, upd_cell g 5 _ rfl, b1.trans (hb.mono b1.size)⟩)
  have KA := keep (awake_any (w.alloc (.cells #[.bool ym, .int .u8 yk, .int .u16 yq, .int .u32 yt, .int .u32 yo, .slice y1 y2 y3] 26)))
  clear hy b1
  by_cases lm : 1500 < y2
  · have lmI : (1500 : Int) < (y2 : Int) := by omega
    clear lm
    go_enter Try.func6, Try.ntmps6
    go_wp2_with fail
    refine KA.out.mono ?_
    rintro e w1 ⟨rfl, hb1⟩
    obtain ⟨p0, p1, p2, p3, p4, p5, hbw⟩ := HX.out w1 hb1
    go_wp2
    go_ret
    exact ⟨rfl, hbw⟩
  have lmI : ¬ (1500 : Int) < (y2 : Int) := by omega
  clear lm
  have KH := keep fun W => Hear_nil nn ym yk yq yt yo y1 y2 y3 W
  have KU := keep fun W => Pull_nil nn W
  have KN := keep fun W (hb : Below w.heap.size w W) => New_q (w := w) 3 4 hb
  rw [show clampT 3 16 = 3 from rfl, show clampT 4 64 = 4 from rfl] at KN
  unfold pvZ Pv.cells at KU
  dsimp only at KU
  go_enter Try.func6, Try.ntmps6
  go_wp2_with fail
  refine KA.out.mono ?_
  rintro e w1 ⟨rfl, hb1⟩
  have HB1 := keep hb1
  obtain ⟨p0, p1, p2, p3, p4, p5, hbw⟩ := HX.out w1 hb1
  clear hb1
  go_wp2_with fail
  refine (KH.out w1).mono ?_
  rintro e w2 ⟨rfl, hb2⟩
  have HB2 := keep (hbw.trans (hb2.mono hbw.size))
  clear hb2 hbw p0 p1 p2 p3 p4 p5
  go_wp2_with fail
  refine (KU.out w2).mono ?_
  rintro e w3 ⟨rfl, hb3⟩
  have HB3 := keep (HB2.out.trans (hb3.mono HB2.out.size))
  clear hb3
  have HB4 := keep (HB3.out.trans ((below_lay w3 (.cells #[.bool false, .int .u8 0, .int .u16 0, .int .u32 0, .int .u32 0, .slice none 0 0] 26)).mono HB3.out.size))
  go_wp2_with fail
  refine (KN.out _ HB4.out).mono ?_
  rintro e w5 ⟨g, rfl, h5⟩
  have HQ := keep (show FQ w g (NM 0) [] w5 from h5.out)
  clear h5 KN KA
  unfold ptr
  go_wp2_with fail
  go_loopw [12] (fun pv wr => ∃ j : Nat, pv = .int .i64 (j : Int) ∧ j ≤ 3 ∧ Hid (FQ w g (NM j) [] wr)) (fun pv _ => 3 - (intOf pv).toNat)
  case atStart => exact ⟨0, rfl, Nat.zero_le _, HQ⟩
  case round =>
    obtain ⟨j, rfl, hj, hQ⟩ := hrel
    by_cases hlt : j < 3
    · have hltI : (j : Int) < 3 := by omega
      have KJ := keep (nm_listen hQ.out)
      unfold ptr at KJ
      have HLT := keep hlt
      clear hlt hQ
      go_wp2_with fail
      refine KJ.out.mono ?_
      rintro e w6 ⟨⟨x6, rfl⟩, hQ6⟩
      go_wp2_with fail
      go_roundw
      case rel => exact ⟨j + 1, by simp, HLT.out, hQ6⟩
      all_goals (have := HLT.out; simp [intOf]; omega)
    · obtain rfl : j = 3 := by omega
      have H0 := keep hQ.out
      clear hlt hQ HQ
      go_wp2_with fail
      have hbs := BS.laid wr 5 [7] (by simp)
      have KQ := keep (Hear_q (H0.out.lay (.cells #[.int .u8 7] 5)) 0 false 0 0 0 0 hbs nm_u3)
      unfold ptr at KQ
      dsimp only [List.length] at KQ
      have HC := keep (show (wr.alloc (.cells #[.int .u8 7] 5)).heap[wr.heap.size]? = some (.cells #[.int .u8 7] 5 (0, 0)) from heap_alloc_new wr _)
      clear hbs H0
      refine KQ.out.mono ?_
      rintro e w8 ⟨rfl, h8, hk8⟩
      have hc8 := (hk8.out _ (List.mem_singleton_self _)).trans HC.out
      have c8 := upd_cell hc8 0 _ rfl
      have f8 := upd_fz hc8 0
      have H9 := keep (show FQ w g NP [] (w8.setCell ⟨wr.heap.size, 0, none⟩ (.int .u8 8)) from (h8.out.put (List.mem_singleton_self _) 0 _).less (fun k hk => by cases hk))
      clear KQ HC h8 hk8 hc8
      go_wp2_with fail
      obtain ⟨W9, hW9⟩ : ∃ W9, w8.setCell ⟨wr.heap.size, 0, none⟩ (.int .u8 8) = W9 := ⟨_, rfl⟩
      rw [hW9] at H9
      rw [hW9]
      clear hW9 c8 f8
      have KP := keep (Pull_q H9.out 1)
      rw [np_1.1, np_1.2] at KP
      unfold ptr at KP
      dsimp only at KP
      refine KP.out.mono ?_
      rintro e wa ⟨A, na, ca, rfl, hda, hqa, hka, hxa⟩
      clear KP hqa hka H9
      obtain rfl : na = 1 := hda.out.len
      obtain ⟨bk, o, rfl, hblt, hbc⟩ := hda.out.br.at_ (j := 0) (by simp)
      obtain ⟨q1, q2, q3⟩ := hxa.out _ rfl
      obtain rfl : o = 0 := by injection q2
      have hbc' : wa.cell? ⟨bk, 0, none⟩ = some (.int .u8 7) := hbc
      dsimp only at q1
      have HQA := keep q1
      have HDA := keep hda.out
      have HFA := keep q3
      clear hxa hda q1 q2 q3 hbc
      go_wp2_with fail
      have e9 : (wa.alloc (.cells #[.bool false, .int .u8 0, .int .u16 0, .int .u32 0, .int .u32 1, .slice (some ⟨bk, 0, none⟩) 1 ca] 26)).heap.size = wa.heap.size + 1 := by simp
      have hb9 := below_lay wa (.cells #[.bool false, .int .u8 0, .int .u16 0, .int .u32 0, .int .u32 1, .slice (some ⟨bk, 0, none⟩) 1 ca] 26)
      have hb10 := hb9.trans ((below_lay (wa.alloc (.cells #[.bool false, .int .u8 0, .int .u16 0, .int .u32 0, .int .u32 1, .slice (some ⟨bk, 0, none⟩) 1 ca] 26)) (.cells #[.int .u8 7] 5)).mono hb9.size)
      have hbs : BS ((wa.alloc (.cells #[.bool false, .int .u8 0, .int .u16 0, .int .u32 0, .int .u32 1, .slice (some ⟨bk, 0, none⟩) 1 ca] 26)).alloc (.cells #[.int .u8 7] 5)) (some ⟨(wa.alloc (.cells #[.bool false, .int .u8 0, .int .u16 0, .int .u32 0, .int .u32 1, .slice (some ⟨bk, 0, none⟩) 1 ca] 26)).heap.size, 0, none⟩) 1 1 [7] := BS.laid (wa.alloc (.cells #[.bool false, .int .u8 0, .int .u16 0, .int .u32 0, .int .u32 1, .slice (some ⟨bk, 0, none⟩) 1 ca] 26)) 5 [7] (by simp)
      rw [e9] at hbs
      refine (same_ret (some ⟨bk, 0, none⟩) (some ⟨wa.heap.size + 1, 0, none⟩) 1 1 ca 1 [7] [7] _ (HDA.out.step hb10) hbs).mono ?_
      rintro e wb ⟨rfl, rfl⟩
      have HQB := keep (HQA.out.step hb10)
      have HXB := keep (show ((wa.alloc (.cells #[.bool false, .int .u8 0, .int .u16 0, .int .u32 0, .int .u32 1, .slice (some ⟨bk, 0, none⟩) 1 ca] 26)).alloc (.cells #[.int .u8 7] 5)).heap[wa.heap.size]? = some (.cells #[.bool false, .int .u8 0, .int .u16 0, .int .u32 0, .int .u32 1, .slice (some ⟨bk, 0, none⟩) 1 ca] 26) from ((below_lay (wa.alloc (.cells #[.bool false, .int .u8 0, .int .u16 0, .int .u32 0, .int .u32 1, .slice (some ⟨bk, 0, none⟩) 1 ca] 26)) (.cells #[.int .u8 7] 5)).block _ (by rw [e9]; omega)).trans (heap_alloc_new wa (.cells #[.bool false, .int .u8 0, .int .u16 0, .int .u32 0, .int .u32 1, .slice (some ⟨bk, 0, none⟩) 1 ca] 26)))
      have c7 : ((wa.alloc (.cells #[.bool false, .int .u8 0, .int .u16 0, .int .u32 0, .int .u32 1, .slice (some ⟨bk, 0, none⟩) 1 ca] 26)).alloc (.cells #[.int .u8 7] 5)).cell? ⟨bk, 0, none⟩ = some (.int .u8 7) := (hb10.cell (p := ⟨bk, 0, none⟩) hblt).trans hbc'
      have f7 : ((wa.alloc (.cells #[.bool false, .int .u8 0, .int .u16 0, .int .u32 0, .int .u32 1, .slice (some ⟨bk, 0, none⟩) 1 ca] 26)).alloc (.cells #[.int .u8 7] 5)).frozen? ⟨bk, 0, none⟩ = false := (hb10.frozen (p := ⟨bk, 0, none⟩) hblt).trans HFA.out
      obtain ⟨Wb, hWb⟩ : ∃ Wb, (wa.alloc (.cells #[.bool false, .int .u8 0, .int .u16 0, .int .u32 0, .int .u32 1, .slice (some ⟨bk, 0, none⟩) 1 ca] 26)).alloc (.cells #[.int .u8 7] 5) = Wb := ⟨_, rfl⟩
      rw [hWb] at HQB HXB c7 f7
      rw [hWb, show (([7] : List UInt8) == [7]) = true by kernel_rfl]
      have x5 := upd_cell HXB.out 5 _ rfl
      clear hWb hb9 hb10 hbs e9 HQA HDA HFA hbc' HXB
      go_wp2_with fail
      have H9 := keep (show FQ w g NU [] (Wb.setCell ⟨bk, 0, none⟩ (.int .u8 9)) from (HQB.out.put (List.mem_singleton_self _) 0 _).less (fun k hk => by cases hk))
      obtain ⟨Wc, hWc⟩ : ∃ Wc, Wb.setCell ⟨bk, 0, none⟩ (.int .u8 9) = Wc := ⟨_, rfl⟩
      rw [hWc] at H9
      rw [hWc]
      clear hWc c7 f7 x5 HQB hblt
      have KP := keep (Pull_q H9.out 2)
      rw [nu_2.1, nu_2.2] at KP
      unfold ptr at KP
      dsimp only at KP
      refine KP.out.mono ?_
      rintro e wd ⟨A2, n2, c2, rfl, hd2, hq2, _, _⟩
      obtain rfl : n2 = 1 := hd2.out.len
      clear KP H9
      have KL := keep fun W => Listen_nil nn W
      have KT := keep fun W => Quiet_nil nn W
      have KO := keep fun W => Lost_nil nn W
      have KW := keep fun W => Waiting_nil nn W
      have HBd := keep hq2.out.bl
      go_wp2_with (first | (go_at_call 18; refine (KL.out _).mono ?_; rintro e wx ⟨rfl, rfl⟩) | (go_at_call 23; refine (KT.out _).mono ?_; rintro e wx ⟨rfl, rfl⟩) | (go_at_call 22; refine (KO.out _).mono ?_; rintro e wx ⟨rfl, rfl⟩) | (go_at_call 21; refine (KW.out _).mono ?_; rintro e wx ⟨rfl, rfl⟩))
      have e9 : (wd.alloc (.cells #[.bool false, .int .u8 0, .int .u16 0, .int .u32 0, .int .u32 1, .slice A2 1 c2] 26)).heap.size = wd.heap.size + 1 := by simp
      have hb9 := below_lay wd (.cells #[.bool false, .int .u8 0, .int .u16 0, .int .u32 0, .int .u32 1, .slice A2 1 c2] 26)
      have hb10 := hb9.trans ((below_lay (wd.alloc (.cells #[.bool false, .int .u8 0, .int .u16 0, .int .u32 0, .int .u32 1, .slice A2 1 c2] 26)) (.cells #[.int .u8 7] 5)).mono hb9.size)
      have hbs : BS ((wd.alloc (.cells #[.bool false, .int .u8 0, .int .u16 0, .int .u32 0, .int .u32 1, .slice A2 1 c2] 26)).alloc (.cells #[.int .u8 7] 5)) (some ⟨(wd.alloc (.cells #[.bool false, .int .u8 0, .int .u16 0, .int .u32 0, .int .u32 1, .slice A2 1 c2] 26)).heap.size, 0, none⟩) 1 1 [7] := BS.laid (wd.alloc (.cells #[.bool false, .int .u8 0, .int .u16 0, .int .u32 0, .int .u32 1, .slice A2 1 c2] 26)) 5 [7] (by simp)
      rw [e9] at hbs
      refine (same_ret A2 (some ⟨wd.heap.size + 1, 0, none⟩) 1 1 c2 1 [7] [7] _ (hd2.out.step hb10) hbs).mono ?_
      rintro e we ⟨rfl, rfl⟩
      have HBe := keep (HBd.out.trans (hb10.mono HBd.out.size))
      clear hb9 hb10 hbs e9
      rw [show (([7] : List UInt8) == [7]) = true by kernel_rfl]
      go_wp2
      go_ret
      exact ⟨rfl, HBe.out⟩
end Go.Proofs.Ytacmfoljbjdcjaa
