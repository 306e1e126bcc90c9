/- XferFirst: the walk. -/
import Derived.Test.YtnlkdlnmffibhaaGreatXi2
namespace Go.Proofs.YtnlkdlnmffibhaaGreat
open Go.RowKit Go.Maps
set_option linter.unusedVariables false
set_option maxRecDepth 8000

theorem and511 (i : Int) : ∃ k : Nat, bits .and .i64 i 511 = (k : Int) ∧ k < 512 := by
  have h := and_i64 i 9 (by decide)
  refine ⟨(i % 512).toNat, ?_, by omega⟩
  rw [show ((2 ^ 9 - 1 : Nat) : Int) = 511 by decide] at h
  rw [h]
  omega
theorem start_m {m : Nat} (h : 1 ≤ m ∧ m ≤ 65536) : WS.start (m : Int) = ⟨3 * (m : Int), 1073741824, 0, (m : Int), false, 0⟩ := by
  have h1 : inI 1 (m : Int) 65536 = true := by unfold inI; simp; omega
  unfold WS.start mtuOf
  rw [if_pos h1]
theorem cnt_few {k n : Nat} (hk : 72 ≤ k) (hn : n ≤ 512) : cnt k n ≤ 8 := by
  unfold cnt
  exact Nat.le_of_lt_succ (Nat.div_lt_of_lt_mul (by omega))
/-- What the first Tell takes. -/
theorem first_take {a : Int} {m j : Nat} {q : Qm} (hm : 100 ≤ m) (h : SnQ a 1 (m - 28) 8 512 j q) (now : Int) : ∃ d, Tk now q.es 0 (3 * (m : Int)) [] (takeQ q now (3 * (m : Int))) d ∧ d ≤ q.es.length ∧ ((q.es.take d).map lenE).sum ≤ 3 * m ∧ (0 < d ↔ 0 < j) := by
  obtain ⟨d, hT⟩ := take_new h.st now (3 * (m : Int))
  have hge := h.ge
  have hd := hT.hd
  refine ⟨d, hT, by omega, ?_, ?_⟩
  · rcases hT.fit with h1 | h1
    · subst h1
      simp
    · rw [List.drop_zero] at h1
      omega
  · constructor
    · intro h1
      rcases Nat.eq_zero_or_pos j with h2 | h2
      · have h3 := h.z0 h2
        rw [h3, List.length_nil] at hd
        omega
      · exact h2
    · intro h1
      rcases Nat.eq_zero_or_pos d with h2 | h2
      · subst h2
        cases hes : q.es with
        | nil => rw [hes, List.length_nil] at hge; omega
        | cons e r =>
          have h3 := hT.full e (by rw [hes]; rfl)
          have h4 := h.ln e (by rw [hes]; exact List.mem_cons_self ..)
          simp at h3
          omega
      · exact h2
set_option maxHeartbeats 16000000 in
theorem xferFirst_walk (a : Int) (A : Option Addr) (n c : Nat) (zs : List Int) (mtu now : Int) (w : World) (ha : (Lit.int .u32 a).wf = true) (hz : NS .i64 w A n c zs) (hm : (Lit.int .i64 mtu).wf = true) (hn : (Lit.int .i64 now).wf = true) :
    Calls Tryz.prog 3 #[.int .u32 a, .slice A n c, .int .i64 mtu, .int .i64 now] w fun e w' => e = .returned (.bool true) ∧ Below w.heap.size w w' := by
  have KA := keep (awakeX w)
  have HZ := keep hz
  have HA := keep (wf32_i ha)
  clear hz ha hn hm
  by_cases hbig : 60 < n
  · go_enter Tryz.func3, Tryz.ntmps3
    go_wp2_with (go_at_call 5; refine KA.out.mono ?_; rintro e w1 ⟨rfl, hb1⟩; replace hb1 := keep hb1)
    all_goals go_ret
    all_goals exact ⟨rfl, hb1.out⟩
  have hc2 : decide ((60 : Int) < (n : Int)) = false := decide_eq_false (by omega)
  have hn2 : ¬ (60 : Int) < (n : Int) := by omega
  have HN := keep (show n ≤ 60 from by omega)
  clear hbig
  obtain ⟨mk, hmk, hmk2⟩ := and1023 mtu
  obtain ⟨m, hm⟩ : ∃ m : Nat, 100 + mk = m := ⟨_, rfl⟩
  have hmI : 100 + (mk : Int) = (m : Int) := by omega
  have HM := keep (show 100 ≤ m ∧ m ≤ 1123 from by omega)
  have hm0 : (100 : Int) ≤ (m : Int) := by omega
  have hm1 : (m : Int) ≤ 1123 := by omega
  have hw1 : IntKind.i64.wrap (m : Int) = (m : Int) := (wrap_in _ (by omega)).1
  have hw2 : wrap64 (m : Int) = (m : Int) := (wrap_in _ (by omega)).2
  clear hm hmk2
  have KP := keep (fun W (h : Below w.heap.size w W) => pair_any h a 5 (m : Int) HA.out (by decide))
  have HST := keep (start_m (m := m) (by have := HM.out; omega))
  obtain ⟨i0, hi0, hz0, hz1, hz2⟩ := info_parts by_info_x
  go_enter Tryz.func3, Tryz.ntmps3
  go_wp2_with (first
    | (go_at_call 5; refine KA.out.mono ?_; rintro e w0 ⟨rfl, hb0⟩; replace hb0 := keep hb0)
    | (go_at_call 6; refine (KP.out _ hb0.out).mono ?_; rintro e w1 ⟨g, gy, rfl, H1⟩))
  have I0 : Hid (S1 w g.b a (m : Int) 65536 1 (m - 28) 8 512 0 w1 g (x0 a 5 65536 4 (m : Int) 4)) := keep (s1_new ⟨H1.out.a, H1.out.lx, H1.out.be⟩ HA.out (by decide))
  obtain ⟨b, hb⟩ : ∃ b, g.b = b := ⟨_, rfl⟩
  rw [hb] at I0 ⊢
  clear hb
  go_loopw [13] (fun i wr => ∃ (j : Nat) (g : Xg) (x : Xm), j ≤ n ∧ i = .int .i64 j ∧ Hid (S1 w b a (m : Int) 65536 1 (m - 28) 8 512 j wr g x)) (fun i _ => n - (intOf i).toNat)
  case atStart => exact ⟨0, _, _, Nat.zero_le _, rfl, I0⟩
  case round =>
    clear I0
    obtain ⟨j, g, x, hj, rfl, HR⟩ := hrel
    by_cases hlt : j < n
    · obtain ⟨b0, o0, z, hA, hbl, hcz, hzj, _⟩ := (HZ.out.step HR.out.oe.be).at_ hlt
      subst hA
      obtain ⟨k, hk, hk2⟩ := and511 z
      have hk0 : (0 : Int) ≤ (k : Int) := by omega
      have hk3 : (k : Int) < 512 := by omega
      have HK := keep hk2
      have hln : (bz (1 + k)).length = 1 + k := List.length_replicate ..
      have KS := keep (fun W (hb : Below wr.heap.size wr W) gz (hg : W.heap[gz]? = some (Obj.cells (List.replicate (1 + k) (Value.int .u8 0)).toArray 5 (0, 0))) =>
        (HR.out.step hb).send (by rw [HST.out]; have := HM.out; dsimp only; omega) (by rw [HST.out]; have := HM.out; dsimp only; omega) (by have := HN.out; omega) (by decide) (bz_bs hg) (by omega) (by omega) (cnt_few (by have := HM.out; omega) (by omega)) (by omega) (fun i hi => (piece_in (by have := HM.out; omega) hi).1) now)
      clear hzj hk2 hln
      go_wp2_with (first
        | (at_make; refine wpl_make rfl _ _ 31 rfl 5 i0 (.int .u8 0) Tryz.underlying31 hi0 hz0 hz1 rfl (1 + k) _ rfl rfl (by omega) (by rw [hz2]; have := HK.out; omega) (by unfold maxLen; have := HK.out; omega) ?_
           intro w2 hg2 hb2 hs2
           have KS2 := keep (KS.out w2 hb2 _ hg2.out)
           clear hg2 hs2 hb2)
        | (go_at_call 7; refine KS2.out.mono ?_; rintro e w3 ⟨rfl, g', x', H3⟩))
      go_roundw
      case rel => exact ⟨j + 1, g', x', by omega, by go_num, H3⟩
      case measure => simp [intOf]; omega
    · obtain rfl : n = j := by omega
      have hle := HR.out.sq.le
      have hlim : x.q.es.length ≤ 480 := by have := HN.out; omega
      obtain ⟨d, hT, hd1, hd2, hd3⟩ := first_take HM.out.1 HR.out.sq (bd now)
      have HTk := keep hT
      have HD := keep (And.intro hd1 (And.intro hd2 (And.intro hd3 (And.intro hlim HR.out.sq.ge))))
      have KT := keep (HR.out.tell now (by decide) (by omega) (R := 3 * (m : Int)) (by
        rw [HST.out]
        unfold WS.room
        have := HM.out
        rw [if_pos ⟨by unfold WS.may inI; simp; omega, by decide, by decide⟩, if_pos rfl]
        dsimp only
        omega) (by have := HM.out; omega) hT)
      clear hT hd1 hd2 hd3 hle hlim hlt hj
      go_wp2_with (go_at_call 8; refine KT.out.mono ?_; rintro e w2 ⟨A2, c2, ys, x2, rfl, H2, HP2⟩)
      have hct := HP2.out.ct
      have hdl := HP2.out.dl
      have hR2 : (takeQ x.q (bd now) (3 * (m : Int))).2 = (x.q.es.take d).map En.c := by
        have := HTk.out.c
        rwa [List.nil_append, List.drop_zero] at this
      rw [hR2] at hct hdl
      have hyl : d = ys.length := HP2.out.sr.2
      have hzs : ZS w2 (A2, d, c2) ys := ⟨LR.of_own CZ.len (by decide) HP2.out.row, fun y hy => (HP2.out.zs y hy).1⟩
      have hgi : ∀ (i : Nat), i < d → ∃ g o y, A2 = some ⟨g, o, none⟩ ∧ Z12 w2 g (o + i * 12) y ∧ y.a = (a + (i : Int)) % 4294967296 ∧ ((x.q.es.take d).map lenE)[i]? = some y.da.2.1 ∧ y.da.2.1 ≤ m - 28 := fun i hi => by
        obtain ⟨g, o, y, e1, _, e3, e4, _⟩ := hzs.at_ (j := i) hi
        have hie : i < x.q.es.length := by have := HD.out.1; omega
        obtain ⟨e, hx⟩ : ∃ e, x.q.es[i]? = some e := ⟨_, List.getElem?_eq_getElem hie⟩
        have h1 := congrArg (fun l => l[i]?) hct
        rw [List.getElem?_map, e4, List.getElem?_map, List.getElem?_map, List.getElem?_take, if_pos hi, hx] at h1
        injection h1 with h1
        have h2 := congrArg (fun l => l[i]?) hdl
        rw [List.getElem?_map, e4, List.getElem?_map, List.getElem?_map, List.getElem?_take, if_pos hi, hx] at h2
        injection h2 with h2
        have h3 : y.a = e.c.a := congrArg Ct.a h1
        have h4 := HR.out.sq.first HR.out.oe.a.nu HA.out (by have := HD.out.2.2.2.1; omega) hx
        refine ⟨g, o, y, e1, e3, h3.trans h4, ?_, ?_⟩
        · rw [List.getElem?_map, List.getElem?_take, if_pos hi, hx]
          exact congrArg some h2.symm
        · have h5 := (HR.out.sq.ln e (List.mem_of_getElem? hx)).2
          have h6 : y.da.2.1 = lenE e := h2
          omega
      have HGI := keep hgi
      have HDL := keep (show d ≤ 480 from by have := HD.out; omega)
      obtain ⟨L, hL⟩ : ∃ L, (x.q.es.take d).map lenE = L := ⟨_, rfl⟩
      have HSM := keep (show L.sum ≤ 3 * m from by rw [← hL]; exact HD.out.2.1)
      have HLL := keep (show L.length = d from by rw [← hL, List.length_map, List.length_take]; have := HD.out.1; omega)
      rw [hL] at HGI
      clear hgi hzs hyl hct hdl hR2 hL
      go_loopw [15, 16] (fun t i wr => ∃ j : Nat, j ≤ d ∧ i = .int .i64 j ∧ t = .int .i64 (((L.take j).sum : Nat) : Int) ∧ wr = w2) (fun _ i _ => d - (intOf i).toNat)
      case atStart => exact ⟨0, Nat.zero_le _, rfl, rfl, rfl⟩
      case round =>
        obtain ⟨i, hi, rfl, rfl, rfl⟩ := hrel
        by_cases hlt : i < d
        · obtain ⟨gg, o, y, rfl, hz12, hya, hyn, hyl⟩ := HGI.out i hlt
          obtain ⟨z0, z1, z2, z3, z4, z5, z6, z7, z8, z9, z10, z11⟩ := hz12
          rw [hya] at z2
          have hsu : (L.take (i + 1)).sum = (L.take i).sum + y.da.2.1 := by
            rw [List.take_add_one, hyn, List.sum_append]
            simp
          have hle : (L.take (i + 1)).sum ≤ L.sum := by
            have h1 := congrArg List.sum (List.take_append_drop (i + 1) L)
            rw [List.sum_append] at h1
            omega
          have HSU := keep hsu
          obtain ⟨sm, hsm⟩ : ∃ sm, (L.take i).sum = sm := ⟨_, rfl⟩
          obtain ⟨xl, hxl⟩ : ∃ xl, y.da.2.1 = xl := ⟨_, rfl⟩
          rw [hsm] at hsu HSU ⊢
          rw [hxl] at hsu HSU z11 hyl
          have hs1 : (sm : Int) + (xl : Int) ≤ 4000 := by have := HSM.out; have := HM.out; omega
          have hs0 : (0 : Int) ≤ (sm : Int) + (xl : Int) := by omega
          have hi0 : (0 : Int) ≤ (i : Int) := by omega
          have hi1 : (i : Int) ≤ 480 := by have := HDL.out; omega
          have hi2 : (i : Int) < (d : Int) := by omega
          have hx1 : ¬ (m : Int) - 28 < (xl : Int) := by have := HM.out; omega
          have hm2 : (0 : Int) ≤ (m : Int) - 28 := by omega
          clear z0 z1 z3 z4 z5 z6 z7 z8 z9 z10 hsu hle hsm hxl hyn hya hyl
          go_wp2
          go_roundw
          case rel => exact ⟨i + 1, by omega, by go_num, by rw [HSU.out]; congr 1, trivial⟩
          case measure => simp [intOf]; omega
        · obtain rfl : d = i := by omega
          rw [List.take_of_length_le (by have := HLL.out; omega)]
          obtain ⟨S, hS⟩ : ∃ S, L.sum = S := ⟨_, rfl⟩
          have hS1 : S ≤ 3 * m := by rw [← hS]; exact HSM.out
          rw [hS]
          have hs1 : (S : Int) ≤ 3 * (m : Int) := by omega
          have hs2 : decide ((S : Int) ≤ 3 * (m : Int)) = true := decide_eq_true hs1
          have hw3 : IntKind.i64.wrap (3 * (m : Int)) = 3 * (m : Int) := (wrap_in _ (by omega)).1
          have hw4 : wrap64 (3 * (m : Int)) = 3 * (m : Int) := (wrap_in _ (by omega)).2
          have hd3 := HD.out.2.2.1
          obtain ⟨nl, hnl⟩ : ∃ nl, x.q.es.length = nl := ⟨_, rfl⟩
          have hln := HD.out.2.2.2.1
          have hlg := HD.out.2.2.2.2
          rw [hnl] at hln hlg
          have KD := keep (fun W (hb : Below wr.heap.size wr W) => (show Calls Tryz.prog 9 #[.pointer (some ⟨b, 0, none⟩)] W fun e w' => e = .returned (.tuple #[.int .i64 x2.tm, .bool (decide (0 < d))]) ∧ ∃ k, w' = W.drewN k from by
            have h1 := xDue_any (H2.out.1.a.step hb)
            rw [HR.out.b, H2.out.2.2.2.2.2.1] at h1
            exact h1))
          have KNx := keep (fun W (hb : Below wr.heap.size wr W) => (show Calls Tryz.prog 11 #[.pointer (some ⟨b, 0, none⟩)] W fun e w' => e = .returned (.int .u32 ((a + (nl : Int)) % 4294967296)) ∧ W = w' from by
            have h1 := xNext_any (H2.out.1.a.step hb)
            have h2 : x2.q.nx = (a + (nl : Int)) % 4294967296 := by rw [H2.out.2.2.1]; show x.q.nx = _; rw [HR.out.sq.nx, hnl]
            rw [HR.out.b, h2] at h1
            exact h1))
          have KDi := keep (fun W => (show Calls Tryz.prog 10 #[.int .u32 a, .int .u32 ((a + (nl : Int)) % 4294967296)] W fun e w' => e = .returned (.int .u32 (nl : Int)) ∧ W = w' from by
            have h1 := Dist_any a ((a + (nl : Int)) % 4294967296) W
            rw [dist_of a _ nl (by omega) rfl] at h1
            exact h1))
          have HB2 := keep H2.out.1.be
          have hg1 : decide ((n : Int) ≤ (nl : Int)) = true := decide_eq_true (by omega)
          have hg2 : (n : Int) ≤ (nl : Int) := by omega
          have hn3 : (n : Int) ≤ 60 := by omega
          have hn4 : (0 : Int) ≤ (n : Int) := by omega
          clear hS hS1 hnl hlg hlt hi
          by_cases h0 : 0 < d
          · have h1 := hd3.1 h0
            have e1 : decide (0 < (d : Int)) = true := decide_eq_true (by omega)
            have e2 : decide (0 < (n : Int)) = true := decide_eq_true (by omega)
            have e3 : decide (0 < d) = true := decide_eq_true h0
            rw [e3] at KD
            have f1 : (0 : Int) < (d : Int) := by omega
            have f2 : (0 : Int) < (n : Int) := by omega
            clear hd3 h0 h1 e3
            go_wp2_with (first
              | (go_at_call 9; refine (KD.out _ (Below.refl _ _)).mono ?_; rintro e w7 ⟨rfl, k7, rfl⟩)
              | (go_at_call 11; refine (KNx.out _ (below_drewN (Below.refl _ _) k7)).mono ?_; rintro e w8 ⟨rfl, rfl⟩)
              | (go_at_call 10; refine (KDi.out _).mono ?_; rintro e w9 ⟨rfl, rfl⟩))
            all_goals go_ret
            all_goals exact ⟨rfl, below_drewN HB2.out k7⟩
          · have h1 : n = 0 := by
              rcases Nat.eq_zero_or_pos n with h2 | h2
              · exact h2
              · exact absurd (hd3.2 h2) h0
            obtain rfl : d = 0 := by omega
            subst h1
            have e3 : decide (0 < 0) = false := rfl
            rw [e3] at KD
            clear hd3 h0 e3
            go_wp2_with (first
              | (go_at_call 9; refine (KD.out _ (Below.refl _ _)).mono ?_; rintro e w7 ⟨rfl, k7, rfl⟩)
              | (go_at_call 11; refine (KNx.out _ (below_drewN (Below.refl _ _) k7)).mono ?_; rintro e w8 ⟨rfl, rfl⟩)
              | (go_at_call 10; refine (KDi.out _).mono ?_; rintro e w9 ⟨rfl, rfl⟩))
            all_goals go_ret
            all_goals exact ⟨rfl, below_drewN HB2.out k7⟩
end Go.Proofs.YtnlkdlnmffibhaaGreat
