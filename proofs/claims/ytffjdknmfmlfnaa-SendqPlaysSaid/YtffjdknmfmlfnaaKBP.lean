/- KBP of the stage: texts R10, joined. -/
import Derived.Test.YtffjdknmfmlfnaaKBN
import Derived.Test.YtffjdknmfmlfnaaKBG
import Derived.Test.YtffjdknmfmlfnaaKBO
set_option linter.unusedSimpArgs false
set_option linter.unusedVariables false
namespace Go.Proofs.Ytffjdknmfmlfnaa
section
open Go.RowKit Go.Maps

theorem rDn_eq : ∀ {rs : List RE} {j : Nat}, (∀ (t : Nat) r, t < j → rs[t]? = some r → 3 ≤ r.st) → j ≤ rs.length → (∀ r, rs[j]? = some r → ¬ 3 ≤ r.st) → rDn rs = j
  | [], j, _, hl, _ => by
    have : j = 0 := by simpa using hl
    subst this
    rfl
  | x :: r, 0, _, _, h => by
    have h1 := h x rfl
    unfold rDn
    rw [List.takeWhile_cons_of_neg (by simpa using h1)]
    rfl
  | x :: r, j + 1, hp, hl, h => by
    have h1 := hp 0 x (by omega) rfl
    have ih := rDn_eq (rs := r) (j := j) (fun t r' ht hr => hp (t + 1) r' (by omega) hr) (by simpa using hl) (fun r' hr => h r' hr)
    unfold rDn at ih ⊢
    rw [List.takeWhile_cons_of_pos (by simpa using h1), List.length_cons, ih]
theorem rLst_at (rs : List RE) : ∀ i, 0 ≤ rLst rs i → ∃ r, rs[(rLst rs i).toNat]? = some r
  | 0, h => by exact absurd h (by show ¬ (0 : Int) ≤ -1; omega)
  | i + 1, h => by
    cases hr : rs[i]? with
    | none =>
      have e : rLst rs (i + 1) = rLst rs i := by rw [rLst, hr]
      rw [e] at h ⊢
      exact rLst_at rs i h
    | some r =>
      by_cases h4 : r.st = 4
      · have e : rLst rs (i + 1) = (i : Int) := by rw [rLst, hr]; dsimp only; rw [if_pos h4]
        rw [e, Int.toNat_natCast]
        exact ⟨r, hr⟩
      · have e : rLst rs (i + 1) = rLst rs i := by rw [rLst, hr]; dsimp only; rw [if_neg h4]
        rw [e] at h ⊢
        exact rLst_at rs i h
theorem rSkp_len (rs : List RE) : ∀ i, (rSkp rs i).length ≤ i
  | 0 => Nat.le_refl _
  | i + 1 => by
    have ih := rSkp_len rs i
    rw [rSkp]
    split
    · split
      · exact Nat.le_trans (skL_len _ _ _) (by omega)
      · omega
    · omega
section
variable {w W W' : World} {b : Nat} {s : SL} {q : Rm}
/-- Between two rounds: what is to be skipped. -/
structure FoR (W : World) (l : List (Int × Int)) (A : Option Addr) (n c : Nat) (wr : World) : Prop where
  row : wr.ownsRow W.heap.size 101 2 (.slice A n c) n (flatF blC l)
  bl : Below W.heap.size W wr
theorem FoR.len {l : List (Int × Int)} {A : Option Addr} {n c : Nat} {wr : World} (h : FoR W l A n c wr) : n = l.length := by
  have h1 := h.row.1
  rw [flatF_len blC_len] at h1
  omega
theorem below_dN {B : Nat} {a x : World} (h : Below B a x) (n : Nat) : Below B a (x.drewN n) := ⟨h.os, h.tape, h.output, h.size, h.block⟩
theorem FoR.step {l : List (Int × Int)} {A : Option Addr} {n c : Nat} {wr w2 : World} (h : FoR W l A n c wr) (hb : Below wr.heap.size wr w2) : FoR W l A n c w2 := ⟨own_step h.row hb, up h.bl hb⟩
theorem FoR.put {l : List (Int × Int)} {ga n c : Nat} {wr : World} (h : FoR W l (some ⟨ga, 0, none⟩) n c wr) {t : Nat} {o s0 : Int} (ht : l[t]? = some (o, s0)) (s1 : Int) (hg : W.heap.size ≤ ga) : FoR W (l.set t (o, s1)) (some ⟨ga, 0, none⟩) n c (wr.setCell ⟨ga, t * 2 + 1, none⟩ (.int .u16 s1)) := by
  have hn := h.len
  have hl := (List.getElem?_eq_some_iff.1 ht).1
  have h9 := own_put h.row rfl (t * 2 + 1) (.int .u16 s1) (by rw [flatF_len blC_len]; omega)
  rw [flat_set ht] at h9
  exact ⟨h9, h.bl.setCell (p := ⟨ga, t * 2 + 1, none⟩) hg _⟩
set_option maxRecDepth 100000 in
set_option maxHeartbeats 16000000 in
theorem refForward15_any (h : RA w b s q W) : Calls Try.prog 26 #[.pointer (some ⟨b, 0, none⟩)] W fun e w' => ∃ (A : Option Addr) (n c : Nat), e = .returned (.tuple #[.int .u32 (rFwd q).1, .slice A n c, .bool (rFwd q).2.1]) ∧ Hid (FoR W (rFwd q).2.2 A n c w') := by
  have HA := keep h
  have hm := h.n
  have hle := h.le
  have KF := keep (fun W1 (hb : Below W.heap.size W W1) => refFloor15_any (h.step hb))
  clear h
  obtain ⟨s1, m, s3⟩ := s
  dsimp only at hm
  have HN := keep hm
  have hm1 : (m : Int) ≤ 1024 := by omega
  clear hm hle
  obtain ⟨i0, hi0, hz0, hz1, hz2⟩ := info_parts cSkip_info
  obtain ⟨R, hR⟩ : ∃ R, rFwd q = R := ⟨_, rfl⟩
  rw [hR]
  have HR := keep hR
  clear hR
  go_enter Try.func26, Try.ntmps26
  go_wp2
  go_loopw [5, 6] (fun la i wr => ∃ j : Nat, j ≤ m ∧ i = .int .i64 j ∧ la = .int .i64 (rLst q.rs j) ∧ wr = W ∧ Hid (∀ (t : Nat) r, t < j → q.rs[t]? = some r → 3 ≤ r.st)) (fun _ i _ => m - (intOf i).toNat)
  case atStart => exact ⟨0, Nat.zero_le _, rfl, rfl, rfl, keep fun t r ht => absurd ht (Nat.not_lt_zero t)⟩
  case round =>
    obtain ⟨j, hj, rfl, rfl, rfl, HP⟩ := hrel
    obtain ⟨c0, _, _, _, _, _⟩ := HA.out.b0
    dsimp only at c0
    by_cases hgo : ∃ r, q.rs[j]? = some r ∧ 3 ≤ r.st
    · obtain ⟨r, hr, h3⟩ := hgo
      have hlt : j < m := by have := (List.getElem?_eq_some_iff.1 hr).1; have := HN.out; omega
      obtain ⟨g, hg, _, _, hcs, _⟩ := HA.out.at_ hr
      dsimp only at hg
      subst hg
      have y13 := hcs 13 _ (by decide) rfl
      have hjI : (j : Int) < (m : Int) := by omega
      have hj0 : (0 : Int) ≤ (j : Int) := by omega
      have d3 : decide (3 ≤ r.st) = true := decide_eq_true h3
      have HP2 := keep (show ∀ (t : Nat) r, t < j + 1 → q.rs[t]? = some r → 3 ≤ r.st from fun t r' ht hr' => by
        by_cases htj : t < j
        · exact HP.out t r' htj hr'
        · obtain rfl : t = j := by omega
          rw [hr] at hr'
          injection hr' with hr'
          subst hr'
          exact h3)
      have hL : rLst q.rs (j + 1) = if r.st = 4 then (j : Int) else rLst q.rs j := by rw [rLst, hr]
      have HL := keep hL
      clear hcs hr hL
      by_cases h4 : r.st = 4
      · have e4 : (r.st == 4) = true := by simpa using h4
        have HL2 := keep (show rLst q.rs (j + 1) = (j : Int) from by rw [HL.out, if_pos h4])
        clear h4 h3
        go_wp2
        go_roundw
        case rel => exact ⟨j + 1, by omega, by go_num, by rw [HL2.out], by first | rfl | trivial, HP2⟩
        case measure => simp [intOf]; omega
      · have e4 : (r.st == 4) = false := by simpa using h4
        have HL2 := keep (show rLst q.rs (j + 1) = rLst q.rs j from by rw [HL.out, if_neg h4])
        clear h4 h3
        go_wp2
        go_roundw
        case rel => exact ⟨j + 1, by omega, by go_num, by rw [HL2.out], by first | rfl | trivial, HP2⟩
        case measure => simp [intOf]; omega
    · have HDN := keep (show rDn q.rs = j from rDn_eq HP.out (by have := HN.out; omega) (fun r hr h3 => hgo ⟨r, hr, h3⟩))
      have hll := rLst_lo q.rs j
      obtain ⟨la, hla⟩ : ∃ x, rLst q.rs j = x := ⟨_, rfl⟩
      have HLA := keep hla
      rw [hla] at hll ⊢
      have hla1 : la < (j : Int) := hll.2
      have hla0 : -1 ≤ la := hll.1
      have hjm : (j : Int) ≤ (m : Int) := by omega
      have HGO := keep hgo
      have HJM := keep hj
      clear hla hll hgo
      by_cases hjm2 : j < m
      · obtain ⟨r, hr⟩ : ∃ r, q.rs[j]? = some r := ⟨_, List.getElem?_eq_getElem (by have := HN.out; omega)⟩
        obtain ⟨g, hg, _, _, hcs, _⟩ := HA.out.at_ hr
        dsimp only at hg
        subst hg
        have y13 := hcs 13 _ (by decide) rfl
        have hjI : (j : Int) < (m : Int) := by omega
        have d3 : decide (3 ≤ r.st) = false := decide_eq_false fun h3 => HGO.out ⟨r, hr, h3⟩
        have d3' : ¬ 3 ≤ r.st := fun h3 => HGO.out ⟨r, hr, h3⟩
        clear hcs hr
        go_upto_region 7 with fail
        clear y13 d3 d3' hjI hjm2
        by_cases hneg : la < 0
        · have HF := keep (show R = (rFlr q, false, []) from by rw [← HR.out]; unfold rFwd; rw [HDN.out, HLA.out, if_pos hneg])
          go_wp2_with (go_at_call 30; refine (KF.out _ (Below.refl _ _)).mono ?_; rintro e w1 ⟨rfl, kf, rfl⟩)
          go_ret3
          rw [HF.out]
          exact ⟨none, 0, 0, rfl, keep ⟨World.ownsRow_nil _ _ _ _, ⟨rfl, rfl, rfl, Nat.le_refl _, fun _ _ => rfl⟩⟩⟩
        · obtain ⟨lt, hlt⟩ : ∃ lt : Nat, la = (lt : Int) := ⟨la.toNat, by omega⟩
          obtain ⟨rl, hrl⟩ : ∃ rl, q.rs[lt]? = some rl := by
            obtain ⟨rl, h1⟩ := rLst_at q.rs j (by rw [HLA.out]; omega)
            rw [HLA.out, hlt, Int.toNat_natCast] at h1
            exact ⟨rl, h1⟩
          have HF := keep (show R = (rl.c.a, true, rSkp q.rs (lt + 1)) from by rw [← HR.out]; unfold rFwd; rw [HDN.out, HLA.out, if_neg hneg, hlt, Int.toNat_natCast, hrl]; rfl)
          have hltm : (lt : Int) < (m : Int) := by omega
          have HLTM := keep (show lt < m by omega)
          have HRL := keep hrl
          have hlt0 : (0 : Int) ≤ (lt : Int) := by omega
          subst hlt
          clear hneg hrl hla0 hla1
          rename World => ws
          go_wp2
          go_loopw [7, 8, 9, 10] (fun o i _ _ wr => ∃ (k : Nat) (A : Option Addr) (n c : Nat), k ≤ lt + 1 ∧ i = .int .i64 k ∧ o = .slice A n c ∧ Hid (FoR ws (rSkp q.rs k) A n c wr)) (fun _ i _ _ _ => lt + 1 - (intOf i).toNat)
          case atStart => exact ⟨0, none, 0, 0, Nat.zero_le _, rfl, rfl, keep ⟨World.ownsRow_nil _ _ _ _, Below.refl _ _⟩⟩
          case round =>
            clear c0
            obtain ⟨k, A, n, c, hk, rfl, rfl, HI⟩ := hrel
            have HAk := keep (HA.out.step HI.out.bl)
            obtain ⟨c0, _, _, _, _, _⟩ := HAk.out.b0
            dsimp only at c0
            have hnk : n ≤ 1025 := by have h1 := HI.out.len; have h2 := rSkp_len q.rs k; have := HLTM.out; omega
            by_cases hkl : k ≤ lt
            · have hkI : (k : Int) ≤ (lt : Int) := by omega
              have hkm : (k : Int) < (m : Int) := by omega
              have hk0 : (0 : Int) ≤ (k : Int) := by omega
              obtain ⟨r, hr⟩ : ∃ r, q.rs[k]? = some r := ⟨_, List.getElem?_eq_getElem (by have := HN.out; omega)⟩
              obtain ⟨g2, hg2, _, hgb, hcs, _⟩ := HAk.out.at_ hr
              dsimp only at hg2
              (injection hg2 with hg2; injection hg2 with hg2; have hg3 := hg2.symm; clear hg2; subst hg3)
              have hblt : b < wr.heap.size := HAk.out.lt b (.inl rfl)
              have hglt : g2 < wr.heap.size := HAk.out.lt g2 (.inr rfl)
              have hzr := (HA.out.zv r (List.mem_of_getElem? hr)).1
              have HS := keep (show rSkp q.rs (k + 1) = if rSkB r = true then skL (rSkp q.rs k) r.c.ou r.c.si else rSkp q.rs k from by rw [rSkp, hr])
              have HKL := keep hkl
              have HBb := keep hblt
              have y0 := hcs 0 _ (by decide) rfl
              rw [Nat.add_zero] at y0
              have y1 := hcs 1 _ (by decide) rfl
              have y2 := hcs 2 _ (by decide) rfl
              have y3 := hcs 3 _ (by decide) rfl
              have y4 := hcs 4 _ (by decide) rfl
              have y5 := hcs 5 _ (by decide) rfl
              have y6 := hcs 6 _ (by decide) rfl
              have y7 := hcs 7 _ (by decide) rfl
              have y8 := hcs 8 _ (by decide) rfl
              have y9 := hcs 9 _ (by decide) rfl
              have y10 := hcs 10 _ (by decide) rfl
              have y11 := hcs 11 _ (by decide) rfl
              have y13 := hcs 13 _ (by decide) rfl
              obtain ⟨oo, hoo⟩ : ∃ oo, k * 19 = oo := ⟨_, rfl⟩
              rw [hoo] at y0 y1 y2 y3 y4 y5 y6 y7 y8 y9 y10 y11 y13
              have hfl := hzr.fl
              have hou := hzr.ou
              have hsi := hzr.si
              clear hcs hr hzr hk hkl
              obtain ⟨rc, mg, st, sn, la2, ms, un, tr⟩ := r
              obtain ⟨xk, xf, xa, xb, xo, xs, xp, ⟨x1, x2, x3⟩, ⟨x4, x5, x6⟩, ⟨x7, x8, x9⟩, ⟨x10, x11, x12⟩, ⟨x13, x14, x15⟩, xbl, xdu, xsk, xpr, xbs⟩ := rc
              dsimp only at y0 y1 y2 y3 y4 y5 y6 y7 y8 y9 y10 y11 y13 hfl hou hsi
              go_upto_region 14 with fail
              clear y0 y1 y2 y3 y4 y5 y6 y7 y8 y9 y10 y11
              have hbx := heap_alloc_new wr (.cells #[.int .u8 xk, .int .u8 xf, .int .u32 xa, .int .u32 xb, .int .u16 xo, .int .u16 xs, .int .u32 xp, .slice x1 x2 x3, .slice x4 x5 x6, .slice x7 x8 x9, .slice x10 x11 x12, .slice x13 x14 x15] 45)
              have HB1 := keep (below_lay wr (.cells #[.int .u8 xk, .int .u8 xf, .int .u32 xa, .int .u32 xb, .int .u16 xo, .int .u16 xs, .int .u32 xp, .slice x1 x2 x3, .slice x4 x5 x6, .slice x7 x8 x9, .slice x10 x11 x12, .slice x13 x14 x15] 45))
              have c1 := (HB1.out.cell (p := ⟨b, 0, none⟩) hblt).trans c0
              have z13 := (HB1.out.cell (p := ⟨g2, oo + 13, none⟩) hglt).trans y13
              have HI1 := keep (show FoR ws (rSkp q.rs k) A n c (wr.alloc (.cells #[.int .u8 xk, .int .u8 xf, .int .u32 xa, .int .u32 xb, .int .u16 xo, .int .u16 xs, .int .u32 xp, .slice x1 x2 x3, .slice x4 x5 x6, .slice x7 x8 x9, .slice x10 x11 x12, .slice x13 x14 x15] 45)) from ⟨own_step HI.out.row HB1.out, up HI.out.bl HB1.out⟩)
              obtain ⟨B, hB⟩ : ∃ B, wr.heap.size = B := ⟨_, rfl⟩
              rw [hB] at hbx ⊢
              have b1 := upd_cell hbx 1 _ rfl
              have b4 := upd_cell hbx 4 _ rfl
              have b5 := upd_cell hbx 5 _ rfl
              have HBX := keep hbx
              generalize wr.alloc _ = W1 at c1 z13 HI1 b1 b4 b5 HB1 HBX ⊢
              clear c0 y13 hbx hB hblt hglt HAk
              obtain ⟨fv, hfv⟩ : ∃ v, (xf / 4 % 2 == 1) = v := ⟨_, rfl⟩
              have hf0 : 0 ≤ xf := hfl.1
              have hf1 : xf < 256 := hfl.2
              by_cases h4 : st = 4
              · have e4 : (st == 4) = true := by simpa using h4
                have e4' : (st != 4) = false := by simpa using h4
                cases fv with
                | true =>
                  have HS2 := keep (show rSkp q.rs (k + 1) = rSkp q.rs k from by rw [HS.out, if_neg]; unfold rSkB; dsimp only; rw [hfv]; simp)
                  clear h4
                  go_wp2
                  go_roundw
                  case rel => exact ⟨k + 1, A, n, c, by have := HKL.out; omega, by go_num, rfl, by rw [HS2.out]; exact HI1⟩
                  case measure => have := HKL.out; simp [intOf]; omega
                | false =>
                  have HS2 := keep (show rSkp q.rs (k + 1) = skL (rSkp q.rs k) xo xs from by rw [HS.out, if_pos]; unfold rSkB; dsimp only; rw [hfv, e4]; rfl)
                  clear h4
                  obtain ⟨l, hl⟩ : ∃ l, rSkp q.rs k = l := ⟨_, rfl⟩
                  rw [hl] at HI1 HS2
                  have hnl := HI1.out.len
                  have HNL := keep hnl
                  clear hl hnl
                  have hnI : (n : Int) ≤ 1025 := by omega
                  have ho0 : 0 ≤ xo := hou.1
                  have ho1 : xo < 65536 := hou.2
                  have hs0 : 0 ≤ xs := hsi.1
                  have hs1 : xs < 65536 := hsi.2
                  clear hfl hou hsi hnk
                  go_wp2
                  clear c1 z13
                  go_loopw [10] (fun kk wr => ∃ t dn : Nat, t ≤ n ∧ kk = .int .i64 t ∧ wr = W1.drewN dn ∧ Hid (∀ y ∈ l.take t, y.1 ≠ xo)) (fun kk _ => n - (intOf kk).toNat)
                  case atStart => exact ⟨0, 0, Nat.zero_le _, rfl, rfl, keep fun y hy => by cases hy⟩
                  case round =>
                    obtain ⟨t, dn, ht, rfl, rfl, HT⟩ := hrel
                    by_cases htn : t < n
                    · have htI : (t : Int) < (n : Int) := by omega
                      have ht0 : (0 : Int) ≤ (t : Int) := by omega
                      obtain ⟨y, hy⟩ : ∃ y, l[t]? = some y := ⟨_, List.getElem?_eq_getElem (by have := HNL.out; omega)⟩
                      obtain ⟨ga, hA, hgal, hxc, hxf, cur, hcur⟩ := own_row_at HI1.out.row (fun h0 => by have h9 := flatF_len (f := blC) blC_len l; rw [h0] at h9; simp at h9; have := HNL.out; omega)
                      subst hA
                      have v0 := hxc (t * 2) _ ((flatF_get (f := blC) blC_len l t y hy 0 (by decide)).trans rfl)
                      have v1 := hxc (t * 2 + 1) _ ((flatF_get (f := blC) blC_len l t y hy 1 (by decide)).trans rfl)
                      have f1 := hxf (t * 2 + 1)
                      have HCR := keep hcur
                      have HY := keep hy
                      have HNE := keep (show ga ≠ B from fun e => cells_cells hcur (by rw [e]; exact HBX.out) (by decide) rfl)
                      have hneB : ga ≠ B := HNE.out
                      clear hxc hxf hcur hy ht
                      by_cases hyo : y.1 = xo
                      · have d1 : (y.1 == xo) = true := by simpa using hyo
                        have d2 : (y.1 != xo) = false := by simpa using hyo
                        have hnt : ((t : Int) == (n : Int)) = false := beq_false_of_ne (by omega)
                        have HSK := keep (show skL l xo xs = l.set t (xo, xs) from skL_at (t := y.2) HT.out (by rw [HY.out, ← hyo]))
                        have HPU := keep (fun (X : World) (hX : Below W1.heap.size W1 X) => (HI1.out.step hX).put (show l[t]? = some (xo, y.2) from by rw [HY.out, ← hyo]) xs hgal)
                        clear hgal hyo
                        go_wp2
                        go_quiet (fail)
                        go_wp2
                        go_roundw
                        case rel =>
                          refine ⟨k + 1, _, n, c, by have := HKL.out; omega, by go_num, rfl, keep ?_⟩
                          rw [HS2.out, HSK.out]
                          exact HPU.out _ (below_dN (Below.refl _ W1) _)
                        case measure => have := HKL.out; simp [intOf]; omega
                      · have d1 : (y.1 == xo) = false := by simpa using hyo
                        have d2 : (y.1 != xo) = true := by simpa using hyo
                        have HT2 := keep (show ∀ z ∈ l.take (t + 1), z.1 ≠ xo from fun z hz => by
                          rw [List.take_add_one, HY.out] at hz
                          rcases List.mem_append.1 hz with hz | hz
                          · exact HT.out z hz
                          · rw [List.mem_singleton.1 hz]; exact hyo)
                        clear hgal hyo
                        go_wp2
                        go_quiet (fail)
                        go_wp2
                        exact ⟨⟨t + 1, _, by omega, by go_num, rfl, HT2⟩, by simp [intOf]; omega⟩
                    · obtain rfl : n = t := by omega
                      have hnI2 : ¬ (n : Int) < (n : Int) := by omega
                      have hnn : ((n : Int) == (n : Int)) = true := by simp
                      have HSK := keep (show skL l xo xs = l ++ [(xo, xs)] from skL_none (by have h9 := HT.out; rwa [HNL.out, List.take_length] at h9))
                      go_wp2
                      go_quiet (fail)
                      go_upto_region 19 with fail
                      obtain ⟨X, hX⟩ : ∃ X, W1.drewN (dn + nq) = X := ⟨_, rfl⟩
                      rw [hX]
                      have HIX := keep (show FoR ws l A n c X from by rw [← hX]; exact HI1.out.step (below_dN (Below.refl _ W1) _))
                      have HBX2 := keep (show X.heap[B]? = some (.cells #[.int .u8 xk, .int .u8 xf, .int .u32 xa, .int .u32 xb, .int .u16 xo, .int .u16 xs, .int .u32 xp, .slice x1 x2 x3, .slice x4 x5 x6, .slice x7 x8 x9, .slice x10 x11 x12, .slice x13 x14 x15] 45 (0, 0)) from by rw [← hX]; exact HBX.out)
                      have hMX := keep (show n + 1 ≤ maxLen ∧ (n + 1) * i0.bytes ≤ 140737488355328 ∧ ws.heap.size ≤ X.heap.size from ⟨by unfold maxLen; omega, by rw [hz2]; omega, HIX.out.bl.size⟩)
                      have b4x := upd_cell HBX2.out 4 _ rfl
                      have hbX : B < X.heap.size := (Array.getElem?_eq_some_iff.1 HBX2.out).1
                      have HBL := keep hbX
                      clear hX b1 b4 b5
                      go_upto_region 20 with (at_builtin; refine wpl_appendK (by decide) rfl (.tmp 94) (.tmp 98) 41 rfl ws.heap.size 101 i0 _ Try.underlying41 hi0 hz0 hz1 rfl _ n (flatF blC l) rfl (HIX.out.row.alloc _) (some ⟨X.heap.size, 0, none⟩) 1 1 [.int .u16 xo, .int .u16 0] rfl rfl (SR.row (heap_alloc_new X _)) (blC_one (xo, 0)) hMX.out.1 hMX.out.2.1 (Nat.le_trans hMX.out.2.2 (below_lay X _).size) ?_; intro A5 c5 w5 ho5 hb5 hg5; have HB5 := keep hb5; clear hb5 b4x)
                      have hp5 : Part (fun i => (Value.slice A n c).ownBlock = some i) X w5 := (Part.of_below (fun i => (Value.slice A n c).ownBlock = some i) (below_lay X _)).trans (Part.of_grown hg5.out fun k hk => hk) fun i hi => .inl hi
                      have hBn : ¬ (Value.slice A n c).ownBlock = some B := fun e => by obtain ⟨cur, fr, hcur⟩ := own_cells HIX.out.row e; exact cells_cells hcur HBX2.out (by decide) rfl
                      have b5x := upd_cell ((hp5.block B HBL.out hBn).trans HBX2.out) 5 _ rfl
                      have hrow : w5.ownsRow ws.heap.size 101 2 (.slice A5 (n + 1) c5) (n + 1) (flatF blC (l ++ [(xo, 0)])) := by
                        have h9 := ho5.out
                        rw [flatF_append]
                        exact h9
                      have HF5 := keep (show FoR ws (l ++ [(xo, 0)]) A5 (n + 1) c5 w5 from ⟨hrow, (HIX.out.bl.trans ((below_lay X _).mono hMX.out.2.2)).trans HB5.out⟩)
                      have hget : (l ++ [(xo, (0 : Int))])[n]? = some (xo, 0) := by rw [List.getElem?_append_right (by have := HNL.out; omega), show n - l.length = 0 by have := HNL.out; omega]; rfl
                      obtain ⟨ga, hA, hgal, hxc, hxf, _, _⟩ := own_row_at hrow (fun h0 => by have h9 := flatF_len (f := blC) blC_len (l ++ [(xo, (0 : Int))]); rw [h0] at h9; simp at h9)
                      subst hA
                      have v1 := hxc (n * 2 + 1) _ ((flatF_get (f := blC) blC_len _ n _ hget 1 (by decide)).trans rfl)
                      have f1 := hxf (n * 2 + 1)
                      have HPU := keep (HF5.out.put hget xs hgal)
                      have HEQ := keep (show (l ++ [(xo, (0 : Int))]).set n (xo, xs) = l ++ [(xo, xs)] from by rw [List.set_append_right _ _ (by have := HNL.out; omega), show n - l.length = 0 by have := HNL.out; omega]; rfl)
                      clear ho5 hg5 hp5 hBn hrow hget hxc hxf hgal hbX
                      go_wp2
                      go_roundw
                      case rel =>
                        refine ⟨k + 1, _, n + 1, c5, by have := HKL.out; omega, by go_num, rfl, keep ?_⟩
                        rw [HS2.out, HSK.out, ← HEQ.out]
                        exact HPU.out
                      case measure => have := HKL.out; simp [intOf]; omega
              · have e4 : (st == 4) = false := by simpa using h4
                have e4' : (st != 4) = true := by simpa using h4
                have HS2 := keep (show rSkp q.rs (k + 1) = rSkp q.rs k from by rw [HS.out, if_neg]; unfold rSkB; dsimp only; rw [e4]; simp)
                clear h4
                go_wp2
                go_roundw
                case rel => exact ⟨k + 1, A, n, c, by have := HKL.out; omega, by go_num, rfl, by rw [HS2.out]; exact HI1⟩
                case measure => have := HKL.out; simp [intOf]; omega
            · obtain rfl : k = lt + 1 := by omega
              have hnkl : ¬ ((lt : Int) + 1 ≤ (lt : Int)) := by omega
              obtain ⟨g2, hg2, _, _, hcs, _⟩ := HAk.out.at_ HRL.out
              dsimp only at hg2
              (injection hg2 with hg2; injection hg2 with hg2; have hg3 := hg2.symm; clear hg2; subst hg3)
              have y2 := hcs 2 _ (by decide) rfl
              clear hcs hkl hk
              go_wp2
              go_ret3
              rw [HF.out]
              exact ⟨A, n, c, rfl, HI⟩
      · obtain rfl : m = j := by omega
        have hjI : ¬ (m : Int) < (m : Int) := by omega
        go_upto_region 7 with fail
        clear hjI hjm2
        by_cases hneg : la < 0
        · have HF := keep (show R = (rFlr q, false, []) from by rw [← HR.out]; unfold rFwd; rw [HDN.out, HLA.out, if_pos hneg])
          go_wp2_with (go_at_call 30; refine (KF.out _ (Below.refl _ _)).mono ?_; rintro e w1 ⟨rfl, kf, rfl⟩)
          go_ret3
          rw [HF.out]
          exact ⟨none, 0, 0, rfl, keep ⟨World.ownsRow_nil _ _ _ _, ⟨rfl, rfl, rfl, Nat.le_refl _, fun _ _ => rfl⟩⟩⟩
        · obtain ⟨lt, hlt⟩ : ∃ lt : Nat, la = (lt : Int) := ⟨la.toNat, by omega⟩
          obtain ⟨rl, hrl⟩ : ∃ rl, q.rs[lt]? = some rl := by
            obtain ⟨rl, h1⟩ := rLst_at q.rs m (by rw [HLA.out]; omega)
            rw [HLA.out, hlt, Int.toNat_natCast] at h1
            exact ⟨rl, h1⟩
          have HF := keep (show R = (rl.c.a, true, rSkp q.rs (lt + 1)) from by rw [← HR.out]; unfold rFwd; rw [HDN.out, HLA.out, if_neg hneg, hlt, Int.toNat_natCast, hrl]; rfl)
          have hltm : (lt : Int) < (m : Int) := by omega
          have HLTM := keep (show lt < m by omega)
          have HRL := keep hrl
          have hlt0 : (0 : Int) ≤ (lt : Int) := by omega
          subst hlt
          clear hneg hrl hla0 hla1
          rename World => ws
          go_wp2
          go_loopw [7, 8, 9, 10] (fun o i _ _ wr => ∃ (k : Nat) (A : Option Addr) (n c : Nat), k ≤ lt + 1 ∧ i = .int .i64 k ∧ o = .slice A n c ∧ Hid (FoR ws (rSkp q.rs k) A n c wr)) (fun _ i _ _ _ => lt + 1 - (intOf i).toNat)
          case atStart => exact ⟨0, none, 0, 0, Nat.zero_le _, rfl, rfl, keep ⟨World.ownsRow_nil _ _ _ _, Below.refl _ _⟩⟩
          case round =>
            clear c0
            obtain ⟨k, A, n, c, hk, rfl, rfl, HI⟩ := hrel
            have HAk := keep (HA.out.step HI.out.bl)
            obtain ⟨c0, _, _, _, _, _⟩ := HAk.out.b0
            dsimp only at c0
            have hnk : n ≤ 1025 := by have h1 := HI.out.len; have h2 := rSkp_len q.rs k; have := HLTM.out; omega
            by_cases hkl : k ≤ lt
            · have hkI : (k : Int) ≤ (lt : Int) := by omega
              have hkm : (k : Int) < (m : Int) := by omega
              have hk0 : (0 : Int) ≤ (k : Int) := by omega
              obtain ⟨r, hr⟩ : ∃ r, q.rs[k]? = some r := ⟨_, List.getElem?_eq_getElem (by have := HN.out; omega)⟩
              obtain ⟨g2, hg2, _, hgb, hcs, _⟩ := HAk.out.at_ hr
              dsimp only at hg2
              subst hg2
              have hblt : b < wr.heap.size := HAk.out.lt b (.inl rfl)
              have hglt : g2 < wr.heap.size := HAk.out.lt g2 (.inr rfl)
              have hzr := (HA.out.zv r (List.mem_of_getElem? hr)).1
              have HS := keep (show rSkp q.rs (k + 1) = if rSkB r = true then skL (rSkp q.rs k) r.c.ou r.c.si else rSkp q.rs k from by rw [rSkp, hr])
              have HKL := keep hkl
              have HBb := keep hblt
              have y0 := hcs 0 _ (by decide) rfl
              rw [Nat.add_zero] at y0
              have y1 := hcs 1 _ (by decide) rfl
              have y2 := hcs 2 _ (by decide) rfl
              have y3 := hcs 3 _ (by decide) rfl
              have y4 := hcs 4 _ (by decide) rfl
              have y5 := hcs 5 _ (by decide) rfl
              have y6 := hcs 6 _ (by decide) rfl
              have y7 := hcs 7 _ (by decide) rfl
              have y8 := hcs 8 _ (by decide) rfl
              have y9 := hcs 9 _ (by decide) rfl
              have y10 := hcs 10 _ (by decide) rfl
              have y11 := hcs 11 _ (by decide) rfl
              have y13 := hcs 13 _ (by decide) rfl
              obtain ⟨oo, hoo⟩ : ∃ oo, k * 19 = oo := ⟨_, rfl⟩
              rw [hoo] at y0 y1 y2 y3 y4 y5 y6 y7 y8 y9 y10 y11 y13
              have hfl := hzr.fl
              have hou := hzr.ou
              have hsi := hzr.si
              clear hcs hr hzr hk hkl
              obtain ⟨rc, mg, st, sn, la2, ms, un, tr⟩ := r
              obtain ⟨xk, xf, xa, xb, xo, xs, xp, ⟨x1, x2, x3⟩, ⟨x4, x5, x6⟩, ⟨x7, x8, x9⟩, ⟨x10, x11, x12⟩, ⟨x13, x14, x15⟩, xbl, xdu, xsk, xpr, xbs⟩ := rc
              dsimp only at y0 y1 y2 y3 y4 y5 y6 y7 y8 y9 y10 y11 y13 hfl hou hsi
              go_upto_region 14 with fail
              clear y0 y1 y2 y3 y4 y5 y6 y7 y8 y9 y10 y11
              have hbx := heap_alloc_new wr (.cells #[.int .u8 xk, .int .u8 xf, .int .u32 xa, .int .u32 xb, .int .u16 xo, .int .u16 xs, .int .u32 xp, .slice x1 x2 x3, .slice x4 x5 x6, .slice x7 x8 x9, .slice x10 x11 x12, .slice x13 x14 x15] 45)
              have HB1 := keep (below_lay wr (.cells #[.int .u8 xk, .int .u8 xf, .int .u32 xa, .int .u32 xb, .int .u16 xo, .int .u16 xs, .int .u32 xp, .slice x1 x2 x3, .slice x4 x5 x6, .slice x7 x8 x9, .slice x10 x11 x12, .slice x13 x14 x15] 45))
              have c1 := (HB1.out.cell (p := ⟨b, 0, none⟩) hblt).trans c0
              have z13 := (HB1.out.cell (p := ⟨g2, oo + 13, none⟩) hglt).trans y13
              have HI1 := keep (show FoR ws (rSkp q.rs k) A n c (wr.alloc (.cells #[.int .u8 xk, .int .u8 xf, .int .u32 xa, .int .u32 xb, .int .u16 xo, .int .u16 xs, .int .u32 xp, .slice x1 x2 x3, .slice x4 x5 x6, .slice x7 x8 x9, .slice x10 x11 x12, .slice x13 x14 x15] 45)) from ⟨own_step HI.out.row HB1.out, up HI.out.bl HB1.out⟩)
              obtain ⟨B, hB⟩ : ∃ B, wr.heap.size = B := ⟨_, rfl⟩
              rw [hB] at hbx ⊢
              have b1 := upd_cell hbx 1 _ rfl
              have b4 := upd_cell hbx 4 _ rfl
              have b5 := upd_cell hbx 5 _ rfl
              have HBX := keep hbx
              generalize wr.alloc _ = W1 at c1 z13 HI1 b1 b4 b5 HB1 HBX ⊢
              clear c0 y13 hbx hB hblt hglt HAk
              obtain ⟨fv, hfv⟩ : ∃ v, (xf / 4 % 2 == 1) = v := ⟨_, rfl⟩
              have hf0 : 0 ≤ xf := hfl.1
              have hf1 : xf < 256 := hfl.2
              by_cases h4 : st = 4
              · have e4 : (st == 4) = true := by simpa using h4
                have e4' : (st != 4) = false := by simpa using h4
                cases fv with
                | true =>
                  have HS2 := keep (show rSkp q.rs (k + 1) = rSkp q.rs k from by rw [HS.out, if_neg]; unfold rSkB; dsimp only; rw [hfv]; simp)
                  clear h4
                  go_wp2
                  go_roundw
                  case rel => exact ⟨k + 1, A, n, c, by have := HKL.out; omega, by go_num, rfl, by rw [HS2.out]; exact HI1⟩
                  case measure => have := HKL.out; simp [intOf]; omega
                | false =>
                  have HS2 := keep (show rSkp q.rs (k + 1) = skL (rSkp q.rs k) xo xs from by rw [HS.out, if_pos]; unfold rSkB; dsimp only; rw [hfv, e4]; rfl)
                  clear h4
                  obtain ⟨l, hl⟩ : ∃ l, rSkp q.rs k = l := ⟨_, rfl⟩
                  rw [hl] at HI1 HS2
                  have hnl := HI1.out.len
                  have HNL := keep hnl
                  clear hl hnl
                  have hnI : (n : Int) ≤ 1025 := by omega
                  have ho0 : 0 ≤ xo := hou.1
                  have ho1 : xo < 65536 := hou.2
                  have hs0 : 0 ≤ xs := hsi.1
                  have hs1 : xs < 65536 := hsi.2
                  clear hfl hou hsi hnk
                  go_wp2
                  clear c1 z13
                  go_loopw [10] (fun kk wr => ∃ t dn : Nat, t ≤ n ∧ kk = .int .i64 t ∧ wr = W1.drewN dn ∧ Hid (∀ y ∈ l.take t, y.1 ≠ xo)) (fun kk _ => n - (intOf kk).toNat)
                  case atStart => exact ⟨0, 0, Nat.zero_le _, rfl, rfl, keep fun y hy => by cases hy⟩
                  case round =>
                    obtain ⟨t, dn, ht, rfl, rfl, HT⟩ := hrel
                    by_cases htn : t < n
                    · have htI : (t : Int) < (n : Int) := by omega
                      have ht0 : (0 : Int) ≤ (t : Int) := by omega
                      obtain ⟨y, hy⟩ : ∃ y, l[t]? = some y := ⟨_, List.getElem?_eq_getElem (by have := HNL.out; omega)⟩
                      obtain ⟨ga, hA, hgal, hxc, hxf, cur, hcur⟩ := own_row_at HI1.out.row (fun h0 => by have h9 := flatF_len (f := blC) blC_len l; rw [h0] at h9; simp at h9; have := HNL.out; omega)
                      subst hA
                      have v0 := hxc (t * 2) _ ((flatF_get (f := blC) blC_len l t y hy 0 (by decide)).trans rfl)
                      have v1 := hxc (t * 2 + 1) _ ((flatF_get (f := blC) blC_len l t y hy 1 (by decide)).trans rfl)
                      have f1 := hxf (t * 2 + 1)
                      have HCR := keep hcur
                      have HY := keep hy
                      have HNE := keep (show ga ≠ B from fun e => cells_cells hcur (by rw [e]; exact HBX.out) (by decide) rfl)
                      have hneB : ga ≠ B := HNE.out
                      clear hxc hxf hcur hy ht
                      by_cases hyo : y.1 = xo
                      · have d1 : (y.1 == xo) = true := by simpa using hyo
                        have d2 : (y.1 != xo) = false := by simpa using hyo
                        have hnt : ((t : Int) == (n : Int)) = false := beq_false_of_ne (by omega)
                        have HSK := keep (show skL l xo xs = l.set t (xo, xs) from skL_at (t := y.2) HT.out (by rw [HY.out, ← hyo]))
                        have HPU := keep (fun (X : World) (hX : Below W1.heap.size W1 X) => (HI1.out.step hX).put (show l[t]? = some (xo, y.2) from by rw [HY.out, ← hyo]) xs hgal)
                        clear hgal hyo
                        go_wp2
                        go_quiet (fail)
                        go_wp2
                        go_roundw
                        case rel =>
                          refine ⟨k + 1, _, n, c, by have := HKL.out; omega, by go_num, rfl, keep ?_⟩
                          rw [HS2.out, HSK.out]
                          exact HPU.out _ (below_dN (Below.refl _ W1) _)
                        case measure => have := HKL.out; simp [intOf]; omega
                      · have d1 : (y.1 == xo) = false := by simpa using hyo
                        have d2 : (y.1 != xo) = true := by simpa using hyo
                        have HT2 := keep (show ∀ z ∈ l.take (t + 1), z.1 ≠ xo from fun z hz => by
                          rw [List.take_add_one, HY.out] at hz
                          rcases List.mem_append.1 hz with hz | hz
                          · exact HT.out z hz
                          · rw [List.mem_singleton.1 hz]; exact hyo)
                        clear hgal hyo
                        go_wp2
                        go_quiet (fail)
                        go_wp2
                        exact ⟨⟨t + 1, _, by omega, by go_num, rfl, HT2⟩, by simp [intOf]; omega⟩
                    · obtain rfl : n = t := by omega
                      have hnI2 : ¬ (n : Int) < (n : Int) := by omega
                      have hnn : ((n : Int) == (n : Int)) = true := by simp
                      have HSK := keep (show skL l xo xs = l ++ [(xo, xs)] from skL_none (by have h9 := HT.out; rwa [HNL.out, List.take_length] at h9))
                      go_wp2
                      go_quiet (fail)
                      go_upto_region 19 with fail
                      obtain ⟨X, hX⟩ : ∃ X, W1.drewN (dn + nq) = X := ⟨_, rfl⟩
                      rw [hX]
                      have HIX := keep (show FoR ws l A n c X from by rw [← hX]; exact HI1.out.step (below_dN (Below.refl _ W1) _))
                      have HBX2 := keep (show X.heap[B]? = some (.cells #[.int .u8 xk, .int .u8 xf, .int .u32 xa, .int .u32 xb, .int .u16 xo, .int .u16 xs, .int .u32 xp, .slice x1 x2 x3, .slice x4 x5 x6, .slice x7 x8 x9, .slice x10 x11 x12, .slice x13 x14 x15] 45 (0, 0)) from by rw [← hX]; exact HBX.out)
                      have hMX := keep (show n + 1 ≤ maxLen ∧ (n + 1) * i0.bytes ≤ 140737488355328 ∧ ws.heap.size ≤ X.heap.size from ⟨by unfold maxLen; omega, by rw [hz2]; omega, HIX.out.bl.size⟩)
                      have b4x := upd_cell HBX2.out 4 _ rfl
                      have hbX : B < X.heap.size := (Array.getElem?_eq_some_iff.1 HBX2.out).1
                      have HBL := keep hbX
                      clear hX b1 b4 b5
                      go_upto_region 20 with (at_builtin; refine wpl_appendK (by decide) rfl (.tmp 94) (.tmp 98) 41 rfl ws.heap.size 101 i0 _ Try.underlying41 hi0 hz0 hz1 rfl _ n (flatF blC l) rfl (HIX.out.row.alloc _) (some ⟨X.heap.size, 0, none⟩) 1 1 [.int .u16 xo, .int .u16 0] rfl rfl (SR.row (heap_alloc_new X _)) (blC_one (xo, 0)) hMX.out.1 hMX.out.2.1 (Nat.le_trans hMX.out.2.2 (below_lay X _).size) ?_; intro A5 c5 w5 ho5 hb5 hg5; have HB5 := keep hb5; clear hb5 b4x)
                      have hp5 : Part (fun i => (Value.slice A n c).ownBlock = some i) X w5 := (Part.of_below (fun i => (Value.slice A n c).ownBlock = some i) (below_lay X _)).trans (Part.of_grown hg5.out fun k hk => hk) fun i hi => .inl hi
                      have hBn : ¬ (Value.slice A n c).ownBlock = some B := fun e => by obtain ⟨cur, fr, hcur⟩ := own_cells HIX.out.row e; exact cells_cells hcur HBX2.out (by decide) rfl
                      have b5x := upd_cell ((hp5.block B HBL.out hBn).trans HBX2.out) 5 _ rfl
                      have hrow : w5.ownsRow ws.heap.size 101 2 (.slice A5 (n + 1) c5) (n + 1) (flatF blC (l ++ [(xo, 0)])) := by
                        have h9 := ho5.out
                        rw [flatF_append]
                        exact h9
                      have HF5 := keep (show FoR ws (l ++ [(xo, 0)]) A5 (n + 1) c5 w5 from ⟨hrow, (HIX.out.bl.trans ((below_lay X _).mono hMX.out.2.2)).trans HB5.out⟩)
                      have hget : (l ++ [(xo, (0 : Int))])[n]? = some (xo, 0) := by rw [List.getElem?_append_right (by have := HNL.out; omega), show n - l.length = 0 by have := HNL.out; omega]; rfl
                      obtain ⟨ga, hA, hgal, hxc, hxf, _, _⟩ := own_row_at hrow (fun h0 => by have h9 := flatF_len (f := blC) blC_len (l ++ [(xo, (0 : Int))]); rw [h0] at h9; simp at h9)
                      subst hA
                      have v1 := hxc (n * 2 + 1) _ ((flatF_get (f := blC) blC_len _ n _ hget 1 (by decide)).trans rfl)
                      have f1 := hxf (n * 2 + 1)
                      have HPU := keep (HF5.out.put hget xs hgal)
                      have HEQ := keep (show (l ++ [(xo, (0 : Int))]).set n (xo, xs) = l ++ [(xo, xs)] from by rw [List.set_append_right _ _ (by have := HNL.out; omega), show n - l.length = 0 by have := HNL.out; omega]; rfl)
                      clear ho5 hg5 hp5 hBn hrow hget hxc hxf hgal hbX
                      go_wp2
                      go_roundw
                      case rel =>
                        refine ⟨k + 1, _, n + 1, c5, by have := HKL.out; omega, by go_num, rfl, keep ?_⟩
                        rw [HS2.out, HSK.out, ← HEQ.out]
                        exact HPU.out
                      case measure => have := HKL.out; simp [intOf]; omega
              · have e4 : (st == 4) = false := by simpa using h4
                have e4' : (st != 4) = true := by simpa using h4
                have HS2 := keep (show rSkp q.rs (k + 1) = rSkp q.rs k from by rw [HS.out, if_neg]; unfold rSkB; dsimp only; rw [e4]; simp)
                clear h4
                go_wp2
                go_roundw
                case rel => exact ⟨k + 1, A, n, c, by have := HKL.out; omega, by go_num, rfl, by rw [HS2.out]; exact HI1⟩
                case measure => have := HKL.out; simp [intOf]; omega
            · obtain rfl : k = lt + 1 := by omega
              have hnkl : ¬ ((lt : Int) + 1 ≤ (lt : Int)) := by omega
              obtain ⟨g2, hg2, _, _, hcs, _⟩ := HAk.out.at_ HRL.out
              dsimp only at hg2
              subst hg2
              have y2 := hcs 2 _ (by decide) rfl
              clear hcs hkl hk
              go_wp2
              go_ret3
              rw [HF.out]
              exact ⟨A, n, c, rfl, HI⟩
end
end
end Go.Proofs.Ytffjdknmfmlfnaa
