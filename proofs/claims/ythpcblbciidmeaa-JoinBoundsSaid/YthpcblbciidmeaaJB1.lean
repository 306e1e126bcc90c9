/- The walk of the law JoinBounds. -/
import Derived.Test.YthpcblbciidmeaaJOp
import Derived.Test.YthpcblbciidmeaaJZ
namespace Go.Proofs.Ythpcblbciidmeaa
open Go.RowKit Go.Maps
set_option linter.unusedVariables false

theorem Add_genB {w0 w : World} {G : Gh} {j : Jn} (h : JB w0 w G j) {x : CX} (hx : CV w x) :
    Calls Try.prog 10 #[.pointer (some ⟨G.b, 0, none⟩), .agg x.cells.toArray] w fun e w' => ∃ r j' G', e = .returned (.int .i64 r) ∧ AddR j x.c0 r j' ∧ JB w0 w' G' j' ∧ Later w G w' G' := by
  refine (Add_any h.jg.ja h.jg.good h.jg.ends hx).mono ?_
  intro e w' hA
  obtain ⟨r, j', G', he, hr, hj, hl⟩ := hA.good hx h.jg.good
  exact ⟨r, j', G', he, hr, h.next hl hj, hl⟩
theorem Forward_JBB {w0 w : World} {G : Gh} {j : Jn} (h : JB w0 w G j) {n : Int} (n0 : 0 ≤ n) (n1 : n < 4294967296) {A : Option Addr} {m c : Nat} {l : List (Int × Int)} (hs : KS w A m c l) (hA : 0 < m → ∀ a, A = some a → ¬ G.O a.block) (hm : m ≤ 1000000) :
    Calls Try.prog 11 #[.pointer (some ⟨G.b, 0, none⟩), .int .u32 n, .slice A m c] w fun e w' => e = .returned (.tuple #[]) ∧ ∃ G', JB w0 w' G' (fwdJ j n l) ∧ Later w G w' G' := by
  refine (Forward_any h.jg n0 n1 hs hA hm).mono ?_
  rintro e w' ⟨rfl, G', hj, hl⟩
  exact ⟨rfl, G', h.next hl hj, hl⟩
theorem KS.step {w w' : World} {A : Option Addr} {n c : Nat} {l : List (Int × Int)} (h : KS w A n c l) (hb : Below w.heap.size w w') : KS w' A n c l := ⟨h.1, h.2.1, h.2.2.1.step hb, h.2.2.2⟩
theorem OV.step {w w' : World} {x : OX} (h : OV w x) (hb : Below w.heap.size w w') : OV w' x := ⟨h.c.step hb, h.n, h.ks.step hb⟩
theorem OS.step {w w' : World} {A : Option Addr} {n c : Nat} {l : List OX} (h : OS w A n c l) (hb : Below w.heap.size w w') : OS w' A n c l := ⟨h.1, h.2.1, h.2.2.1.step hb, fun x hx => (h.2.2.2 x hx).step hb⟩
theorem OS.at_ {w : World} {A : Option Addr} {n c : Nat} {l : List OX} (h : OS w A n c l) {j : Nat} (hj : j < n) :
    ∃ b o x, A = some ⟨b, o, none⟩ ∧ b < w.heap.size ∧ w.cell? ⟨b, o + j * 15, none⟩ = some (.int .i64 x.wh) ∧ At12 w b (o + j * 15 + 1) x.c ∧ w.cell? ⟨b, o + j * 15 + 13, none⟩ = some (.int .u32 x.n) ∧ w.cell? ⟨b, o + j * 15 + 14, none⟩ = some (.slice x.sk.1 x.sk.2.1 x.sk.2.2) ∧ OV w x := by
  obtain ⟨h1, _, h3, h4⟩ := h
  have hl : j < l.length := by omega
  have hg := flatF_get (f := OX.cells) OX.len l j l[j] (List.getElem?_eq_getElem hl)
  obtain ⟨b, o, e, hlt, hc⟩ := h3 (by intro h0; have := flatF_len (f := OX.cells) OX.len l; rw [h0] at this; simp at this; omega)
  have key : ∀ i v, i < 15 → (l[j]).cells[i]? = some v → w.cell? ⟨b, o + j * 15 + i, none⟩ = some v := fun i v hi hv => by
    rw [Nat.add_assoc]
    exact hc _ _ ((hg i hi).trans hv)
  have key1 : ∀ i v, i < 12 → (l[j]).c.cells[i]? = some v → w.cell? ⟨b, o + j * 15 + 1 + i, none⟩ = some v := fun i v hi hv => by
    rw [Nat.add_assoc (o + j * 15) 1 i]
    refine key (1 + i) v (by omega) ?_
    rw [Nat.add_comm 1 i]
    show ((l[j]).c.cells ++ _)[i]? = some v
    rw [List.getElem?_append_left (by rw [CX.len]; exact hi)]
    exact hv
  exact ⟨b, o, l[j], e, hlt, key 0 _ (by decide) rfl, ⟨key1 0 _ (by decide) rfl, key1 1 _ (by decide) rfl, key1 2 _ (by decide) rfl, key1 3 _ (by decide) rfl, key1 4 _ (by decide) rfl, key1 5 _ (by decide) rfl, key1 6 _ (by decide) rfl, key1 7 _ (by decide) rfl, key1 8 _ (by decide) rfl, key1 9 _ (by decide) rfl, key1 10 _ (by decide) rfl, key1 11 _ (by decide) rfl⟩, key 13 _ (by decide) rfl, key 14 _ (by decide) rfl, h4 _ (List.getElem_mem hl)⟩
/-- Between two rounds. -/
structure BK (w0 : World) (b i : Nat) (G : Gh) (j : Jn) (C T : Nat) (wr : World) : Prop where
  jb : JB w0 wr G j
  b : G.b = b
  le : T + j.oct ≤ C
  cb : C ≤ i * 65536
theorem BK.oct {w0 wr : World} {b i : Nat} {G : Gh} {j : Jn} {C T : Nat} (h : BK w0 b i G j C T wr) : j.oct ≤ 65536 := h.jb.jg.good.le
theorem Reset_JB {w0 w : World} {G : Gh} {j : Jn} (h : JB w0 w G j) {x : Int} (x0 : 0 ≤ x) (x1 : x < 65536) :
    Calls Try.prog 12 #[.pointer (some ⟨G.b, 0, none⟩), .int .u16 x] w fun e w' => e = .returned (.tuple #[]) ∧ ∃ G', JB w0 w' G' (resetJ j x) ∧ Later w G w' G' := by
  refine (Reset_any h.jg x0 x1).mono ?_
  rintro e w' ⟨rfl, G', hj, hl⟩
  exact ⟨rfl, G', h.next hl hj, hl⟩
theorem joinBounds_let (x : Int) (A : Option Addr) (m c : Nat) (w : World) (h : 200 < (m : Int)) :
    Calls Try.prog 3 #[.int .i64 x, .slice A m c] w fun e w' => e = .returned (.bool true) ∧ Below w.heap.size w w' := by
  have K0 := keep (fun w => awake_any w)
  go_enter Try.func3, Try.ntmps3
  go_wp2_with (go_at_call 8; refine (K0.out _).mono ?_; rintro e w1 ⟨rfl, hb1⟩; replace hb1 := keep hb1)
  go_ret
  exact ⟨rfl, hb1.out⟩
set_option maxRecDepth 1000000 in
set_option maxHeartbeats 4000000 in
theorem joinBounds_go (x : Int) (A : Option Addr) (m c : Nat) (l : List OX) (w : World) (hL : OS w A m c l) (h : ¬ 200 < (m : Int)) :
    Calls Try.prog 3 #[.int .i64 x, .slice A m c] w fun e w' => e = .returned (.bool true) ∧ Below w.heap.size w w' := by
  have K0 := keep (fun w => awake_any w)
  have HL := keep hL
  have HM := keep (show m ≤ 200 from by omega)
  clear hL
  go_enter Try.func3, Try.ntmps3
  go_wp2_with (first
    | (go_at_call 8; refine (K0.out _).mono ?_; rintro e w1 ⟨rfl, hb1⟩; replace hb1 := keep hb1)
    | (go_at_call 9; refine (New_JB (Below.refl _ w1) x).mono ?_; rintro e w2 ⟨G0, rfl, hj0, _, _⟩; replace hj0 := keep hj0))
  go_loopw [9, 7, 8] (fun iv cv tv wr => ∃ (i : Nat) (G1 : Gh) (j1 : Jn) (C T : Nat), iv = .int .i64 (i : Int) ∧ cv = .int .i64 (C : Int) ∧ tv = .int .i64 (T : Int) ∧ i ≤ m ∧ Hid (BK w1 G0.b i G1 j1 C T wr)) (fun iv _ _ _ => m - (intOf iv).toNat)
  case atStart => exact ⟨0, G0, _, 0, 0, rfl, rfl, rfl, Nat.zero_le _, keep ⟨hj0.out, rfl, Nat.le_of_ble_eq_true rfl, Nat.le_refl _⟩⟩
  case round =>
    obtain ⟨i, G1, j1, C, T, rfl, rfl, rfl, hi, HR⟩ := hrel
    have hwi : IntKind.i64.wrap ((i : Int) + 1) = (i : Int) + 1 := wrap_small (by omega) (by have := HM.out; omega)
    by_cases hlt : i < m
    · have hlt' : (i : Int) < (m : Int) := by omega
      obtain ⟨b, o, x, rfl, hbl0, d0', dc', dn', ds', hox0⟩ := HL.out.at_ hlt
      have HBw := up hb1.out HR.out.jb.be
      have hbl : b < wr.heap.size := Nat.lt_of_lt_of_le hbl0 HBw.size
      have d0 := (HBw.cell (p := ⟨b, o + i * 15, none⟩) hbl0).trans d0'
      have dc := At12.step dc' HBw hbl0
      have dn := (HBw.cell (p := ⟨b, o + i * 15 + 13, none⟩) hbl0).trans dn'
      have ds := (HBw.cell (p := ⟨b, o + i * 15 + 14, none⟩) hbl0).trans ds'
      have hox := hox0.step HBw
      have HKS0 := keep hox0.ks
      have HCB : C ≤ 13172736 := by have := HR.out.cb; have := HM.out; omega
      have HOX := keep hox
      have LT := keep (And.intro hlt (And.intro HCB (show C + 65536 ≤ (i + 1) * 65536 from by have := HR.out.cb; omega)))
      have HDC := keep dc
      have HBL := keep hbl0
      obtain ⟨xw, ⟨xk, xf, xa, xb, xo, xs, xp, ⟨x1, x2, x3⟩, ⟨x4, x5, x6⟩, ⟨x7, x8, x9⟩, ⟨x10, x11, x12⟩, ⟨x13, x14, x15⟩, xps, xbs⟩, xn, ⟨s1, s2, s3⟩, xks⟩ := x
      dsimp only [At12] at d0 dc dn ds
      have HKS := HKS0
      clear hox hlt hox0 d0' dc' dn' ds' HBw hbl0 HKS0
      have HO := keep (show ∀ i, G1.O i → w1.heap.size ≤ i from HR.out.jb.ow)
      have HNB := keep (show ¬ G1.O b from fun hc => by have := HO.out _ hc; have := hb1.out.size; have := HBL.out; omega)
      have hno1 : b < wr.heap.size := hbl
      have HBW := keep hno1
      clear hno1
      by_cases h0 : xw = 0
      · subst h0
        obtain ⟨r, hr⟩ : ∃ r, addE j1 (CX.c0 ⟨xk, xf, xa, xb, xo, xs, xp, (x1, x2, x3), (x4, x5, x6), (x7, x8, x9), (x10, x11, x12), (x13, x14, x15), xps, xbs⟩) = r := ⟨_, rfl⟩
        have HAE := keep hr
        have KA := Add_genB HR.out.jb HOX.out.c
        rw [HR.out.b] at KA
        replace KA := keep KA
        have HLN := keep (show x14 = xbs.length from HOX.out.c.bs.len)
        clear hr dn ds
        obtain ⟨e0, e1, e2, e3, e4, e5, e6, e7, e8, e9, e10, e11⟩ := dc
        by_cases hr0 : r = 0
        · subst hr0
          have hroom := (addE_ok HAE.out).2.2.2.2
          have HC2 := keep (show x14 ≤ 65536 from by
            have h9 : j1.oct + xbs.length ≤ 65536 := hroom
            have := HLN.out
            omega)
          have hcw : IntKind.i64.wrap ((C : Int) + (x14 : Int)) = ((C + x14 : Nat) : Int) := by rw [wrap_small (by omega) (by have := HC2.out; omega)]; omega
          clear hroom
          go_wp2_with (first
            | (go_at_call 10; refine KA.out.mono ?_
               rintro e w3 ⟨r3, j3, G3, rfl, hr3, hj3, hl3⟩
               obtain rfl : r3 = 0 := hr3.1.trans HAE.out
               have hbe := hl3.new HBW.out HNB.out
               have f11 := (World.cell?_of_block (a := ⟨b, o + i * 15 + 1 + 11, none⟩) hbe).trans HDC.out.2.2.2.2.2.2.2.2.2.2.2
               dsimp only at f11
               have hle : T + j3.oct ≤ C + x14 := by
                 have h9 := (add_wf HR.out.jb.jg.good.wf ⟨HOX.out.c.a.1, HOX.out.c.a.2, HOX.out.c.si.1, HOX.out.c.si.2⟩ hr3).2.2.2
                 rw [if_pos rfl] at h9
                 have h8 : j3.oct ≤ j1.oct + xbs.length := h9
                 have := HR.out.le
                 have := HLN.out
                 omega
               have HCB2 : C + x14 ≤ 13303808 := by have := HC2.out; omega
               have KH := Held_JB hj3
               rw [(hl3.b.trans HR.out.b)] at KH
               have HBK := keep (And.intro hj3 (And.intro (hl3.b.trans HR.out.b) hle))
               have ho : ((j3).oct : Int) ≤ 65536 := by have := (hj3).jg.good.le; omega
               have hA : ¬ ((j3).oct : Int) < 0 := by omega
               have hB : ¬ 65536 < ((j3).oct : Int) := by omega
               have hC : ¬ ((C + x14 : Nat) : Int) < (T : Int) + ((j3).oct : Int) := by have := hle; omega
               have hW : IntKind.i64.wrap ((T : Int) + ((j3).oct : Int)) = (T : Int) + ((j3).oct : Int) := wrap_small (by omega) (by have := HCB2; omega)
               replace KH := keep KH
               clear ho
               generalize ((j3).oct : Int) = oc at KH hA hB hC hW
               clear e0 e1 e2 e3 e4 e5 e6 e7 e8 e9 e10 e11 hr3 hj3 hl3 hbe hle d0)
            | (go_at_call 14; refine KH.out.mono ?_; rintro e wh ⟨rfl, rfl⟩))
          go_roundw
          case rel => exact ⟨i + 1, G3, j3, C + x14, T, by go_num, by rw [Int.natCast_add], rfl, LT.out.1, keep ⟨HBK.out.1, HBK.out.2.1, HBK.out.2.2, by have := LT.out.2.2; have := HC2.out; omega⟩⟩
          case measure => (have := LT.out.1; simp [intOf]; omega)
        · have hrz : (r == 0) = false := by simpa using hr0
          have HRZ := keep hr0
          clear hr0
          go_wp2_with (first
            | (go_at_call 10; refine KA.out.mono ?_
               rintro e w3 ⟨r3, j3, G3, rfl, hr3, hj3, hl3⟩
               obtain rfl : r = r3 := (hr3.1.trans HAE.out).symm
               have e3 : j3 = j1 := hr3.2.1 HRZ.out
               subst e3
               have hle := HR.out.le
               have HCB2 := HCB
               have KH := Held_JB hj3
               rw [(hl3.b.trans HR.out.b)] at KH
               have HBK := keep (And.intro hj3 (And.intro (hl3.b.trans HR.out.b) hle))
               have ho : ((j3).oct : Int) ≤ 65536 := by have := (hj3).jg.good.le; omega
               have hA : ¬ ((j3).oct : Int) < 0 := by omega
               have hB : ¬ 65536 < ((j3).oct : Int) := by omega
               have hC : ¬ (C : Int) < (T : Int) + ((j3).oct : Int) := by have := hle; omega
               have hW : IntKind.i64.wrap ((T : Int) + ((j3).oct : Int)) = (T : Int) + ((j3).oct : Int) := wrap_small (by omega) (by have := HCB2; omega)
               replace KH := keep KH
               clear ho
               generalize ((j3).oct : Int) = oc at KH hA hB hC hW
               clear e0 e1 e2 e3 e4 e5 e6 e7 e8 e9 e10 e11 hr3 hj3 hl3 hle d0)
            | (go_at_call 14; refine KH.out.mono ?_; rintro e wh ⟨rfl, rfl⟩))
          go_roundw
          case rel => exact ⟨i + 1, G3, j3, C, T, by go_num, rfl, rfl, LT.out.1, keep ⟨HBK.out.1, HBK.out.2.1, HBK.out.2.2, by have := LT.out.2.2; omega⟩⟩
          case measure => (have := LT.out.1; simp [intOf]; omega)
      · have hz0 : (xw == 0) = false := by simpa using h0
        by_cases h1 : xw = 1
        · subst h1
          clear dc h0 hz0
          by_cases h20 : 20 < (s2 : Int)
          · go_wp2
            go_ret
            exact ⟨rfl, up hb1.out HR.out.jb.be⟩
          · have KF := Forward_JBB (HR.out.jb.step (Below.refl _ wr).drew) HOX.out.n.1 HOX.out.n.2 (HOX.out.ks.step (Below.refl _ wr).drew) (fun hp a e hc => by
              obtain ⟨g, og, x9, e9, hg9, _⟩ := (HKS.out.at_ hp)
              have e' : s1 = some a := e
              rw [e'] at e9
              injection e9 with e9
              have h9 := HO.out _ hc
              rw [e9] at h9
              have h9 : w1.heap.size ≤ g := h9
              have := hb1.out.size
              omega) (show s2 ≤ 1000000 by omega)
            rw [HR.out.b] at KF
            replace KF := keep KF
            go_wp2
            go_region_held3 (fun w' => w'.cell? ⟨b, o + i * 15 + 13, none⟩ = some (.int .u32 xn) ∧ w'.cell? ⟨b, o + i * 15 + 14, none⟩ = some (.slice s1 s2 s3))
              (first | exact ⟨dn, ds⟩ | exact q3)
              (first
              | (go_at_call 11; refine KF.out.mono ?_
                 rintro e w3 ⟨rfl, G3, hj3, hl3⟩
                 have hbe := hl3.new HBW.out HNB.out
                 have q3 := And.intro ((World.cell?_of_block (a := ⟨b, o + i * 15 + 13, none⟩) hbe).trans dn) ((World.cell?_of_block (a := ⟨b, o + i * 15 + 14, none⟩) hbe).trans ds)
                 have hle : T + (fwdJ j1 xn xks).oct ≤ C := by
                   have h9 := (fwd_wf HR.out.jb.jg.good.wf xn xks).2.1
                   have := HR.out.le
                   omega
                 have HCB2 := HCB
                 have KH := Held_JB hj3
                 rw [(hl3.b.trans HR.out.b)] at KH
                 have HBK := keep (And.intro hj3 (And.intro (hl3.b.trans HR.out.b) hle))
                 have ho : ((fwdJ j1 xn xks).oct : Int) ≤ 65536 := by have := (hj3).jg.good.le; omega
                 have hA : ¬ ((fwdJ j1 xn xks).oct : Int) < 0 := by omega
                 have hB : ¬ 65536 < ((fwdJ j1 xn xks).oct : Int) := by omega
                 have hC : ¬ (C : Int) < (T : Int) + ((fwdJ j1 xn xks).oct : Int) := by have := hle; omega
                 have hW : IntKind.i64.wrap ((T : Int) + ((fwdJ j1 xn xks).oct : Int)) = (T : Int) + ((fwdJ j1 xn xks).oct : Int) := wrap_small (by omega) (by have := HCB2; omega)
                 replace KH := keep KH
                 clear ho
                 generalize ((fwdJ j1 xn xks).oct : Int) = oc at KH hA hB hC hW
                 clear hj3 hl3 hle hbe))
            all_goals clear d0 dn ds q3
            all_goals go_wp2_with (go_at_call 14; refine KH.out.mono ?_; rintro e wh ⟨rfl, rfl⟩)
            go_roundw
            case rel => exact ⟨i + 1, G3, fwdJ j1 xn xks, C, T, by go_num, rfl, rfl, LT.out.1, keep ⟨HBK.out.1, HBK.out.2.1, HBK.out.2.2, by have := LT.out.2.2; omega⟩⟩
            case measure => (have := LT.out.1; simp [intOf]; omega)
        · have hz1 : (xw == 1) = false := by simpa using h1
          by_cases h2 : xw = 2
          · subst h2
            clear dc ds h0 hz0 h1 hz1
            obtain ⟨x9, hx9⟩ : ∃ q, IntKind.u16.wrap xn = q := ⟨_, rfl⟩
            have KR := Reset_JB HR.out.jb (x := x9) (by rw [← hx9, wrap_u16]; omega) (by rw [← hx9, wrap_u16]; omega)
            rw [HR.out.b] at KR
            replace KR := keep KR
            go_wp2_with (first
              | (go_at_call 12; refine KR.out.mono ?_
                 rintro e w3 ⟨rfl, G3, hj3, hl3⟩
                 have hle : T + (resetJ j1 x9).oct ≤ C := by
                   have h9 := (reset_wf HR.out.jb.jg.good.wf x9).2.1
                   have := HR.out.le
                   omega
                 have HCB2 := HCB
                 have KH := Held_JB hj3
                 rw [(hl3.b.trans HR.out.b)] at KH
                 have HBK := keep (And.intro hj3 (And.intro (hl3.b.trans HR.out.b) hle))
                 have ho : ((resetJ j1 x9).oct : Int) ≤ 65536 := by have := (hj3).jg.good.le; omega
                 have hA : ¬ ((resetJ j1 x9).oct : Int) < 0 := by omega
                 have hB : ¬ 65536 < ((resetJ j1 x9).oct : Int) := by omega
                 have hC : ¬ (C : Int) < (T : Int) + ((resetJ j1 x9).oct : Int) := by have := hle; omega
                 have hW : IntKind.i64.wrap ((T : Int) + ((resetJ j1 x9).oct : Int)) = (T : Int) + ((resetJ j1 x9).oct : Int) := wrap_small (by omega) (by have := HCB2; omega)
                 replace KH := keep KH
                 clear ho
                 generalize ((resetJ j1 x9).oct : Int) = oc at KH hA hB hC hW
                 clear dn hj3 hl3 hle d0)
              | (go_at_call 14; refine KH.out.mono ?_; rintro e wh ⟨rfl, rfl⟩))
            go_roundw
            case rel => exact ⟨i + 1, G3, resetJ j1 x9, C, T, by go_num, rfl, rfl, LT.out.1, keep ⟨HBK.out.1, HBK.out.2.1, HBK.out.2.2, by have := LT.out.2.2; omega⟩⟩
            case measure => (have := LT.out.1; simp [intOf]; omega)
          · have hz2 : (xw == 2) = false := by simpa using h2
            clear dc ds dn
            have KT := Take_JB HR.out.jb
            rw [HR.out.b] at KT
            replace KT := keep KT
            go_wp2_with (first
              | (go_at_call 13; refine KT.out.mono ?_
                 rintro e w3 ⟨A3, m3, c3, l3, G3, rfl, hm3, hv3, hr3, ho3, hj3, hl3⟩
                 have HT3 := keep (And.intro hm3 (And.intro hv3 (And.intro hr3 (And.intro hj3 (hl3.b.trans HR.out.b)))))
                 clear hm3 hv3 hr3 ho3 hj3 hl3 d0))
            have HRD := keep (show T + octM j1.rd + (takeJ j1).oct ≤ C from by
              have h9 := (take_wf HR.out.jb.jg.good.wf).2.1
              have := HR.out.le
              omega)
            go_loopw [11, 8] (fun kv tv wx => ∃ (t : Nat), kv = .int .i64 (t : Int) ∧ tv = .int .i64 ((T + octM (j1.rd.take t) : Nat) : Int) ∧ t ≤ m3 ∧ wx = w3) (fun kv _ _ => m3 - (intOf kv).toNat)
            case atStart => exact ⟨0, rfl, rfl, Nat.zero_le _, rfl⟩
            case round =>
              obtain ⟨t, rfl, rfl, ht, rfl⟩ := hrel
              have hm3l : m3 = j1.rd.length := by
                have h1 := congrArg List.length HT3.out.2.2.1
                rw [List.length_map] at h1
                rw [HT3.out.1.1, h1]
              have hm3b : m3 ≤ 65536 := by
                have := HR.out.jb.jg.good.rd
                omega
              have hwt : IntKind.i64.wrap ((t : Int) + 1) = (t : Int) + 1 := wrap_small (by omega) (by omega)
              by_cases hlt2 : t < m3
              · have hlt3 : (t : Int) < (m3 : Int) := by omega
                obtain ⟨g, og, y, eA, hgl, ⟨_, _, _, c3'⟩, hy⟩ := HT3.out.1.at_ hlt2
                have hjy : j1.rd[t]? = some y.msg := by
                  rw [← HT3.out.2.2.1, List.getElem?_map, hy]
                  rfl
                have hoc := octM_take hjy
                have hle := octM_le j1.rd (t + 1)
                have hln := (HT3.out.2.1 y (List.mem_of_getElem? hy)).1.bs.len
                have hln2 : y.msg.da.length = y.bs.length := rfl
                obtain ⟨y2, hy2⟩ : ∃ q, y.da.2.1 = q := ⟨_, rfl⟩
                rw [hy2] at c3' hln
                have hsum : ((T + octM (j1.rd.take t) : Nat) : Int) + (y2 : Int) = ((T + octM (j1.rd.take (t + 1)) : Nat) : Int) := by omega
                have hws : IntKind.i64.wrap (((T + octM (j1.rd.take t) : Nat) : Int) + (y2 : Int)) = ((T + octM (j1.rd.take (t + 1)) : Nat) : Int) := by
                  rw [hsum]
                  exact wrap_small (by omega) (by have := HRD.out; omega)
                have LT2 := keep hlt2
                subst eA
                clear hjy hoc hle hln hln2 hsum hlt2 ht hm3l hm3b hy hy2
                generalize ((T + octM (j1.rd.take t) : Nat) : Int) = ta at *
                generalize htb : ((T + octM (j1.rd.take (t + 1)) : Nat) : Int) = tb at *
                go_wp2
                go_roundw
                case rel => exact ⟨t + 1, by go_num, by rw [htb], LT2.out, trivial⟩
                case measure => (have := LT2.out; simp [intOf]; omega)
              · obtain rfl : t = m3 := by omega
                have hlt3 : ¬ (t : Int) < (t : Int) := by omega
                have hall : j1.rd.take t = j1.rd := List.take_of_length_le (by omega)
                rw [hall]
                clear hlt2
                have hle : T + octM j1.rd + (takeJ j1).oct ≤ C := HRD.out
                have hj3 := HT3.out.2.2.2.1
                have heb := HT3.out.2.2.2.2
                have HCB2 := HCB
                have KH := Held_JB hj3
                rw [heb] at KH
                have HBK := keep (And.intro hj3 (And.intro heb hle))
                have ho : ((takeJ j1).oct : Int) ≤ 65536 := by have := (hj3).jg.good.le; omega
                have hA : ¬ ((takeJ j1).oct : Int) < 0 := by omega
                have hB : ¬ 65536 < ((takeJ j1).oct : Int) := by omega
                have hC : ¬ (C : Int) < ((T + octM j1.rd : Nat) : Int) + ((takeJ j1).oct : Int) := by have := hle; omega
                have hW : IntKind.i64.wrap (((T + octM j1.rd : Nat) : Int) + ((takeJ j1).oct : Int)) = ((T + octM j1.rd : Nat) : Int) + ((takeJ j1).oct : Int) := wrap_small (by omega) (by have := HCB2; omega)
                replace KH := keep KH
                clear ho
                generalize ((takeJ j1).oct : Int) = oc at KH hA hB hC hW
                have HTT := keep (show T + octM j1.rd = T + octM j1.rd from rfl)
                clear hj3 heb hle hall hm3l hm3b
                go_wp2_with (go_at_call 14; refine KH.out.mono ?_; rintro e wh ⟨rfl, rfl⟩)
                go_roundw
                case rel => exact ⟨i + 1, G3, takeJ j1, C, T + octM j1.rd, by go_num, rfl, rfl, LT.out.1, keep ⟨HBK.out.1, HBK.out.2.1, HBK.out.2.2, by have := LT.out.2.2; omega⟩⟩
                case measure => (have := LT.out.1; simp [intOf]; omega)
    · obtain rfl : i = m := by omega
      have hlt' : ¬ (i : Int) < (i : Int) := by omega
      clear hlt
      go_wp2
      go_ret
      exact ⟨rfl, up hb1.out HR.out.jb.be⟩
theorem joinBounds_walk (x : Int) (A : Option Addr) (m c : Nat) (l : List OX) (w : World) (_ : (Lit.int .i64 x).wf = true) (hL : OS w A m c l) :
    Calls Try.prog 3 #[.int .i64 x, .slice A m c] w fun e w' => e = .returned (.bool true) ∧ Below w.heap.size w w' := by
  by_cases h : 200 < (m : Int)
  · exact joinBounds_let x A m c w h
  · exact joinBounds_go x A m c l w hL h
end Go.Proofs.Ythpcblbciidmeaa
