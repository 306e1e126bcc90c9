/- SendqFloor, walked. -/
import Derived.Test.YtbkepkiaabeliaaQ51
namespace Go.Proofs.Ytbkepkiaabeliaa
open Go.RowKit Go.Maps
set_option linter.unusedVariables false

theorem Left_qs2 {w W : World} {b : Nat} {G : Gq} {q : Qm} (h : QS w b G q W) {f : Nat} (hf : octs q.es [2, 0] = f) : Calls Try.prog 28 #[.pointer (some ⟨b, 0, none⟩)] W fun e w' => e = .returned (.int .i64 (f : Int)) ∧ Hid (Below W.heap.size W w') := by
  have hb := h.gb
  subst hb hf
  exact (Left_any h.qa).mono fun e w' hh => ⟨hh.1, hh.2⟩
theorem Flying_qs2 {w W : World} {b : Nat} {G : Gq} {q : Qm} (h : QS w b G q W) {f : Nat} (hf : octs q.es [1] = f) : Calls Try.prog 27 #[.pointer (some ⟨b, 0, none⟩)] W fun e w' => e = .returned (.int .i64 (f : Int)) ∧ Hid (Below W.heap.size W w') := by
  have hb := h.gb
  subst hb hf
  exact (Flying_any h.qa).mono fun e w' hh => ⟨hh.1, hh.2⟩
theorem Timeout_qs2 {w W : World} {b : Nat} {G : Gq} {q : Qm} (h : QS w b G q W) : Calls Try.prog 24 #[.pointer (some ⟨b, 0, none⟩)] W fun e w' => e = .returned (.int .i64 ((cnt1 q.es q.es.length : Nat) : Int)) ∧ Hid (QS w b G { q with es := q.es.map toutE } w') := by
  have hb := h.gb
  subst hb
  refine (Timeout_any h.qa).mono ?_
  rintro e w' ⟨rfl, h1, h2⟩
  refine ⟨rfl, keep (h.ltr h1 (nums_of h.nu rfl ?_) h2)⟩
  show (q.es.map toutE).map (fun e => e.c.a) = _
  rw [List.map_map]
  refine List.map_congr_left fun e _ => ?_
  show (toutE e).c.a = e.c.a
  unfold toutE
  split <;> rfl
theorem bounded_same (n : Int) (w : World) : Calls Try.prog 20 #[.int .i64 n] w fun e w' => (∃ z, e = .returned (.int .i64 z)) ∧ w = w' := by
  go_enter Try.func20, Try.ntmps20
  go_wp2
  go_ret
  exact ⟨⟨_, rfl⟩, rfl⟩
theorem Floor_qd {w W : World} {b : Nat} {G : Gq} {q : Qm} (h : QS w b G q W) {f : Int} (hf : flr q = f) : Calls Try.prog 16 #[.pointer (some ⟨b, 0, none⟩)] W fun e w' => e = .returned (.int .u32 f) ∧ ∃ k, w' = W.drewN k := by
  have hb := h.gb
  subst hb hf
  exact Floor_any h.qa
theorem QS.apart {w W W' : World} {b gb : Nat} {G : Gq} {q : Qm} (h : QS w b G q W) (hg : w.heap.size ≤ gb) (ho : ¬ G.O gb) (hf : ¬ G.F gb) (hp : Part (fun i => i = gb) W W') : QS w b G q W' :=
  ⟨h.qa.apart hp (fun i hi e => ho (by rw [← e]; exact hi)) (fun i hi e => hf (by rw [← e]; exact hi)), h.nu, h.gb, h.lo, h.bl.trans (hp.below h.bl.size fun i hi => by rw [hi]; exact hg)⟩
theorem Expire_qs {w W : World} {b : Nat} {G : Gq} {q : Qm} (h : QS w b G q W) (now : Int) : Calls Try.prog 25 #[.pointer (some ⟨b, 0, none⟩), .int .i64 now] W fun e w' => e = .returned (.int .i64 ((exN now q.es q.mg q.es.length : Nat) : Int)) ∧ Hid (QS w b G ⟨q.es.map (gvE (exM now q.es q.mg q.es.length)), q.nx, exM now q.es q.mg q.es.length⟩ w' ∧ Part G.O W w') := by
  have hb := h.gb
  subst hb
  refine (Expire_any h.qa now).mono ?_
  rintro e w' ⟨rfl, h1, h2⟩
  refine ⟨rfl, keep ⟨h.ltr h1 (nums_of h.nu rfl ?_) h2, h2.part⟩⟩
  show (q.es.map (gvE _)).map (fun e => e.c.a) = _
  rw [List.map_map]
  refine List.map_congr_left fun e _ => ?_
  show (gvE _ e).c.a = e.c.a
  unfold gvE
  split <;> rfl
/-- What a step leaves: how far the floor went up, by how many entries. -/
structure FlS (f0 : Int) (nn : Nat) (f1 : Int) (L dd fy lf : Nat) (w : World) (b : Nat) (G : Gq) (q : Qm) (W : World) : Prop where
  qs : QS w b G q W
  fl : flr q = f1
  ln : q.es.length = L
  di : dist32 f0 f1 = (dd : Int)
  sm : (nn : Int) - (L : Int) = (dd : Int)
  le : nn ≤ 1024
  oc : octs q.es [1] = fy
  lf_ : octs q.es [2, 0] = lf
theorem FlS.of {f0 : Int} {nn : Nat} {w W : World} {b : Nat} {G : Gq} {q : Qm} (h : QS w b G q W) {d : Nat} (hd : dist32 f0 (flr q) = (d : Int)) (hs : nn = q.es.length + d) (hle : nn ≤ 1024) : ∃ f1 L fy lf, Hid (FlS f0 nn f1 L d fy lf w b G q W) ∧ (nn : Int) - (L : Int) = (d : Int) :=
  ⟨_, _, _, _, keep ⟨h, rfl, rfl, hd, by omega, hle, rfl, rfl⟩, by omega⟩
theorem FlS.step {f0 : Int} {nn : Nat} {f1 : Int} {L dd fy lf : Nat} {w : World} {b : Nat} {G : Gq} {q : Qm} {W W' : World} (h : FlS f0 nn f1 L dd fy lf w b G q W) (hb : Below W.heap.size W W') : FlS f0 nn f1 L dd fy lf w b G q W' := ⟨h.qs.step hb, h.fl, h.ln, h.di, h.sm, h.le, h.oc, h.lf_⟩
theorem dist_self (f : Int) : dist32 f f = ((0 : Nat) : Int) := by unfold dist32 dist; omega
set_option maxRecDepth 1000000 in
set_option maxHeartbeats 8000000 in
theorem sendqFloor_walk (first : Int) (A : Option Addr) (m c : Nat) (l : List FX) (w : World) (hf : (Lit.int .u32 first).wf = true) (hz : FS w A m c l) :
    Calls Try.prog 4 #[.int .u32 first, .slice A m c] w fun e w' => e = .returned (.bool true) ∧ Below w.heap.size w w' := by
  have KA := keep (awake_any w)
  have HZ := keep hz
  have hml := hz.1.1
  dsimp only at hml
  have HML := keep hml
  have HF2 := keep (show 0 ≤ first ∧ first < 4294967296 from wf32 hf)
  clear hz hf hml
  have KN := keep (fun W (hb : Below w.heap.size w W) => New_qs (w := w) first HF2.out hb)
  go_enter Try.func4, Try.ntmps4
  go_wp2_with (first
    | (go_at_call 10; refine KA.out.mono ?_; rintro e w1 ⟨rfl, hb1⟩; replace hb1 := keep hb1
       have KW := keep (few_any (HZ.out.step hb1.out))))
  refine KW.out.mono ?_
  rintro e w2 ⟨⟨r, rfl, hr⟩, k, rfl⟩
  dsimp only
  have HB2 := keep (below_drewN hb1.out k)
  cases r with
  | false =>
    go_wp2
    go_ret
    exact ⟨rfl, HB2.out⟩
  | true =>
    have hm40 : m ≤ 40 := (hr.out rfl).1
    have HFX := keep (hr.out rfl).2
    clear hr KW
    generalize w1.drewN k = w2 at HB2 ⊢
    go_wp2_with (go_at_call 12; refine (KN.out _ HB2.out).mono ?_; rintro e w3 ⟨rfl, hq3⟩)
    obtain ⟨b, hb⟩ : ∃ b, w2.heap.size = b := ⟨_, rfl⟩
    rw [hb] at hq3 ⊢
    clear hb
    go_loopw [7, 8, 9, 10, 11, 12, 13, 14, 15] (fun i _ _ _ _ _ _ _ _ wr => ∃ (j : Nat) (G : Gq) (q : Qm), j ≤ m ∧ i = .int .i64 j ∧ Hid (QS w b G q wr)) (fun i _ _ _ _ _ _ _ _ _ => m - (intOf i).toNat)
    case atStart => exact ⟨0, _, _, Nat.zero_le _, rfl, hq3⟩
    case round =>
      clear hq3
      obtain ⟨j, G, q, hj, rfl, HR⟩ := hrel
      by_cases hlt : j < m
      · obtain ⟨g, o, x, rfl, hgl, hlj, hxv, _, _, _, _, _, _⟩ := HZ.out.at_ hlt
        have HXV := keep hxv
        have HFF := keep (HFX.out x (List.mem_of_getElem? hlj))
        have HD := keep (show ∀ W, Below w.heap.size w W → W.cell? ⟨g, o + j * 6, none⟩ = some (.int .i64 x.wh) ∧ W.cell? ⟨g, o + j * 6 + 1, none⟩ = some (.int .i64 x.n) ∧ W.cell? ⟨g, o + j * 6 + 2, none⟩ = some (.int .i64 x.m) ∧ W.cell? ⟨g, o + j * 6 + 3, none⟩ = some (.slice x.l.1 x.l.2.1 x.l.2.2) ∧ W.cell? ⟨g, o + j * 6 + 4, none⟩ = some (.int .u32 x.cum) ∧ W.cell? ⟨g, o + j * 6 + 5, none⟩ = some (.slice x.b.1 x.b.2.1 x.b.2.2) from fun W hb => by
          obtain ⟨g', o', x', e1, _, e2, _, h0, h1, h2, h3, h4, h5⟩ := (HZ.out.step hb).at_ hlt
          rw [hlj] at e2
          injection e2 with e2
          injection e1 with e1
          injection e1 with e1 e3
          subst e1 e2 e3
          exact ⟨h0, h1, h2, h3, h4, h5⟩)
        obtain ⟨xw, xn, xm, ⟨l1, l2, l3⟩, xc, ⟨b1, b2, b3⟩, xls, xbls⟩ := x
        dsimp only at HD
        have hjI : (j : Int) < (m : Int) := by omega
        have hj0 : (0 : Int) ≤ (j : Int) := by omega
        have hmI : (m : Int) ≤ 40 := by omega
        clear hlj hxv
        obtain ⟨f0, hf0⟩ : ∃ f0, flr q = f0 := ⟨_, rfl⟩
        obtain ⟨nn, hnn⟩ : ∃ nn, q.es.length = nn := ⟨_, rfl⟩
        have HF0 := keep hf0
        have HNN := keep hnn
        have HLE := keep (show nn ≤ 1024 by rw [← hnn]; exact HR.out.qa.le)
        have hnI0 : (0 : Int) ≤ (nn : Int) := by omega
        have hnI : (nn : Int) ≤ 1024 := by have := HLE.out; omega
        clear hf0 hnn
        obtain ⟨d0, _, _, _, _, _⟩ := HD.out _ HR.out.bl
        by_cases h0 : xw = 0
        · subst h0
          as_aux_lemma =>
          go_wp2_with (first
            | (go_at_call 16; refine (Floor_qs HR.out HF0.out).mono ?_; rintro e y0 ⟨rfl, hc0⟩; have R0 := keep (HR.out.step hc0.out)
               obtain ⟨d0, d1, d2, d3, d4, d5⟩ := HD.out _ R0.out.bl)
            | (go_at_call 17; refine (Len_qs R0.out HNN.out).mono ?_; rintro e w' ⟨rfl, rfl⟩))
          have KP := keep (Push_gen (R0.out.step (Below.refl _ y0).drew) HXV.out.l (by have h1 := HFF.out.1; have h2 := HXV.out.l.1.1; dsimp only at h1 h2 ⊢; omega) (fun y hy => (HFF.out.2.2 y hy).sm) xn xm)
          go_region_held3 (fun w' => w'.cell? ⟨g, o + j * 6 + 1, none⟩ = some (.int .i64 xn) ∧ w'.cell? ⟨g, o + j * 6 + 2, none⟩ = some (.int .i64 xm) ∧ w'.cell? ⟨g, o + j * 6 + 3, none⟩ = some (.slice l1 l2 l3))
            (first | exact ⟨d1, d2, d3⟩ | exact s3)
            (first
            | (go_at_call 18; refine KP.out.mono ?_
               rintro e y3 ⟨rfl, G3, q3, H3⟩
               have s3 := And.intro (HD.out _ H3.out.1.bl).2.1 (And.intro (HD.out _ H3.out.1.bl).2.2.1 (HD.out _ H3.out.1.bl).2.2.2.1)))
          all_goals clear d0 d1 d2 d3 d4 d5 s3
          obtain ⟨f1, L, fy, lf, HE, hsm⟩ := FlS.of (f0 := f0) (d := 0) H3.out.1 (by rw [H3.out.2.flr, HF0.out]; exact dist_self f0) rfl H3.out.1.qa.le
          have KD := keep (fun W => Dist_any f0 f1 W)
          rw [HE.out.di] at KD
          have hfy0 : (0 : Int) ≤ (fy : Int) := by omega
          have hlf0 : (0 : Int) ≤ (lf : Int) := by omega
          have hL0 : (0 : Int) ≤ (L : Int) := by omega
          have hL1 : (L : Int) ≤ 1024 := by have := HE.out.sm; have := HE.out.le; omega
          go_wp2_with (first
            | (go_at_call 16; refine (Floor_qs HE.out.qs HE.out.fl).mono ?_; rintro e y4 ⟨rfl, hb4⟩; have E4 := keep (HE.out.step hb4.out))
            | (go_at_call 26; refine (KD.out _).mono ?_; rintro e w' ⟨rfl, rfl⟩)
            | (go_at_call 17; refine (Len_qs E4.out.qs E4.out.ln).mono ?_; rintro e w' ⟨rfl, rfl⟩)
            | (go_at_call 17; refine (Len_qs HE.out.qs HE.out.ln).mono ?_; rintro e w' ⟨rfl, rfl⟩)
            | (go_at_call 27; refine (Flying_qs2 E4.out.qs E4.out.oc).mono ?_; rintro e y5 ⟨rfl, hb5⟩; have E5 := keep (E4.out.step hb5.out))
            | (go_at_call 28; refine (Left_qs2 E5.out.qs E5.out.lf_).mono ?_; rintro e y6 ⟨rfl, hb6⟩; have E6 := keep (E5.out.step hb6.out)))
          go_roundw
          case rel => exact ⟨j + 1, _, _, by omega, by go_num, keep E6.out.qs⟩
          case measure => simp [intOf]; omega
        · have hz0 : (xw == 0) = false := by simpa using h0
          by_cases h1 : xw = 1
          · subst h1
            as_aux_lemma =>
            clear h0 hz0
            go_wp2_with (first
              | (go_at_call 16; refine (Floor_qs HR.out HF0.out).mono ?_; rintro e y0 ⟨rfl, hc0⟩; have R0 := keep (HR.out.step hc0.out)
                 obtain ⟨d0, d1, d2, d3, d4, d5⟩ := HD.out _ R0.out.bl)
              | (go_at_call 17; refine (Len_qs R0.out HNN.out).mono ?_; rintro e w' ⟨rfl, rfl⟩))
            have KT := keep (fun z => fl_take (R0.out.step (Below.refl _ y0).drew) z xm HXV.out.m)
            go_region_held3 (fun w' => w'.cell? ⟨g, o + j * 6 + 1, none⟩ = some (.int .i64 xn) ∧ w'.cell? ⟨g, o + j * 6 + 2, none⟩ = some (.int .i64 xm))
              (first | exact ⟨d1, d2⟩ | exact s3)
              (first
              | (go_at_call 20; refine (bounded_same _ _).mono ?_; rintro e w' ⟨⟨z, rfl⟩, rfl⟩)
              | (go_at_call 19; refine (KT.out z).mono ?_
                 rintro e y3 ⟨t1, tn, tc, q3, rfl, hT0, H3, HT⟩
                 have s3 := And.intro (HD.out _ H3.out.1.bl).2.1 (HD.out _ H3.out.1.bl).2.2.1))
            all_goals clear d0 d1 d2 d3 d4 d5 s3
            all_goals have htn : (tn : Int) ≤ 2048 := by have := hT0.out; omega
            all_goals go_wp2
            go_loopw [11, 12, 13] (fun i _ _ wr2 => ∃ (t kk : Nat), t ≤ tn ∧ i = .int .i64 t ∧ wr2 = y3.drewN kk) (fun i _ _ _ => tn - (intOf i).toNat)
            case atStart => exact ⟨0, 0, Nat.zero_le _, rfl, rfl⟩
            case round =>
              obtain ⟨t, kk, ht, rfl, rfl⟩ := hrel
              by_cases htl : t < tn
              · obtain ⟨go, oo, a, rfl, hcell, hless, e5, hst, hs1⟩ := HT.out t htl
                have KS := State_qs (H3.out.1.step (below_drewN (Below.refl _ y3) kk)) a
                rw [hst] at KS
                unfold stOut at KS
                dsimp only at KS
                rw [hs1] at KS
                have KL := fun W => Less_any f0 a W
                rw [HF0.out] at hless
                rw [hless] at KL
                replace KS := keep KS
                replace KL := keep KL
                have htI : (t : Int) < (tn : Int) := by omega
                have ht0 : (0 : Int) ≤ (t : Int) := by omega
                clear hless hst hs1
                go_wp2_with (first
                  | (go_at_call 21; refine KS.out.mono ?_; rintro e w' ⟨rfl, k5, rfl⟩)
                  | (go_at_call 22; refine (KL.out _).mono ?_; rintro e w' ⟨rfl, rfl⟩))
                go_roundw
                case rel => exact ⟨t + 1, _, by omega, by go_num, rfl⟩
                case measure => simp [intOf]; omega
              · obtain rfl : tn = t := by omega
                obtain ⟨f1, L, fy, lf, HE, hsm⟩ := FlS.of (f0 := f0) (d := 0) (H3.out.1.step (below_drewN (Below.refl _ y3) kk)) (by rw [H3.out.2.1, HF0.out]; exact dist_self f0) (by rw [H3.out.2.2, HNN.out]; rfl) HLE.out
                have KD := keep (fun W => Dist_any f0 f1 W)
                rw [HE.out.di] at KD
                have hfy0 : (0 : Int) ≤ (fy : Int) := by omega
                have hlf0 : (0 : Int) ≤ (lf : Int) := by omega
                have hL0 : (0 : Int) ≤ (L : Int) := by omega
                have hL1 : (L : Int) ≤ 1024 := by have := HE.out.sm; have := HE.out.le; omega
                go_wp2_with (first
                  | (go_at_call 16; refine (Floor_qs HE.out.qs HE.out.fl).mono ?_; rintro e y4 ⟨rfl, hb4⟩; have E4 := keep (HE.out.step hb4.out))
                  | (go_at_call 26; refine (KD.out _).mono ?_; rintro e w' ⟨rfl, rfl⟩)
                  | (go_at_call 17; refine (Len_qs E4.out.qs E4.out.ln).mono ?_; rintro e w' ⟨rfl, rfl⟩)
                  | (go_at_call 17; refine (Len_qs HE.out.qs HE.out.ln).mono ?_; rintro e w' ⟨rfl, rfl⟩)
                  | (go_at_call 27; refine (Flying_qs2 E4.out.qs E4.out.oc).mono ?_; rintro e y5 ⟨rfl, hb5⟩; have E5 := keep (E4.out.step hb5.out))
                  | (go_at_call 28; refine (Left_qs2 E5.out.qs E5.out.lf_).mono ?_; rintro e y6 ⟨rfl, hb6⟩; have E6 := keep (E5.out.step hb6.out)))
                go_roundw
                case rel => exact ⟨j + 1, _, _, by omega, by go_num, keep E6.out.qs⟩
                case measure => simp [intOf]; omega
          · have hz1 : (xw == 1) = false := by simpa using h1
            by_cases h2 : xw = 2
            · subst h2
              clear h0 hz0 h1 hz1
              go_wp2_with (first
                | (go_at_call 16; refine (Floor_qs HR.out HF0.out).mono ?_; rintro e y0 ⟨rfl, hc0⟩; have R0 := keep (HR.out.step hc0.out)
                   obtain ⟨d0, d1, d2, d3, d4, d5⟩ := HD.out _ R0.out.bl)
                | (go_at_call 17; refine (Len_qs R0.out HNN.out).mono ?_; rintro e w' ⟨rfl, rfl⟩))
              obtain ⟨cu, hcu0⟩ : ∃ cu, (first + xc) % 4294967296 = cu := ⟨_, rfl⟩
              have hcw : IntKind.u32.wrap (first + xc) = cu := by rw [wrap_u32]; exact hcu0
              have HCU := keep (show 0 ≤ cu ∧ cu < 4294967296 by omega)
              have HS : ∀ W, Below w.heap.size w W → W.cell? ⟨g, o + j * 6 + 1, none⟩ = some (.int .i64 xn) ∧ W.cell? ⟨g, o + j * 6 + 4, none⟩ = some (.int .u32 xc) ∧ W.cell? ⟨g, o + j * 6 + 5, none⟩ = some (.slice b1 b2 b3) := fun W hb => ⟨(HD.out W hb).2.1, (HD.out W hb).2.2.2.2.1, (HD.out W hb).2.2.2.2.2⟩
              clear d0 d1 d2 d3 d4 d5
              by_cases hre : reachedB q cu = true
              · as_aux_lemma =>
                have KA2 := keep (fun z W (hb : Below y0.heap.size y0 W) => fl_ack2 (R0.out.step hb) cu z HCU.out (b1, b2, b3) xbls HXV.out.b (by have h1 := HFF.out.2.1; have h2 := HXV.out.b.1; dsimp only at h1 h2 ⊢; omega) HXV.out.bk hre)
                go_region_held3 (fun w' => w'.cell? ⟨g, o + j * 6 + 1, none⟩ = some (.int .i64 xn) ∧ w'.cell? ⟨g, o + j * 6 + 4, none⟩ = some (.int .u32 xc) ∧ w'.cell? ⟨g, o + j * 6 + 5, none⟩ = some (.slice b1 b2 b3))
                  (first
                    | with_reducible exact HS _ R0.out.bl.drew
                    | with_reducible exact HS _ (up R0.out.bl (below_lay _ _)).drew
                    | with_reducible exact HS _ (up R0.out.bl.drew (below_lay _ _))
                    | with_reducible exact HS _ H3.out.1.bl
                    | with_reducible exact HS _ (up H3.out.1.bl (below_lay _ _))
                    | with_reducible exact HS _ ((((H3.out.1.bl.setCell (p := ⟨y0.heap.size, 0, none⟩) R0.out.bl.size _).setCell (p := ⟨y0.heap.size, 1, none⟩) R0.out.bl.size _).setCell (p := ⟨y0.heap.size, 2, none⟩) R0.out.bl.size _).setCell (p := ⟨y0.heap.size, 3, none⟩) R0.out.bl.size _)
                    | with_reducible exact HS _ (((((up H3.out.1.bl (below_lay _ _)).setCell (p := ⟨y3.heap.size, 0, none⟩) H3.out.1.bl.size _).setCell (p := ⟨y3.heap.size, 1, none⟩) H3.out.1.bl.size _).setCell (p := ⟨y3.heap.size, 2, none⟩) H3.out.1.bl.size _).setCell (p := ⟨y3.heap.size, 3, none⟩) H3.out.1.bl.size _))
                  (first
                  | (go_at_call 20; refine (bounded_same _ _).mono ?_; rintro e w' ⟨⟨z, rfl⟩, rfl⟩)
                  | (go_at_call 23; refine (KA2.out z _ (by first | with_reducible exact (Below.refl _ y0).drew | with_reducible exact (below_lay y0 _).drew)).mono ?_
                     rintro e y3 ⟨by_, sa, lo, mo, G3, q3, dn, rfl, H3, H3F, H3D⟩
                     first
                     | (have hbx : RsB y3 y0.heap.size 0 0 false false := (H3.out.2.1.block y0.heap.size (by simp) (fun hc => absurd (R0.out.qa.olt _ hc) (Nat.lt_irrefl _))).trans (heap_alloc_new y0 _)
                        obtain ⟨x0, x1, x2, x3⟩ := hbx.cells
                        obtain ⟨p0, p1, p2, p3⟩ := hbx.fzs)
                     | skip))
                all_goals
                  first
                  | (have JW := H3.out.1.step (below_lay y3 (.cells #[.int .i64 by_, .int .i64 sa, .bool lo, .bool mo] 54))
                     have JB : RsB (y3.alloc (.cells #[.int .i64 by_, .int .i64 sa, .bool lo, .bool mo] 54)) y3.heap.size by_ sa lo mo := heap_alloc_new y3 _
                     obtain ⟨W5, hW5⟩ : ∃ W5, y3.alloc (.cells #[.int .i64 by_, .int .i64 sa, .bool lo, .bool mo] 54) = W5 := ⟨_, rfl⟩
                     obtain ⟨bx, hbx2⟩ : ∃ bx, y3.heap.size = bx := ⟨_, rfl⟩
                     rw [hW5] at JW JB ⊢
                     rw [hbx2] at JB ⊢
                     clear hW5 hbx2)
                  | (have JB := res4_at hbx by_ sa lo mo
                     have JW := H3.out.1.apart (gb := y0.heap.size) R0.out.bl.size (fun hc => absurd (R0.out.qa.olt _ ((H3.out.2.2 _).1 hc)) (Nat.lt_irrefl _)) (fun hc => absurd (R0.out.qa.flt _ ((H3F.out _).1 hc)) (Nat.lt_irrefl _)) ((((part_set y3 y0.heap.size 0 (.int .i64 by_)).trans (part_set _ y0.heap.size 1 (.int .i64 sa)) fun i hi => .inl hi).trans (part_set _ y0.heap.size 2 (.bool lo)) fun i hi => .inl hi).trans (part_set _ y0.heap.size 3 (.bool mo)) fun i hi => .inl hi)
                     obtain ⟨W5, hW5⟩ : ∃ W5, (((y3.setCell ⟨y0.heap.size, 0, none⟩ (.int .i64 by_)).setCell ⟨y0.heap.size, 1, none⟩ (.int .i64 sa)).setCell ⟨y0.heap.size, 2, none⟩ (.bool lo)).setCell ⟨y0.heap.size, 3, none⟩ (.bool mo) = W5 := ⟨_, rfl⟩
                     obtain ⟨bx, hbx2⟩ : ∃ bx, y0.heap.size = bx := ⟨_, rfl⟩
                     rw [hW5] at JW JB ⊢
                     rw [hbx2] at JB ⊢
                     clear hW5 hbx2 hbx x0 x1 x2 x3 p0 p1 p2 p3)
                · as_aux_lemma =>
                  have JQ := keep JW
                  obtain ⟨x0, x1, x2, x3⟩ := JB.cells
                  obtain ⟨_, d4, _⟩ := HS _ JW.bl
                  clear JB JW HS
                  have KFq := keep (Floor_qd (JQ.out.step (Below.refl _ W5).drew) H3D.out.1)
                  obtain ⟨f1, L, fy, lf, HE, hsm⟩ := FlS.of (f0 := f0) (d := dn) JQ.out (by rw [H3D.out.1, ← HF0.out]; exact H3D.out.2.1) (by rw [← HNN.out]; exact H3D.out.2.2) HLE.out
                  have KD := keep (fun W => Dist_any f0 f1 W)
                  rw [HE.out.di] at KD
                  have hfy0 : (0 : Int) ≤ (fy : Int) := by omega
                  have hlf0 : (0 : Int) ≤ (lf : Int) := by omega
                  have hL0 : (0 : Int) ≤ (L : Int) := by omega
                  have hL1 : (L : Int) ≤ 1024 := by have := HE.out.sm; have := HE.out.le; omega
                  have hdn1 : (dn : Int) ≤ 1024 := by omega
                  have hdn0 : (0 : Int) ≤ (dn : Int) := by omega
                  go_wp2
                  refine wp_region_held_drew (S := (fun w' => w'.cell? ⟨g, o + j * 6 + 4, none⟩ = some (.int .u32 xc))) (by kernel_rfl) d4 (fun hHeld => ?_)
                  refine wpAnyH_take (i := 0) (oi := ⟨some 139, _, _, _, _, _⟩) (v := ?voa1x0) rfl (by kernel_rfl) (by kernel_rfl) (by kernel_rfl) (fun _ _ _ h => h) (Or.inl ⟨by rfl, ?hyoa1x0⟩) (by assumption) ?restoa1x0
                  case hyoa1x0 => (intro wz hSw; (try dsimp only at hSw); go_simp <;> (try with_reducible rfl))
                  try simp only [Act.put, List.setIfInBounds_toArray, List.set_cons_zero, List.set_cons_succ]
                  refine wpAnyH_take (i := 1) (oi := ⟨some 140, _, _, _, _, _⟩) (v := ?voa2x1) rfl (by kernel_rfl) (by kernel_rfl) (by kernel_rfl) (fun _ _ _ h => h) (Or.inl ⟨by rfl, ?hyoa2x1⟩) (by assumption) ?restoa2x1
                  case hyoa2x1 => (intro wz hSw; (try dsimp only at hSw); go_simp <;> (try with_reducible rfl))
                  try simp only [Act.put, List.setIfInBounds_toArray, List.set_cons_zero, List.set_cons_succ]
                  refine wpAnyH_take (i := 2) (oi := ⟨some 141, _, _, _, _, _⟩) (v := ?voa3x2) rfl (by kernel_rfl) (by kernel_rfl) (by kernel_rfl) (fun _ _ _ h => h) (Or.inl ⟨by rfl, ?hyoa3x2⟩) (by assumption) ?restoa3x2
                  case hyoa3x2 => (intro wz hSw; (try dsimp only at hSw); go_simp <;> (try with_reducible rfl))
                  try simp only [Act.put, List.setIfInBounds_toArray, List.set_cons_zero, List.set_cons_succ]
                  refine wpAnyH_take (i := 3) (oi := ⟨some 142, _, _, _, _, _⟩) (v := undef) rfl (by kernel_rfl) (by kernel_rfl) (by kernel_rfl) (fun _ _ _ h => h) (Or.inr ⟨by rfl, rfl⟩) (by assumption) ?_
                  try simp only [Act.put, List.setIfInBounds_toArray, List.set_cons_zero, List.set_cons_succ]
                  refine wpAnyH_take (i := 4) (oi := ⟨some 143, _, _, _, _, _⟩) (v := undef) rfl (by kernel_rfl) (by kernel_rfl) (by kernel_rfl) (fun _ _ _ h => h) (Or.inr ⟨by rfl, rfl⟩) (by assumption) ?_
                  try simp only [Act.put, List.setIfInBounds_toArray, List.set_cons_zero, List.set_cons_succ]
                  refine wpAnyH_take (i := 5) (oi := ⟨some 144, _, _, _, _, _⟩) (v := undef) rfl (by kernel_rfl) (by kernel_rfl) (by kernel_rfl) (fun _ _ _ h => h) (Or.inr ⟨by rfl, rfl⟩) (by assumption) ?_
                  try simp only [Act.put, List.setIfInBounds_toArray, List.set_cons_zero, List.set_cons_succ]
                  refine wpAnyH_take (i := 6) (oi := ⟨some 145, _, _, _, _, _⟩) (v := undef) rfl (by kernel_rfl) (by kernel_rfl) (by kernel_rfl) (fun _ _ _ h => h) (Or.inr ⟨by rfl, rfl⟩) (by assumption) ?_
                  try simp only [Act.put, List.setIfInBounds_toArray, List.set_cons_zero, List.set_cons_succ]
                  refine wpAnyH_take (i := 7) (oi := ⟨some 146, _, _, _, _, _⟩) (v := undef) rfl (by kernel_rfl) (by kernel_rfl) (by kernel_rfl) (fun _ _ _ h => h) (Or.inr ⟨by rfl, rfl⟩) (by assumption) ?_
                  try simp only [Act.put, List.setIfInBounds_toArray, List.set_cons_zero, List.set_cons_succ]
                  refine wpAnyH_take (i := 8) (oi := ⟨some 147, _, _, _, _, _⟩) (v := undef) rfl (by kernel_rfl) (by kernel_rfl) (by kernel_rfl) (fun _ _ _ h => h) (Or.inr ⟨by rfl, rfl⟩) (by assumption) ?_
                  try simp only [Act.put, List.setIfInBounds_toArray, List.set_cons_zero, List.set_cons_succ]
                  refine wpAnyH_take (i := 9) (oi := ⟨some 148, _, _, _, _, _⟩) (v := undef) rfl (by kernel_rfl) (by kernel_rfl) (by kernel_rfl) (fun _ _ _ h => h) (Or.inr ⟨by rfl, rfl⟩) (by assumption) ?_
                  try simp only [Act.put, List.setIfInBounds_toArray, List.set_cons_zero, List.set_cons_succ]
                  refine wpAnyH_take (i := 10) (oi := ⟨some 149, _, _, _, _, _⟩) (v := ?voa4x10) rfl (by kernel_rfl) (by kernel_rfl) (by kernel_rfl) (fun _ _ _ h => h) (Or.inl ⟨by rfl, ?hyoa4x10⟩) (by assumption) ?restoa4x10
                  case hyoa4x10 => (intro wz hSw; (try dsimp only at hSw); go_simp <;> (try with_reducible rfl))
                  try simp only [Act.put, List.setIfInBounds_toArray, List.set_cons_zero, List.set_cons_succ]
                  refine wpAnyH_take (i := 11) (oi := ⟨some 150, _, _, _, _, _⟩) (v := ?voa5x11) rfl (by kernel_rfl) (by kernel_rfl) (by kernel_rfl) (fun _ _ _ h => h) (Or.inl ⟨by rfl, ?hyoa5x11⟩) (by assumption) ?restoa5x11
                  case hyoa5x11 => (intro wz hSw; (try dsimp only at hSw); go_simp <;> (try with_reducible rfl))
                  try simp only [Act.put, List.setIfInBounds_toArray, List.set_cons_zero, List.set_cons_succ]
                  refine wpAnyH_take (i := 12) (oi := ⟨some 151, _, _, _, _, _⟩) (v := ?voa6x12) rfl (by kernel_rfl) (by kernel_rfl) (by kernel_rfl) (fun _ _ _ h => h) (Or.inl ⟨by rfl, ?hyoa6x12⟩) (by assumption) ?restoa6x12
                  case hyoa6x12 => (intro wz hSw; (try dsimp only at hSw); go_simp <;> (try with_reducible rfl))
                  try simp only [Act.put, List.setIfInBounds_toArray, List.set_cons_zero, List.set_cons_succ]
                  refine wpAnyH_take (i := 13) (oi := ⟨some 152, _, _, _, _, _⟩) (v := ?voa7x13) rfl (by kernel_rfl) (by kernel_rfl) (by kernel_rfl) (fun _ _ _ h => h) (Or.inl ⟨by rfl, ?hyoa7x13⟩) (by assumption) ?restoa7x13
                  case hyoa7x13 => (intro wz hSw; (try dsimp only at hSw); go_simp <;> (try with_reducible rfl))
                  try simp only [Act.put, List.setIfInBounds_toArray, List.set_cons_zero, List.set_cons_succ]
                  refine wpAnyH_take (i := 14) (oi := ⟨some 153, _, _, _, _, _⟩) (v := ?voa8x14) rfl (by kernel_rfl) (by kernel_rfl) (by kernel_rfl) (fun _ _ _ h => h) (Or.inl ⟨by rfl, ?hyoa8x14⟩) (by assumption) ?restoa8x14
                  case hyoa8x14 => (intro wz hSw; (try dsimp only at hSw); go_simp <;> (try with_reducible rfl))
                  try simp only [Act.put, List.setIfInBounds_toArray, List.set_cons_zero, List.set_cons_succ]
                  refine wpAnyH_take (i := 16) (oi := ⟨some 155, _, _, _, _, _⟩) (v := ?voa9x16) rfl (by kernel_rfl) (by kernel_rfl) (by kernel_rfl) (fun _ _ _ h => h) (Or.inl ⟨by rfl, ?hyoa9x16⟩) (by assumption) ?restoa9x16
                  case hyoa9x16 => (intro wz hSw; (try dsimp only at hSw); go_simp <;> (try with_reducible rfl))
                  try simp only [Act.put, List.setIfInBounds_toArray, List.set_cons_zero, List.set_cons_succ]
                  refine wpAnyH_take (i := 17) (oi := ⟨some 156, _, _, _, _, _⟩) (v := ?voa10x17) rfl (by kernel_rfl) (by kernel_rfl) (by kernel_rfl) (fun _ _ _ h => h) (Or.inl ⟨by rfl, ?hyoa10x17⟩) (by assumption) ?restoa10x17
                  case hyoa10x17 => (intro wz hSw; (try dsimp only at hSw); go_simp <;> (try with_reducible rfl))
                  try simp only [Act.put, List.setIfInBounds_toArray, List.set_cons_zero, List.set_cons_succ]
                  refine wpAnyH_take (i := 18) (oi := ⟨some 157, _, _, _, _, _⟩) (v := ?voa11x18) rfl (by kernel_rfl) (by kernel_rfl) (by kernel_rfl) (fun _ _ _ h => h) (Or.inl ⟨by rfl, ?hyoa11x18⟩) (by assumption) ?restoa11x18
                  case hyoa11x18 => (intro wz hSw; (try dsimp only at hSw); go_simp <;> (try with_reducible rfl))
                  try simp only [Act.put, List.setIfInBounds_toArray, List.set_cons_zero, List.set_cons_succ]
                  refine wpAnyH_take (i := 19) (oi := ⟨some 158, _, _, _, _, _⟩) (v := ?voa12x19) rfl (by kernel_rfl) (by kernel_rfl) (by kernel_rfl) (fun _ _ _ h => h) (Or.inl ⟨by rfl, ?hyoa12x19⟩) (by assumption) ?restoa12x19
                  case hyoa12x19 => (intro wz hSw; (try dsimp only at hSw); go_simp <;> (try with_reducible rfl))
                  try simp only [Act.put, List.setIfInBounds_toArray, List.set_cons_zero, List.set_cons_succ]
                  refine wpAnyH_take (i := 20) (oi := ⟨some 159, _, _, _, _, _⟩) (v := ?voa13x20) rfl (by kernel_rfl) (by kernel_rfl) (by kernel_rfl) (fun _ _ _ h => h) (Or.inl ⟨by rfl, ?hyoa13x20⟩) (by assumption) ?restoa13x20
                  case hyoa13x20 => (intro wz hSw; (try dsimp only at hSw); go_simp <;> (try with_reducible rfl))
                  try simp only [Act.put, List.setIfInBounds_toArray, List.set_cons_zero, List.set_cons_succ]
                  refine wpAnyH_take (i := 21) (oi := ⟨some 160, _, _, _, _, _⟩) (v := ?voa14x21) rfl (by kernel_rfl) (by kernel_rfl) (by kernel_rfl) (fun _ _ _ h => h) (Or.inl ⟨by rfl, ?hyoa14x21⟩) (by assumption) ?restoa14x21
                  case hyoa14x21 => (intro wz hSw; (try dsimp only at hSw); go_simp <;> (try with_reducible rfl))
                  try simp only [Act.put, List.setIfInBounds_toArray, List.set_cons_zero, List.set_cons_succ]
                  refine wpAnyH_take (i := 22) (oi := ⟨some 161, _, _, _, _, _⟩) (v := ?voa15x22) rfl (by kernel_rfl) (by kernel_rfl) (by kernel_rfl) (fun _ _ _ h => h) (Or.inl ⟨by rfl, ?hyoa15x22⟩) (by assumption) ?restoa15x22
                  case hyoa15x22 => (intro wz hSw; (try dsimp only at hSw); go_simp <;> (try with_reducible rfl))
                  try simp only [Act.put, List.setIfInBounds_toArray, List.set_cons_zero, List.set_cons_succ]
                  refine wpAnyH_ready (rs := [15]) (by kernel_rfl) (by simp) (AllReadyH.cons (o := ⟨some 154, _, _, _, _, _⟩) rfl (fun K hK => ?_) AllReadyH.nil)
                  go_simp
                  go_at_call 16
                  refine KFq.out.mono ?_
                  rintro e y9 ⟨rfl, k9, rfl⟩
                  (try go_wp2_with fail)
                  refine hK.out _ _ d4 (fun hHeld => ?_)
                  clear hK K
                  try simp only [Act.put, List.setIfInBounds_toArray, List.set_cons_zero, List.set_cons_succ]
                  refine wpAnyH_take (i := 23) (oi := ⟨some 162, _, _, _, _, _⟩) (v := ?voa16x23) rfl (by kernel_rfl) (by kernel_rfl) (by kernel_rfl) (fun _ _ _ h => h) (Or.inl ⟨by rfl, ?hyoa16x23⟩) (by assumption) ?restoa16x23
                  case hyoa16x23 => (intro wz hSw; (try dsimp only at hSw); go_simp <;> (try with_reducible rfl))
                  try simp only [Act.put, List.setIfInBounds_toArray, List.set_cons_zero, List.set_cons_succ]
                  refine wpAnyH_take (i := 24) (oi := ⟨some 163, _, _, _, _, _⟩) (v := ?voa17x24) rfl (by kernel_rfl) (by kernel_rfl) (by kernel_rfl) (fun _ _ _ h => h) (Or.inl ⟨by rfl, ?hyoa17x24⟩) (by assumption) ?restoa17x24
                  case hyoa17x24 => (intro wz hSw; (try dsimp only at hSw); go_simp <;> (try with_reducible rfl))
                  try simp only [Act.put, List.setIfInBounds_toArray, List.set_cons_zero, List.set_cons_succ]
                  refine wpAnyH_take (i := 25) (oi := ⟨some 164, _, _, _, _, _⟩) (v := ?voa18x25) rfl (by kernel_rfl) (by kernel_rfl) (by kernel_rfl) (fun _ _ _ h => h) (Or.inl ⟨by rfl, ?hyoa18x25⟩) (by assumption) ?restoa18x25
                  case hyoa18x25 => (intro wz hSw; (try dsimp only at hSw); go_simp <;> (try with_reducible rfl))
                  try simp only [Act.put, List.setIfInBounds_toArray, List.set_cons_zero, List.set_cons_succ]
                  refine wpAnyH_done (by kernel_rfl) ?_ _
                  have HEb := keep (HE.out.step (below_drewN (Below.refl _ W5) 1))
                  replace HE := keep (HE.out.step (below_drewN (Below.refl _ W5) (1 + k9)))
                  clear x0 x1 x2 x3 d4
                  go_wp2_with (first
                    | (go_at_call 16; refine (Floor_qs HE.out.qs HE.out.fl).mono ?_; rintro e y4 ⟨rfl, hb4⟩; have E4 := keep (HE.out.step hb4.out))
                    | (go_at_call 16; refine (Floor_qs HEb.out.qs HEb.out.fl).mono ?_; rintro e y4 ⟨rfl, hb4⟩; have E4 := keep (HEb.out.step hb4.out))
                    | (go_at_call 26; refine (KD.out _).mono ?_; rintro e w' ⟨rfl, rfl⟩)
                    | (go_at_call 17; refine (Len_qs E4.out.qs E4.out.ln).mono ?_; rintro e w' ⟨rfl, rfl⟩)
                    | (go_at_call 17; refine (Len_qs HE.out.qs HE.out.ln).mono ?_; rintro e w' ⟨rfl, rfl⟩)
                    | (go_at_call 27; refine (Flying_qs2 E4.out.qs E4.out.oc).mono ?_; rintro e y5 ⟨rfl, hb5⟩; have E5 := keep (E4.out.step hb5.out))
                    | (go_at_call 28; refine (Left_qs2 E5.out.qs E5.out.lf_).mono ?_; rintro e y6 ⟨rfl, hb6⟩; have E6 := keep (E5.out.step hb6.out)))
                  go_roundw
                  case rel => exact ⟨j + 1, _, _, by omega, by go_num, keep E6.out.qs⟩
                  case measure => simp [intOf]; omega
                · as_aux_lemma =>
                  have JQ := keep JW
                  obtain ⟨x0, x1, x2, x3⟩ := JB.cells
                  obtain ⟨_, d4, _⟩ := HS _ JW.bl
                  clear JB JW HS
                  have KFq := keep (Floor_qd (JQ.out.step (Below.refl _ W5).drew) H3D.out.1)
                  obtain ⟨f1, L, fy, lf, HE, hsm⟩ := FlS.of (f0 := f0) (d := dn) JQ.out (by rw [H3D.out.1, ← HF0.out]; exact H3D.out.2.1) (by rw [← HNN.out]; exact H3D.out.2.2) HLE.out
                  have KD := keep (fun W => Dist_any f0 f1 W)
                  rw [HE.out.di] at KD
                  have hfy0 : (0 : Int) ≤ (fy : Int) := by omega
                  have hlf0 : (0 : Int) ≤ (lf : Int) := by omega
                  have hL0 : (0 : Int) ≤ (L : Int) := by omega
                  have hL1 : (L : Int) ≤ 1024 := by have := HE.out.sm; have := HE.out.le; omega
                  have hdn1 : (dn : Int) ≤ 1024 := by omega
                  have hdn0 : (0 : Int) ≤ (dn : Int) := by omega
                  go_wp2
                  refine wp_region_held_drew (S := (fun w' => w'.cell? ⟨g, o + j * 6 + 4, none⟩ = some (.int .u32 xc))) (by kernel_rfl) d4 (fun hHeld => ?_)
                  refine wpAnyH_take (i := 0) (oi := ⟨some 139, _, _, _, _, _⟩) (v := ?vob1x0) rfl (by kernel_rfl) (by kernel_rfl) (by kernel_rfl) (fun _ _ _ h => h) (Or.inl ⟨by rfl, ?hyob1x0⟩) (by assumption) ?restob1x0
                  case hyob1x0 => (intro wz hSw; (try dsimp only at hSw); go_simp <;> (try with_reducible rfl))
                  try simp only [Act.put, List.setIfInBounds_toArray, List.set_cons_zero, List.set_cons_succ]
                  refine wpAnyH_take (i := 1) (oi := ⟨some 140, _, _, _, _, _⟩) (v := ?vob2x1) rfl (by kernel_rfl) (by kernel_rfl) (by kernel_rfl) (fun _ _ _ h => h) (Or.inl ⟨by rfl, ?hyob2x1⟩) (by assumption) ?restob2x1
                  case hyob2x1 => (intro wz hSw; (try dsimp only at hSw); go_simp <;> (try with_reducible rfl))
                  try simp only [Act.put, List.setIfInBounds_toArray, List.set_cons_zero, List.set_cons_succ]
                  refine wpAnyH_take (i := 2) (oi := ⟨some 141, _, _, _, _, _⟩) (v := ?vob3x2) rfl (by kernel_rfl) (by kernel_rfl) (by kernel_rfl) (fun _ _ _ h => h) (Or.inl ⟨by rfl, ?hyob3x2⟩) (by assumption) ?restob3x2
                  case hyob3x2 => (intro wz hSw; (try dsimp only at hSw); go_simp <;> (try with_reducible rfl))
                  try simp only [Act.put, List.setIfInBounds_toArray, List.set_cons_zero, List.set_cons_succ]
                  refine wpAnyH_take (i := 3) (oi := ⟨some 142, _, _, _, _, _⟩) (v := undef) rfl (by kernel_rfl) (by kernel_rfl) (by kernel_rfl) (fun _ _ _ h => h) (Or.inr ⟨by rfl, rfl⟩) (by assumption) ?_
                  try simp only [Act.put, List.setIfInBounds_toArray, List.set_cons_zero, List.set_cons_succ]
                  refine wpAnyH_take (i := 4) (oi := ⟨some 143, _, _, _, _, _⟩) (v := undef) rfl (by kernel_rfl) (by kernel_rfl) (by kernel_rfl) (fun _ _ _ h => h) (Or.inr ⟨by rfl, rfl⟩) (by assumption) ?_
                  try simp only [Act.put, List.setIfInBounds_toArray, List.set_cons_zero, List.set_cons_succ]
                  refine wpAnyH_take (i := 5) (oi := ⟨some 144, _, _, _, _, _⟩) (v := undef) rfl (by kernel_rfl) (by kernel_rfl) (by kernel_rfl) (fun _ _ _ h => h) (Or.inr ⟨by rfl, rfl⟩) (by assumption) ?_
                  try simp only [Act.put, List.setIfInBounds_toArray, List.set_cons_zero, List.set_cons_succ]
                  refine wpAnyH_take (i := 6) (oi := ⟨some 145, _, _, _, _, _⟩) (v := undef) rfl (by kernel_rfl) (by kernel_rfl) (by kernel_rfl) (fun _ _ _ h => h) (Or.inr ⟨by rfl, rfl⟩) (by assumption) ?_
                  try simp only [Act.put, List.setIfInBounds_toArray, List.set_cons_zero, List.set_cons_succ]
                  refine wpAnyH_take (i := 7) (oi := ⟨some 146, _, _, _, _, _⟩) (v := undef) rfl (by kernel_rfl) (by kernel_rfl) (by kernel_rfl) (fun _ _ _ h => h) (Or.inr ⟨by rfl, rfl⟩) (by assumption) ?_
                  try simp only [Act.put, List.setIfInBounds_toArray, List.set_cons_zero, List.set_cons_succ]
                  refine wpAnyH_take (i := 8) (oi := ⟨some 147, _, _, _, _, _⟩) (v := undef) rfl (by kernel_rfl) (by kernel_rfl) (by kernel_rfl) (fun _ _ _ h => h) (Or.inr ⟨by rfl, rfl⟩) (by assumption) ?_
                  try simp only [Act.put, List.setIfInBounds_toArray, List.set_cons_zero, List.set_cons_succ]
                  refine wpAnyH_take (i := 9) (oi := ⟨some 148, _, _, _, _, _⟩) (v := undef) rfl (by kernel_rfl) (by kernel_rfl) (by kernel_rfl) (fun _ _ _ h => h) (Or.inr ⟨by rfl, rfl⟩) (by assumption) ?_
                  try simp only [Act.put, List.setIfInBounds_toArray, List.set_cons_zero, List.set_cons_succ]
                  refine wpAnyH_take (i := 10) (oi := ⟨some 149, _, _, _, _, _⟩) (v := ?vob4x10) rfl (by kernel_rfl) (by kernel_rfl) (by kernel_rfl) (fun _ _ _ h => h) (Or.inl ⟨by rfl, ?hyob4x10⟩) (by assumption) ?restob4x10
                  case hyob4x10 => (intro wz hSw; (try dsimp only at hSw); go_simp <;> (try with_reducible rfl))
                  try simp only [Act.put, List.setIfInBounds_toArray, List.set_cons_zero, List.set_cons_succ]
                  refine wpAnyH_take (i := 11) (oi := ⟨some 150, _, _, _, _, _⟩) (v := ?vob5x11) rfl (by kernel_rfl) (by kernel_rfl) (by kernel_rfl) (fun _ _ _ h => h) (Or.inl ⟨by rfl, ?hyob5x11⟩) (by assumption) ?restob5x11
                  case hyob5x11 => (intro wz hSw; (try dsimp only at hSw); go_simp <;> (try with_reducible rfl))
                  try simp only [Act.put, List.setIfInBounds_toArray, List.set_cons_zero, List.set_cons_succ]
                  refine wpAnyH_take (i := 12) (oi := ⟨some 151, _, _, _, _, _⟩) (v := ?vob6x12) rfl (by kernel_rfl) (by kernel_rfl) (by kernel_rfl) (fun _ _ _ h => h) (Or.inl ⟨by rfl, ?hyob6x12⟩) (by assumption) ?restob6x12
                  case hyob6x12 => (intro wz hSw; (try dsimp only at hSw); go_simp <;> (try with_reducible rfl))
                  try simp only [Act.put, List.setIfInBounds_toArray, List.set_cons_zero, List.set_cons_succ]
                  refine wpAnyH_take (i := 13) (oi := ⟨some 152, _, _, _, _, _⟩) (v := ?vob7x13) rfl (by kernel_rfl) (by kernel_rfl) (by kernel_rfl) (fun _ _ _ h => h) (Or.inl ⟨by rfl, ?hyob7x13⟩) (by assumption) ?restob7x13
                  case hyob7x13 => (intro wz hSw; (try dsimp only at hSw); go_simp <;> (try with_reducible rfl))
                  try simp only [Act.put, List.setIfInBounds_toArray, List.set_cons_zero, List.set_cons_succ]
                  refine wpAnyH_take (i := 14) (oi := ⟨some 153, _, _, _, _, _⟩) (v := ?vob8x14) rfl (by kernel_rfl) (by kernel_rfl) (by kernel_rfl) (fun _ _ _ h => h) (Or.inl ⟨by rfl, ?hyob8x14⟩) (by assumption) ?restob8x14
                  case hyob8x14 => (intro wz hSw; (try dsimp only at hSw); go_simp <;> (try with_reducible rfl))
                  try simp only [Act.put, List.setIfInBounds_toArray, List.set_cons_zero, List.set_cons_succ]
                  refine wpAnyH_take (i := 16) (oi := ⟨some 155, _, _, _, _, _⟩) (v := ?vob9x16) rfl (by kernel_rfl) (by kernel_rfl) (by kernel_rfl) (fun _ _ _ h => h) (Or.inl ⟨by rfl, ?hyob9x16⟩) (by assumption) ?restob9x16
                  case hyob9x16 => (intro wz hSw; (try dsimp only at hSw); go_simp <;> (try with_reducible rfl))
                  try simp only [Act.put, List.setIfInBounds_toArray, List.set_cons_zero, List.set_cons_succ]
                  refine wpAnyH_take (i := 17) (oi := ⟨some 156, _, _, _, _, _⟩) (v := ?vob10x17) rfl (by kernel_rfl) (by kernel_rfl) (by kernel_rfl) (fun _ _ _ h => h) (Or.inl ⟨by rfl, ?hyob10x17⟩) (by assumption) ?restob10x17
                  case hyob10x17 => (intro wz hSw; (try dsimp only at hSw); go_simp <;> (try with_reducible rfl))
                  try simp only [Act.put, List.setIfInBounds_toArray, List.set_cons_zero, List.set_cons_succ]
                  refine wpAnyH_take (i := 18) (oi := ⟨some 157, _, _, _, _, _⟩) (v := ?vob11x18) rfl (by kernel_rfl) (by kernel_rfl) (by kernel_rfl) (fun _ _ _ h => h) (Or.inl ⟨by rfl, ?hyob11x18⟩) (by assumption) ?restob11x18
                  case hyob11x18 => (intro wz hSw; (try dsimp only at hSw); go_simp <;> (try with_reducible rfl))
                  try simp only [Act.put, List.setIfInBounds_toArray, List.set_cons_zero, List.set_cons_succ]
                  refine wpAnyH_take (i := 19) (oi := ⟨some 158, _, _, _, _, _⟩) (v := ?vob12x19) rfl (by kernel_rfl) (by kernel_rfl) (by kernel_rfl) (fun _ _ _ h => h) (Or.inl ⟨by rfl, ?hyob12x19⟩) (by assumption) ?restob12x19
                  case hyob12x19 => (intro wz hSw; (try dsimp only at hSw); go_simp <;> (try with_reducible rfl))
                  try simp only [Act.put, List.setIfInBounds_toArray, List.set_cons_zero, List.set_cons_succ]
                  refine wpAnyH_take (i := 20) (oi := ⟨some 159, _, _, _, _, _⟩) (v := ?vob13x20) rfl (by kernel_rfl) (by kernel_rfl) (by kernel_rfl) (fun _ _ _ h => h) (Or.inl ⟨by rfl, ?hyob13x20⟩) (by assumption) ?restob13x20
                  case hyob13x20 => (intro wz hSw; (try dsimp only at hSw); go_simp <;> (try with_reducible rfl))
                  try simp only [Act.put, List.setIfInBounds_toArray, List.set_cons_zero, List.set_cons_succ]
                  refine wpAnyH_take (i := 21) (oi := ⟨some 160, _, _, _, _, _⟩) (v := ?vob14x21) rfl (by kernel_rfl) (by kernel_rfl) (by kernel_rfl) (fun _ _ _ h => h) (Or.inl ⟨by rfl, ?hyob14x21⟩) (by assumption) ?restob14x21
                  case hyob14x21 => (intro wz hSw; (try dsimp only at hSw); go_simp <;> (try with_reducible rfl))
                  try simp only [Act.put, List.setIfInBounds_toArray, List.set_cons_zero, List.set_cons_succ]
                  refine wpAnyH_take (i := 22) (oi := ⟨some 161, _, _, _, _, _⟩) (v := ?vob15x22) rfl (by kernel_rfl) (by kernel_rfl) (by kernel_rfl) (fun _ _ _ h => h) (Or.inl ⟨by rfl, ?hyob15x22⟩) (by assumption) ?restob15x22
                  case hyob15x22 => (intro wz hSw; (try dsimp only at hSw); go_simp <;> (try with_reducible rfl))
                  try simp only [Act.put, List.setIfInBounds_toArray, List.set_cons_zero, List.set_cons_succ]
                  refine wpAnyH_ready (rs := [15]) (by kernel_rfl) (by simp) (AllReadyH.cons (o := ⟨some 154, _, _, _, _, _⟩) rfl (fun K hK => ?_) AllReadyH.nil)
                  go_simp
                  go_at_call 16
                  refine KFq.out.mono ?_
                  rintro e y9 ⟨rfl, k9, rfl⟩
                  (try go_wp2_with fail)
                  refine hK.out _ _ d4 (fun hHeld => ?_)
                  clear hK K
                  try simp only [Act.put, List.setIfInBounds_toArray, List.set_cons_zero, List.set_cons_succ]
                  refine wpAnyH_take (i := 23) (oi := ⟨some 162, _, _, _, _, _⟩) (v := ?vob16x23) rfl (by kernel_rfl) (by kernel_rfl) (by kernel_rfl) (fun _ _ _ h => h) (Or.inl ⟨by rfl, ?hyob16x23⟩) (by assumption) ?restob16x23
                  case hyob16x23 => (intro wz hSw; (try dsimp only at hSw); go_simp <;> (try with_reducible rfl))
                  try simp only [Act.put, List.setIfInBounds_toArray, List.set_cons_zero, List.set_cons_succ]
                  refine wpAnyH_take (i := 24) (oi := ⟨some 163, _, _, _, _, _⟩) (v := ?vob17x24) rfl (by kernel_rfl) (by kernel_rfl) (by kernel_rfl) (fun _ _ _ h => h) (Or.inl ⟨by rfl, ?hyob17x24⟩) (by assumption) ?restob17x24
                  case hyob17x24 => (intro wz hSw; (try dsimp only at hSw); go_simp <;> (try with_reducible rfl))
                  try simp only [Act.put, List.setIfInBounds_toArray, List.set_cons_zero, List.set_cons_succ]
                  refine wpAnyH_take (i := 25) (oi := ⟨some 164, _, _, _, _, _⟩) (v := ?vob18x25) rfl (by kernel_rfl) (by kernel_rfl) (by kernel_rfl) (fun _ _ _ h => h) (Or.inl ⟨by rfl, ?hyob18x25⟩) (by assumption) ?restob18x25
                  case hyob18x25 => (intro wz hSw; (try dsimp only at hSw); go_simp <;> (try with_reducible rfl))
                  try simp only [Act.put, List.setIfInBounds_toArray, List.set_cons_zero, List.set_cons_succ]
                  refine wpAnyH_done (by kernel_rfl) ?_ _
                  have HEb := keep (HE.out.step (below_drewN (Below.refl _ W5) 1))
                  replace HE := keep (HE.out.step (below_drewN (Below.refl _ W5) (1 + k9)))
                  clear x0 x1 x2 x3 d4
                  go_wp2_with (first
                    | (go_at_call 16; refine (Floor_qs HE.out.qs HE.out.fl).mono ?_; rintro e y4 ⟨rfl, hb4⟩; have E4 := keep (HE.out.step hb4.out))
                    | (go_at_call 16; refine (Floor_qs HEb.out.qs HEb.out.fl).mono ?_; rintro e y4 ⟨rfl, hb4⟩; have E4 := keep (HEb.out.step hb4.out))
                    | (go_at_call 26; refine (KD.out _).mono ?_; rintro e w' ⟨rfl, rfl⟩)
                    | (go_at_call 17; refine (Len_qs E4.out.qs E4.out.ln).mono ?_; rintro e w' ⟨rfl, rfl⟩)
                    | (go_at_call 17; refine (Len_qs HE.out.qs HE.out.ln).mono ?_; rintro e w' ⟨rfl, rfl⟩)
                    | (go_at_call 27; refine (Flying_qs2 E4.out.qs E4.out.oc).mono ?_; rintro e y5 ⟨rfl, hb5⟩; have E5 := keep (E4.out.step hb5.out))
                    | (go_at_call 28; refine (Left_qs2 E5.out.qs E5.out.lf_).mono ?_; rintro e y6 ⟨rfl, hb6⟩; have E6 := keep (E5.out.step hb6.out)))
                  go_roundw
                  case rel => exact ⟨j + 1, _, _, by omega, by go_num, keep E6.out.qs⟩
                  case measure => simp [intOf]; omega
                · as_aux_lemma =>
                  have JQ := keep JW
                  obtain ⟨x0, x1, x2, x3⟩ := JB.cells
                  obtain ⟨_, d4, _⟩ := HS _ JW.bl
                  clear JB JW HS
                  have KFq := keep (Floor_qd (JQ.out.step (Below.refl _ W5).drew) H3D.out.1)
                  obtain ⟨f1, L, fy, lf, HE, hsm⟩ := FlS.of (f0 := f0) (d := dn) JQ.out (by rw [H3D.out.1, ← HF0.out]; exact H3D.out.2.1) (by rw [← HNN.out]; exact H3D.out.2.2) HLE.out
                  have KD := keep (fun W => Dist_any f0 f1 W)
                  rw [HE.out.di] at KD
                  have hfy0 : (0 : Int) ≤ (fy : Int) := by omega
                  have hlf0 : (0 : Int) ≤ (lf : Int) := by omega
                  have hL0 : (0 : Int) ≤ (L : Int) := by omega
                  have hL1 : (L : Int) ≤ 1024 := by have := HE.out.sm; have := HE.out.le; omega
                  have hdn1 : (dn : Int) ≤ 1024 := by omega
                  have hdn0 : (0 : Int) ≤ (dn : Int) := by omega
                  go_wp2
                  refine wp_region_held_drew (S := (fun w' => w'.cell? ⟨g, o + j * 6 + 4, none⟩ = some (.int .u32 xc))) (by kernel_rfl) d4 (fun hHeld => ?_)
                  refine wpAnyH_take (i := 0) (oi := ⟨some 139, _, _, _, _, _⟩) (v := ?voc1x0) rfl (by kernel_rfl) (by kernel_rfl) (by kernel_rfl) (fun _ _ _ h => h) (Or.inl ⟨by rfl, ?hyoc1x0⟩) (by assumption) ?restoc1x0
                  case hyoc1x0 => (intro wz hSw; (try dsimp only at hSw); go_simp <;> (try with_reducible rfl))
                  try simp only [Act.put, List.setIfInBounds_toArray, List.set_cons_zero, List.set_cons_succ]
                  refine wpAnyH_take (i := 1) (oi := ⟨some 140, _, _, _, _, _⟩) (v := ?voc2x1) rfl (by kernel_rfl) (by kernel_rfl) (by kernel_rfl) (fun _ _ _ h => h) (Or.inl ⟨by rfl, ?hyoc2x1⟩) (by assumption) ?restoc2x1
                  case hyoc2x1 => (intro wz hSw; (try dsimp only at hSw); go_simp <;> (try with_reducible rfl))
                  try simp only [Act.put, List.setIfInBounds_toArray, List.set_cons_zero, List.set_cons_succ]
                  refine wpAnyH_take (i := 2) (oi := ⟨some 141, _, _, _, _, _⟩) (v := ?voc3x2) rfl (by kernel_rfl) (by kernel_rfl) (by kernel_rfl) (fun _ _ _ h => h) (Or.inl ⟨by rfl, ?hyoc3x2⟩) (by assumption) ?restoc3x2
                  case hyoc3x2 => (intro wz hSw; (try dsimp only at hSw); go_simp <;> (try with_reducible rfl))
                  try simp only [Act.put, List.setIfInBounds_toArray, List.set_cons_zero, List.set_cons_succ]
                  refine wpAnyH_take (i := 3) (oi := ⟨some 142, _, _, _, _, _⟩) (v := undef) rfl (by kernel_rfl) (by kernel_rfl) (by kernel_rfl) (fun _ _ _ h => h) (Or.inr ⟨by rfl, rfl⟩) (by assumption) ?_
                  try simp only [Act.put, List.setIfInBounds_toArray, List.set_cons_zero, List.set_cons_succ]
                  refine wpAnyH_take (i := 4) (oi := ⟨some 143, _, _, _, _, _⟩) (v := undef) rfl (by kernel_rfl) (by kernel_rfl) (by kernel_rfl) (fun _ _ _ h => h) (Or.inr ⟨by rfl, rfl⟩) (by assumption) ?_
                  try simp only [Act.put, List.setIfInBounds_toArray, List.set_cons_zero, List.set_cons_succ]
                  refine wpAnyH_take (i := 5) (oi := ⟨some 144, _, _, _, _, _⟩) (v := undef) rfl (by kernel_rfl) (by kernel_rfl) (by kernel_rfl) (fun _ _ _ h => h) (Or.inr ⟨by rfl, rfl⟩) (by assumption) ?_
                  try simp only [Act.put, List.setIfInBounds_toArray, List.set_cons_zero, List.set_cons_succ]
                  refine wpAnyH_take (i := 6) (oi := ⟨some 145, _, _, _, _, _⟩) (v := undef) rfl (by kernel_rfl) (by kernel_rfl) (by kernel_rfl) (fun _ _ _ h => h) (Or.inr ⟨by rfl, rfl⟩) (by assumption) ?_
                  try simp only [Act.put, List.setIfInBounds_toArray, List.set_cons_zero, List.set_cons_succ]
                  refine wpAnyH_take (i := 7) (oi := ⟨some 146, _, _, _, _, _⟩) (v := undef) rfl (by kernel_rfl) (by kernel_rfl) (by kernel_rfl) (fun _ _ _ h => h) (Or.inr ⟨by rfl, rfl⟩) (by assumption) ?_
                  try simp only [Act.put, List.setIfInBounds_toArray, List.set_cons_zero, List.set_cons_succ]
                  refine wpAnyH_take (i := 8) (oi := ⟨some 147, _, _, _, _, _⟩) (v := undef) rfl (by kernel_rfl) (by kernel_rfl) (by kernel_rfl) (fun _ _ _ h => h) (Or.inr ⟨by rfl, rfl⟩) (by assumption) ?_
                  try simp only [Act.put, List.setIfInBounds_toArray, List.set_cons_zero, List.set_cons_succ]
                  refine wpAnyH_take (i := 9) (oi := ⟨some 148, _, _, _, _, _⟩) (v := undef) rfl (by kernel_rfl) (by kernel_rfl) (by kernel_rfl) (fun _ _ _ h => h) (Or.inr ⟨by rfl, rfl⟩) (by assumption) ?_
                  try simp only [Act.put, List.setIfInBounds_toArray, List.set_cons_zero, List.set_cons_succ]
                  refine wpAnyH_take (i := 10) (oi := ⟨some 149, _, _, _, _, _⟩) (v := ?voc4x10) rfl (by kernel_rfl) (by kernel_rfl) (by kernel_rfl) (fun _ _ _ h => h) (Or.inl ⟨by rfl, ?hyoc4x10⟩) (by assumption) ?restoc4x10
                  case hyoc4x10 => (intro wz hSw; (try dsimp only at hSw); go_simp <;> (try with_reducible rfl))
                  try simp only [Act.put, List.setIfInBounds_toArray, List.set_cons_zero, List.set_cons_succ]
                  refine wpAnyH_take (i := 11) (oi := ⟨some 150, _, _, _, _, _⟩) (v := ?voc5x11) rfl (by kernel_rfl) (by kernel_rfl) (by kernel_rfl) (fun _ _ _ h => h) (Or.inl ⟨by rfl, ?hyoc5x11⟩) (by assumption) ?restoc5x11
                  case hyoc5x11 => (intro wz hSw; (try dsimp only at hSw); go_simp <;> (try with_reducible rfl))
                  try simp only [Act.put, List.setIfInBounds_toArray, List.set_cons_zero, List.set_cons_succ]
                  refine wpAnyH_take (i := 12) (oi := ⟨some 151, _, _, _, _, _⟩) (v := ?voc6x12) rfl (by kernel_rfl) (by kernel_rfl) (by kernel_rfl) (fun _ _ _ h => h) (Or.inl ⟨by rfl, ?hyoc6x12⟩) (by assumption) ?restoc6x12
                  case hyoc6x12 => (intro wz hSw; (try dsimp only at hSw); go_simp <;> (try with_reducible rfl))
                  try simp only [Act.put, List.setIfInBounds_toArray, List.set_cons_zero, List.set_cons_succ]
                  refine wpAnyH_take (i := 13) (oi := ⟨some 152, _, _, _, _, _⟩) (v := ?voc7x13) rfl (by kernel_rfl) (by kernel_rfl) (by kernel_rfl) (fun _ _ _ h => h) (Or.inl ⟨by rfl, ?hyoc7x13⟩) (by assumption) ?restoc7x13
                  case hyoc7x13 => (intro wz hSw; (try dsimp only at hSw); go_simp <;> (try with_reducible rfl))
                  try simp only [Act.put, List.setIfInBounds_toArray, List.set_cons_zero, List.set_cons_succ]
                  refine wpAnyH_take (i := 14) (oi := ⟨some 153, _, _, _, _, _⟩) (v := ?voc8x14) rfl (by kernel_rfl) (by kernel_rfl) (by kernel_rfl) (fun _ _ _ h => h) (Or.inl ⟨by rfl, ?hyoc8x14⟩) (by assumption) ?restoc8x14
                  case hyoc8x14 => (intro wz hSw; (try dsimp only at hSw); go_simp <;> (try with_reducible rfl))
                  try simp only [Act.put, List.setIfInBounds_toArray, List.set_cons_zero, List.set_cons_succ]
                  refine wpAnyH_take (i := 16) (oi := ⟨some 155, _, _, _, _, _⟩) (v := ?voc9x16) rfl (by kernel_rfl) (by kernel_rfl) (by kernel_rfl) (fun _ _ _ h => h) (Or.inl ⟨by rfl, ?hyoc9x16⟩) (by assumption) ?restoc9x16
                  case hyoc9x16 => (intro wz hSw; (try dsimp only at hSw); go_simp <;> (try with_reducible rfl))
                  try simp only [Act.put, List.setIfInBounds_toArray, List.set_cons_zero, List.set_cons_succ]
                  refine wpAnyH_take (i := 17) (oi := ⟨some 156, _, _, _, _, _⟩) (v := ?voc10x17) rfl (by kernel_rfl) (by kernel_rfl) (by kernel_rfl) (fun _ _ _ h => h) (Or.inl ⟨by rfl, ?hyoc10x17⟩) (by assumption) ?restoc10x17
                  case hyoc10x17 => (intro wz hSw; (try dsimp only at hSw); go_simp <;> (try with_reducible rfl))
                  try simp only [Act.put, List.setIfInBounds_toArray, List.set_cons_zero, List.set_cons_succ]
                  refine wpAnyH_take (i := 18) (oi := ⟨some 157, _, _, _, _, _⟩) (v := ?voc11x18) rfl (by kernel_rfl) (by kernel_rfl) (by kernel_rfl) (fun _ _ _ h => h) (Or.inl ⟨by rfl, ?hyoc11x18⟩) (by assumption) ?restoc11x18
                  case hyoc11x18 => (intro wz hSw; (try dsimp only at hSw); go_simp <;> (try with_reducible rfl))
                  try simp only [Act.put, List.setIfInBounds_toArray, List.set_cons_zero, List.set_cons_succ]
                  refine wpAnyH_take (i := 19) (oi := ⟨some 158, _, _, _, _, _⟩) (v := ?voc12x19) rfl (by kernel_rfl) (by kernel_rfl) (by kernel_rfl) (fun _ _ _ h => h) (Or.inl ⟨by rfl, ?hyoc12x19⟩) (by assumption) ?restoc12x19
                  case hyoc12x19 => (intro wz hSw; (try dsimp only at hSw); go_simp <;> (try with_reducible rfl))
                  try simp only [Act.put, List.setIfInBounds_toArray, List.set_cons_zero, List.set_cons_succ]
                  refine wpAnyH_take (i := 20) (oi := ⟨some 159, _, _, _, _, _⟩) (v := ?voc13x20) rfl (by kernel_rfl) (by kernel_rfl) (by kernel_rfl) (fun _ _ _ h => h) (Or.inl ⟨by rfl, ?hyoc13x20⟩) (by assumption) ?restoc13x20
                  case hyoc13x20 => (intro wz hSw; (try dsimp only at hSw); go_simp <;> (try with_reducible rfl))
                  try simp only [Act.put, List.setIfInBounds_toArray, List.set_cons_zero, List.set_cons_succ]
                  refine wpAnyH_take (i := 21) (oi := ⟨some 160, _, _, _, _, _⟩) (v := ?voc14x21) rfl (by kernel_rfl) (by kernel_rfl) (by kernel_rfl) (fun _ _ _ h => h) (Or.inl ⟨by rfl, ?hyoc14x21⟩) (by assumption) ?restoc14x21
                  case hyoc14x21 => (intro wz hSw; (try dsimp only at hSw); go_simp <;> (try with_reducible rfl))
                  try simp only [Act.put, List.setIfInBounds_toArray, List.set_cons_zero, List.set_cons_succ]
                  refine wpAnyH_take (i := 22) (oi := ⟨some 161, _, _, _, _, _⟩) (v := ?voc15x22) rfl (by kernel_rfl) (by kernel_rfl) (by kernel_rfl) (fun _ _ _ h => h) (Or.inl ⟨by rfl, ?hyoc15x22⟩) (by assumption) ?restoc15x22
                  case hyoc15x22 => (intro wz hSw; (try dsimp only at hSw); go_simp <;> (try with_reducible rfl))
                  try simp only [Act.put, List.setIfInBounds_toArray, List.set_cons_zero, List.set_cons_succ]
                  refine wpAnyH_ready (rs := [15]) (by kernel_rfl) (by simp) (AllReadyH.cons (o := ⟨some 154, _, _, _, _, _⟩) rfl (fun K hK => ?_) AllReadyH.nil)
                  go_simp
                  go_at_call 16
                  refine KFq.out.mono ?_
                  rintro e y9 ⟨rfl, k9, rfl⟩
                  (try go_wp2_with fail)
                  refine hK.out _ _ d4 (fun hHeld => ?_)
                  clear hK K
                  try simp only [Act.put, List.setIfInBounds_toArray, List.set_cons_zero, List.set_cons_succ]
                  refine wpAnyH_take (i := 23) (oi := ⟨some 162, _, _, _, _, _⟩) (v := ?voc16x23) rfl (by kernel_rfl) (by kernel_rfl) (by kernel_rfl) (fun _ _ _ h => h) (Or.inl ⟨by rfl, ?hyoc16x23⟩) (by assumption) ?restoc16x23
                  case hyoc16x23 => (intro wz hSw; (try dsimp only at hSw); go_simp <;> (try with_reducible rfl))
                  try simp only [Act.put, List.setIfInBounds_toArray, List.set_cons_zero, List.set_cons_succ]
                  refine wpAnyH_take (i := 24) (oi := ⟨some 163, _, _, _, _, _⟩) (v := ?voc17x24) rfl (by kernel_rfl) (by kernel_rfl) (by kernel_rfl) (fun _ _ _ h => h) (Or.inl ⟨by rfl, ?hyoc17x24⟩) (by assumption) ?restoc17x24
                  case hyoc17x24 => (intro wz hSw; (try dsimp only at hSw); go_simp <;> (try with_reducible rfl))
                  try simp only [Act.put, List.setIfInBounds_toArray, List.set_cons_zero, List.set_cons_succ]
                  refine wpAnyH_take (i := 25) (oi := ⟨some 164, _, _, _, _, _⟩) (v := ?voc18x25) rfl (by kernel_rfl) (by kernel_rfl) (by kernel_rfl) (fun _ _ _ h => h) (Or.inl ⟨by rfl, ?hyoc18x25⟩) (by assumption) ?restoc18x25
                  case hyoc18x25 => (intro wz hSw; (try dsimp only at hSw); go_simp <;> (try with_reducible rfl))
                  try simp only [Act.put, List.setIfInBounds_toArray, List.set_cons_zero, List.set_cons_succ]
                  refine wpAnyH_done (by kernel_rfl) ?_ _
                  have HEb := keep (HE.out.step (below_drewN (Below.refl _ W5) 1))
                  replace HE := keep (HE.out.step (below_drewN (Below.refl _ W5) (1 + k9)))
                  clear x0 x1 x2 x3 d4
                  go_wp2_with (first
                    | (go_at_call 16; refine (Floor_qs HE.out.qs HE.out.fl).mono ?_; rintro e y4 ⟨rfl, hb4⟩; have E4 := keep (HE.out.step hb4.out))
                    | (go_at_call 16; refine (Floor_qs HEb.out.qs HEb.out.fl).mono ?_; rintro e y4 ⟨rfl, hb4⟩; have E4 := keep (HEb.out.step hb4.out))
                    | (go_at_call 26; refine (KD.out _).mono ?_; rintro e w' ⟨rfl, rfl⟩)
                    | (go_at_call 17; refine (Len_qs E4.out.qs E4.out.ln).mono ?_; rintro e w' ⟨rfl, rfl⟩)
                    | (go_at_call 17; refine (Len_qs HE.out.qs HE.out.ln).mono ?_; rintro e w' ⟨rfl, rfl⟩)
                    | (go_at_call 27; refine (Flying_qs2 E4.out.qs E4.out.oc).mono ?_; rintro e y5 ⟨rfl, hb5⟩; have E5 := keep (E4.out.step hb5.out))
                    | (go_at_call 28; refine (Left_qs2 E5.out.qs E5.out.lf_).mono ?_; rintro e y6 ⟨rfl, hb6⟩; have E6 := keep (E5.out.step hb6.out)))
                  go_roundw
                  case rel => exact ⟨j + 1, _, _, by omega, by go_num, keep E6.out.qs⟩
                  case measure => simp [intOf]; omega
              · as_aux_lemma =>
                have KA2 := keep (fun z W (hb : Below y0.heap.size y0 W) => fl_no (R0.out.step hb) cu z (b1, b2, b3) (Bool.eq_false_iff.2 hre))
                unfold ackNone at KA2
                go_region_held3 (fun w' => w'.cell? ⟨g, o + j * 6 + 1, none⟩ = some (.int .i64 xn) ∧ w'.cell? ⟨g, o + j * 6 + 4, none⟩ = some (.int .u32 xc) ∧ w'.cell? ⟨g, o + j * 6 + 5, none⟩ = some (.slice b1 b2 b3))
                  (first
                    | with_reducible exact HS _ R0.out.bl.drew
                    | with_reducible exact HS _ (up R0.out.bl (below_lay _ _)).drew
                    | with_reducible exact HS _ (up R0.out.bl.drew (below_lay _ _))
                    | with_reducible exact HS _ H3.out.1.bl
                    | with_reducible exact HS _ (up H3.out.1.bl (below_lay _ _))
                    | with_reducible exact HS _ ((((H3.out.1.bl.setCell (p := ⟨y0.heap.size, 0, none⟩) R0.out.bl.size _).setCell (p := ⟨y0.heap.size, 1, none⟩) R0.out.bl.size _).setCell (p := ⟨y0.heap.size, 2, none⟩) R0.out.bl.size _).setCell (p := ⟨y0.heap.size, 3, none⟩) R0.out.bl.size _)
                    | with_reducible exact HS _ (((((up H3.out.1.bl (below_lay _ _)).setCell (p := ⟨y3.heap.size, 0, none⟩) H3.out.1.bl.size _).setCell (p := ⟨y3.heap.size, 1, none⟩) H3.out.1.bl.size _).setCell (p := ⟨y3.heap.size, 2, none⟩) H3.out.1.bl.size _).setCell (p := ⟨y3.heap.size, 3, none⟩) H3.out.1.bl.size _))
                  (first
                  | (go_at_call 20; refine (bounded_same _ _).mono ?_; rintro e w' ⟨⟨z, rfl⟩, rfl⟩)
                  | (go_at_call 23; refine (KA2.out z _ (by first | with_reducible exact (Below.refl _ y0).drew | with_reducible exact (below_lay y0 _).drew)).mono ?_
                     rintro e y3 ⟨rfl, H3⟩
                     first
                     | (have hbx : RsB y3 y0.heap.size 0 0 false false := (H3.out.2.block y0.heap.size (by simp)).trans (heap_alloc_new y0 _)
                        obtain ⟨x0, x1, x2, x3⟩ := hbx.cells
                        obtain ⟨p0, p1, p2, p3⟩ := hbx.fzs)
                     | skip))
                all_goals
                  first
                  | (have JW := H3.out.1.step (below_lay y3 (.cells #[.int .i64 0, .int .i64 0, .bool false, .bool false] 54))
                     have JB : RsB (y3.alloc (.cells #[.int .i64 0, .int .i64 0, .bool false, .bool false] 54)) y3.heap.size 0 0 false false := heap_alloc_new y3 _
                     obtain ⟨W5, hW5⟩ : ∃ W5, y3.alloc (.cells #[.int .i64 0, .int .i64 0, .bool false, .bool false] 54) = W5 := ⟨_, rfl⟩
                     obtain ⟨bx, hbx2⟩ : ∃ bx, y3.heap.size = bx := ⟨_, rfl⟩
                     rw [hW5] at JW JB ⊢
                     rw [hbx2] at JB ⊢
                     clear hW5 hbx2)
                  | (have JB := res4_at hbx 0 0 false false
                     have JW := H3.out.1.apart (gb := y0.heap.size) R0.out.bl.size (fun hc => absurd (R0.out.qa.olt _ hc) (Nat.lt_irrefl _)) (fun hc => absurd (R0.out.qa.flt _ hc) (Nat.lt_irrefl _)) ((((part_set y3 y0.heap.size 0 (.int .i64 0)).trans (part_set _ y0.heap.size 1 (.int .i64 0)) fun i hi => .inl hi).trans (part_set _ y0.heap.size 2 (.bool false)) fun i hi => .inl hi).trans (part_set _ y0.heap.size 3 (.bool false)) fun i hi => .inl hi)
                     obtain ⟨W5, hW5⟩ : ∃ W5, (((y3.setCell ⟨y0.heap.size, 0, none⟩ (.int .i64 0)).setCell ⟨y0.heap.size, 1, none⟩ (.int .i64 0)).setCell ⟨y0.heap.size, 2, none⟩ (.bool false)).setCell ⟨y0.heap.size, 3, none⟩ (.bool false) = W5 := ⟨_, rfl⟩
                     obtain ⟨bx, hbx2⟩ : ∃ bx, y0.heap.size = bx := ⟨_, rfl⟩
                     rw [hW5] at JW JB ⊢
                     rw [hbx2] at JB ⊢
                     clear hW5 hbx2 hbx x0 x1 x2 x3 p0 p1 p2 p3)
                · as_aux_lemma =>
                  have JQ := keep JW
                  obtain ⟨x0, x1, x2, x3⟩ := JB.cells
                  obtain ⟨_, d4, _⟩ := HS _ JW.bl
                  clear JB JW HS
                  obtain ⟨f1, L, fy, lf, HE, hsm⟩ := FlS.of (f0 := f0) (d := 0) JQ.out (by rw [HF0.out]; exact dist_self f0) (by rw [HNN.out]; rfl) HLE.out
                  have KD := keep (fun W => Dist_any f0 f1 W)
                  rw [HE.out.di] at KD
                  have hfy0 : (0 : Int) ≤ (fy : Int) := by omega
                  have hlf0 : (0 : Int) ≤ (lf : Int) := by omega
                  have hL0 : (0 : Int) ≤ (L : Int) := by omega
                  have hL1 : (L : Int) ≤ 1024 := by have := HE.out.sm; have := HE.out.le; omega
                  go_wp2
                  refine wp_region_held_drew (S := (fun w' => w'.cell? ⟨bx, 0, none⟩ = some (.int .i64 0) ∧ w'.cell? ⟨bx, 3, none⟩ = some (.bool false))) (by kernel_rfl) ⟨x0, x3⟩ (fun hHeld => ?_)
                  refine wpAnyH_take (i := 0) (oi := ⟨some 139, _, _, _, _, _⟩) (v := ?vna1x0) rfl (by kernel_rfl) (by kernel_rfl) (by kernel_rfl) (fun _ _ _ h => h) (Or.inl ⟨by rfl, ?hyna1x0⟩) (by assumption) ?restna1x0
                  case hyna1x0 => (intro wz hSw; obtain ⟨hS0, hS3⟩ := hSw; go_simp <;> (try with_reducible rfl))
                  try simp only [Act.put, List.setIfInBounds_toArray, List.set_cons_zero, List.set_cons_succ]
                  refine wpAnyH_take (i := 1) (oi := ⟨some 140, _, _, _, _, _⟩) (v := ?vna2x1) rfl (by kernel_rfl) (by kernel_rfl) (by kernel_rfl) (fun _ _ _ h => h) (Or.inl ⟨by rfl, ?hyna2x1⟩) (by assumption) ?restna2x1
                  case hyna2x1 => (intro wz hSw; obtain ⟨hS0, hS3⟩ := hSw; go_simp <;> (try with_reducible rfl))
                  try simp only [Act.put, List.setIfInBounds_toArray, List.set_cons_zero, List.set_cons_succ]
                  refine wpAnyH_take (i := 2) (oi := ⟨some 141, _, _, _, _, _⟩) (v := ?vna3x2) rfl (by kernel_rfl) (by kernel_rfl) (by kernel_rfl) (fun _ _ _ h => h) (Or.inl ⟨by rfl, ?hyna3x2⟩) (by assumption) ?restna3x2
                  case hyna3x2 => (intro wz hSw; obtain ⟨hS0, hS3⟩ := hSw; go_simp <;> (try with_reducible rfl))
                  try simp only [Act.put, List.setIfInBounds_toArray, List.set_cons_zero, List.set_cons_succ]
                  refine wpAnyH_take (i := 3) (oi := ⟨some 142, _, _, _, _, _⟩) (v := ?vna4x3) rfl (by kernel_rfl) (by kernel_rfl) (by kernel_rfl) (fun _ _ _ h => h) (Or.inl ⟨by rfl, ?hyna4x3⟩) (by assumption) ?restna4x3
                  case hyna4x3 => (intro wz hSw; obtain ⟨hS0, hS3⟩ := hSw; go_simp <;> (try with_reducible rfl))
                  try simp only [Act.put, List.setIfInBounds_toArray, List.set_cons_zero, List.set_cons_succ]
                  refine wpAnyH_take (i := 4) (oi := ⟨some 143, _, _, _, _, _⟩) (v := ?vna5x4) rfl (by kernel_rfl) (by kernel_rfl) (by kernel_rfl) (fun _ _ _ h => h) (Or.inl ⟨by rfl, ?hyna5x4⟩) (by assumption) ?restna5x4
                  case hyna5x4 => (intro wz hSw; obtain ⟨hS0, hS3⟩ := hSw; go_simp <;> (try with_reducible rfl))
                  try simp only [Act.put, List.setIfInBounds_toArray, List.set_cons_zero, List.set_cons_succ]
                  refine wpAnyH_take (i := 5) (oi := ⟨some 144, _, _, _, _, _⟩) (v := ?vna6x5) rfl (by kernel_rfl) (by kernel_rfl) (by kernel_rfl) (fun _ _ _ h => h) (Or.inl ⟨by rfl, ?hyna6x5⟩) (by assumption) ?restna6x5
                  case hyna6x5 => (intro wz hSw; obtain ⟨hS0, hS3⟩ := hSw; go_simp <;> (try with_reducible rfl))
                  try simp only [Act.put, List.setIfInBounds_toArray, List.set_cons_zero, List.set_cons_succ]
                  refine wpAnyH_take (i := 6) (oi := ⟨some 145, _, _, _, _, _⟩) (v := ?vna7x6) rfl (by kernel_rfl) (by kernel_rfl) (by kernel_rfl) (fun _ _ _ h => h) (Or.inl ⟨by rfl, ?hyna7x6⟩) (by assumption) ?restna7x6
                  case hyna7x6 => (intro wz hSw; obtain ⟨hS0, hS3⟩ := hSw; go_simp <;> (try with_reducible rfl))
                  try simp only [Act.put, List.setIfInBounds_toArray, List.set_cons_zero, List.set_cons_succ]
                  refine wpAnyH_take (i := 7) (oi := ⟨some 146, _, _, _, _, _⟩) (v := ?vna8x7) rfl (by kernel_rfl) (by kernel_rfl) (by kernel_rfl) (fun _ _ _ h => h) (Or.inl ⟨by rfl, ?hyna8x7⟩) (by assumption) ?restna8x7
                  case hyna8x7 => (intro wz hSw; obtain ⟨hS0, hS3⟩ := hSw; go_simp <;> (try with_reducible rfl))
                  try simp only [Act.put, List.setIfInBounds_toArray, List.set_cons_zero, List.set_cons_succ]
                  refine wpAnyH_take (i := 8) (oi := ⟨some 147, _, _, _, _, _⟩) (v := ?vna9x8) rfl (by kernel_rfl) (by kernel_rfl) (by kernel_rfl) (fun _ _ _ h => h) (Or.inl ⟨by rfl, ?hyna9x8⟩) (by assumption) ?restna9x8
                  case hyna9x8 => (intro wz hSw; obtain ⟨hS0, hS3⟩ := hSw; go_simp <;> (try with_reducible rfl))
                  try simp only [Act.put, List.setIfInBounds_toArray, List.set_cons_zero, List.set_cons_succ]
                  refine wpAnyH_take (i := 9) (oi := ⟨some 148, _, _, _, _, _⟩) (v := ?vna10x9) rfl (by kernel_rfl) (by kernel_rfl) (by kernel_rfl) (fun _ _ _ h => h) (Or.inl ⟨by rfl, ?hyna10x9⟩) (by assumption) ?restna10x9
                  case hyna10x9 => (intro wz hSw; obtain ⟨hS0, hS3⟩ := hSw; go_simp <;> (try with_reducible rfl))
                  try simp only [Act.put, List.setIfInBounds_toArray, List.set_cons_zero, List.set_cons_succ]
                  refine wpAnyH_take (i := 10) (oi := ⟨some 149, _, _, _, _, _⟩) (v := ?vna11x10) rfl (by kernel_rfl) (by kernel_rfl) (by kernel_rfl) (fun _ _ _ h => h) (Or.inl ⟨by rfl, ?hyna11x10⟩) (by assumption) ?restna11x10
                  case hyna11x10 => (intro wz hSw; obtain ⟨hS0, hS3⟩ := hSw; go_simp <;> (try with_reducible rfl))
                  try simp only [Act.put, List.setIfInBounds_toArray, List.set_cons_zero, List.set_cons_succ]
                  refine wpAnyH_take (i := 11) (oi := ⟨some 150, _, _, _, _, _⟩) (v := ?vna12x11) rfl (by kernel_rfl) (by kernel_rfl) (by kernel_rfl) (fun _ _ _ h => h) (Or.inl ⟨by rfl, ?hyna12x11⟩) (by assumption) ?restna12x11
                  case hyna12x11 => (intro wz hSw; obtain ⟨hS0, hS3⟩ := hSw; go_simp <;> (try with_reducible rfl))
                  try simp only [Act.put, List.setIfInBounds_toArray, List.set_cons_zero, List.set_cons_succ]
                  refine wpAnyH_take (i := 12) (oi := ⟨some 151, _, _, _, _, _⟩) (v := ?vna13x12) rfl (by kernel_rfl) (by kernel_rfl) (by kernel_rfl) (fun _ _ _ h => h) (Or.inl ⟨by rfl, ?hyna13x12⟩) (by assumption) ?restna13x12
                  case hyna13x12 => (intro wz hSw; obtain ⟨hS0, hS3⟩ := hSw; go_simp <;> (try with_reducible rfl))
                  try simp only [Act.put, List.setIfInBounds_toArray, List.set_cons_zero, List.set_cons_succ]
                  refine wpAnyH_take (i := 13) (oi := ⟨some 152, _, _, _, _, _⟩) (v := ?vna14x13) rfl (by kernel_rfl) (by kernel_rfl) (by kernel_rfl) (fun _ _ _ h => h) (Or.inl ⟨by rfl, ?hyna14x13⟩) (by assumption) ?restna14x13
                  case hyna14x13 => (intro wz hSw; obtain ⟨hS0, hS3⟩ := hSw; go_simp <;> (try with_reducible rfl))
                  try simp only [Act.put, List.setIfInBounds_toArray, List.set_cons_zero, List.set_cons_succ]
                  refine wpAnyH_take (i := 14) (oi := ⟨some 153, _, _, _, _, _⟩) (v := undef) rfl (by kernel_rfl) (by kernel_rfl) (by kernel_rfl) (fun _ _ _ h => h) (Or.inr ⟨by rfl, rfl⟩) (by assumption) ?_
                  try simp only [Act.put, List.setIfInBounds_toArray, List.set_cons_zero, List.set_cons_succ]
                  refine wpAnyH_take (i := 15) (oi := ⟨some 154, _, _, _, _, _⟩) (v := undef) rfl (by kernel_rfl) (by kernel_rfl) (by kernel_rfl) (fun _ _ _ h => h) (Or.inr ⟨by rfl, rfl⟩) (by assumption) ?_
                  try simp only [Act.put, List.setIfInBounds_toArray, List.set_cons_zero, List.set_cons_succ]
                  refine wpAnyH_take (i := 16) (oi := ⟨some 155, _, _, _, _, _⟩) (v := undef) rfl (by kernel_rfl) (by kernel_rfl) (by kernel_rfl) (fun _ _ _ h => h) (Or.inr ⟨by rfl, rfl⟩) (by assumption) ?_
                  try simp only [Act.put, List.setIfInBounds_toArray, List.set_cons_zero, List.set_cons_succ]
                  refine wpAnyH_take (i := 17) (oi := ⟨some 156, _, _, _, _, _⟩) (v := undef) rfl (by kernel_rfl) (by kernel_rfl) (by kernel_rfl) (fun _ _ _ h => h) (Or.inr ⟨by rfl, rfl⟩) (by assumption) ?_
                  try simp only [Act.put, List.setIfInBounds_toArray, List.set_cons_zero, List.set_cons_succ]
                  refine wpAnyH_take (i := 18) (oi := ⟨some 157, _, _, _, _, _⟩) (v := undef) rfl (by kernel_rfl) (by kernel_rfl) (by kernel_rfl) (fun _ _ _ h => h) (Or.inr ⟨by rfl, rfl⟩) (by assumption) ?_
                  try simp only [Act.put, List.setIfInBounds_toArray, List.set_cons_zero, List.set_cons_succ]
                  refine wpAnyH_take (i := 19) (oi := ⟨some 158, _, _, _, _, _⟩) (v := undef) rfl (by kernel_rfl) (by kernel_rfl) (by kernel_rfl) (fun _ _ _ h => h) (Or.inr ⟨by rfl, rfl⟩) (by assumption) ?_
                  try simp only [Act.put, List.setIfInBounds_toArray, List.set_cons_zero, List.set_cons_succ]
                  refine wpAnyH_take (i := 20) (oi := ⟨some 159, _, _, _, _, _⟩) (v := undef) rfl (by kernel_rfl) (by kernel_rfl) (by kernel_rfl) (fun _ _ _ h => h) (Or.inr ⟨by rfl, rfl⟩) (by assumption) ?_
                  try simp only [Act.put, List.setIfInBounds_toArray, List.set_cons_zero, List.set_cons_succ]
                  refine wpAnyH_take (i := 21) (oi := ⟨some 160, _, _, _, _, _⟩) (v := undef) rfl (by kernel_rfl) (by kernel_rfl) (by kernel_rfl) (fun _ _ _ h => h) (Or.inr ⟨by rfl, rfl⟩) (by assumption) ?_
                  try simp only [Act.put, List.setIfInBounds_toArray, List.set_cons_zero, List.set_cons_succ]
                  refine wpAnyH_take (i := 22) (oi := ⟨some 161, _, _, _, _, _⟩) (v := undef) rfl (by kernel_rfl) (by kernel_rfl) (by kernel_rfl) (fun _ _ _ h => h) (Or.inr ⟨by rfl, rfl⟩) (by assumption) ?_
                  try simp only [Act.put, List.setIfInBounds_toArray, List.set_cons_zero, List.set_cons_succ]
                  refine wpAnyH_take (i := 23) (oi := ⟨some 162, _, _, _, _, _⟩) (v := undef) rfl (by kernel_rfl) (by kernel_rfl) (by kernel_rfl) (fun _ _ _ h => h) (Or.inr ⟨by rfl, rfl⟩) (by assumption) ?_
                  try simp only [Act.put, List.setIfInBounds_toArray, List.set_cons_zero, List.set_cons_succ]
                  refine wpAnyH_take (i := 24) (oi := ⟨some 163, _, _, _, _, _⟩) (v := ?vna15x24) rfl (by kernel_rfl) (by kernel_rfl) (by kernel_rfl) (fun _ _ _ h => h) (Or.inl ⟨by rfl, ?hyna15x24⟩) (by assumption) ?restna15x24
                  case hyna15x24 => (intro wz hSw; obtain ⟨hS0, hS3⟩ := hSw; go_simp <;> (try with_reducible rfl))
                  try simp only [Act.put, List.setIfInBounds_toArray, List.set_cons_zero, List.set_cons_succ]
                  refine wpAnyH_take (i := 25) (oi := ⟨some 164, _, _, _, _, _⟩) (v := ?vna16x25) rfl (by kernel_rfl) (by kernel_rfl) (by kernel_rfl) (fun _ _ _ h => h) (Or.inl ⟨by rfl, ?hyna16x25⟩) (by assumption) ?restna16x25
                  case hyna16x25 => (intro wz hSw; obtain ⟨hS0, hS3⟩ := hSw; go_simp <;> (try with_reducible rfl))
                  try simp only [Act.put, List.setIfInBounds_toArray, List.set_cons_zero, List.set_cons_succ]
                  refine wpAnyH_done (by kernel_rfl) ?_ _
                  have HEb := keep (HE.out.step (below_drewN (Below.refl _ W5) 1))
                  replace HE := keep (HE.out.step ((Below.refl _ W5).drew))
                  clear x0 x1 x2 x3 d4
                  go_wp2_with (first
                    | (go_at_call 16; refine (Floor_qs HE.out.qs HE.out.fl).mono ?_; rintro e y4 ⟨rfl, hb4⟩; have E4 := keep (HE.out.step hb4.out))
                    | (go_at_call 16; refine (Floor_qs HEb.out.qs HEb.out.fl).mono ?_; rintro e y4 ⟨rfl, hb4⟩; have E4 := keep (HEb.out.step hb4.out))
                    | (go_at_call 26; refine (KD.out _).mono ?_; rintro e w' ⟨rfl, rfl⟩)
                    | (go_at_call 17; refine (Len_qs E4.out.qs E4.out.ln).mono ?_; rintro e w' ⟨rfl, rfl⟩)
                    | (go_at_call 17; refine (Len_qs HE.out.qs HE.out.ln).mono ?_; rintro e w' ⟨rfl, rfl⟩)
                    | (go_at_call 27; refine (Flying_qs2 E4.out.qs E4.out.oc).mono ?_; rintro e y5 ⟨rfl, hb5⟩; have E5 := keep (E4.out.step hb5.out))
                    | (go_at_call 28; refine (Left_qs2 E5.out.qs E5.out.lf_).mono ?_; rintro e y6 ⟨rfl, hb6⟩; have E6 := keep (E5.out.step hb6.out)))
                  go_roundw
                  case rel => exact ⟨j + 1, _, _, by omega, by go_num, keep E6.out.qs⟩
                  case measure => simp [intOf]; omega
                · as_aux_lemma =>
                  have JQ := keep JW
                  obtain ⟨x0, x1, x2, x3⟩ := JB.cells
                  obtain ⟨_, d4, _⟩ := HS _ JW.bl
                  clear JB JW HS
                  obtain ⟨f1, L, fy, lf, HE, hsm⟩ := FlS.of (f0 := f0) (d := 0) JQ.out (by rw [HF0.out]; exact dist_self f0) (by rw [HNN.out]; rfl) HLE.out
                  have KD := keep (fun W => Dist_any f0 f1 W)
                  rw [HE.out.di] at KD
                  have hfy0 : (0 : Int) ≤ (fy : Int) := by omega
                  have hlf0 : (0 : Int) ≤ (lf : Int) := by omega
                  have hL0 : (0 : Int) ≤ (L : Int) := by omega
                  have hL1 : (L : Int) ≤ 1024 := by have := HE.out.sm; have := HE.out.le; omega
                  go_wp2
                  refine wp_region_held_drew (S := (fun w' => w'.cell? ⟨bx, 0, none⟩ = some (.int .i64 0) ∧ w'.cell? ⟨bx, 3, none⟩ = some (.bool false))) (by kernel_rfl) ⟨x0, x3⟩ (fun hHeld => ?_)
                  refine wpAnyH_take (i := 0) (oi := ⟨some 139, _, _, _, _, _⟩) (v := ?vnb1x0) rfl (by kernel_rfl) (by kernel_rfl) (by kernel_rfl) (fun _ _ _ h => h) (Or.inl ⟨by rfl, ?hynb1x0⟩) (by assumption) ?restnb1x0
                  case hynb1x0 => (intro wz hSw; obtain ⟨hS0, hS3⟩ := hSw; go_simp <;> (try with_reducible rfl))
                  try simp only [Act.put, List.setIfInBounds_toArray, List.set_cons_zero, List.set_cons_succ]
                  refine wpAnyH_take (i := 1) (oi := ⟨some 140, _, _, _, _, _⟩) (v := ?vnb2x1) rfl (by kernel_rfl) (by kernel_rfl) (by kernel_rfl) (fun _ _ _ h => h) (Or.inl ⟨by rfl, ?hynb2x1⟩) (by assumption) ?restnb2x1
                  case hynb2x1 => (intro wz hSw; obtain ⟨hS0, hS3⟩ := hSw; go_simp <;> (try with_reducible rfl))
                  try simp only [Act.put, List.setIfInBounds_toArray, List.set_cons_zero, List.set_cons_succ]
                  refine wpAnyH_take (i := 2) (oi := ⟨some 141, _, _, _, _, _⟩) (v := ?vnb3x2) rfl (by kernel_rfl) (by kernel_rfl) (by kernel_rfl) (fun _ _ _ h => h) (Or.inl ⟨by rfl, ?hynb3x2⟩) (by assumption) ?restnb3x2
                  case hynb3x2 => (intro wz hSw; obtain ⟨hS0, hS3⟩ := hSw; go_simp <;> (try with_reducible rfl))
                  try simp only [Act.put, List.setIfInBounds_toArray, List.set_cons_zero, List.set_cons_succ]
                  refine wpAnyH_take (i := 3) (oi := ⟨some 142, _, _, _, _, _⟩) (v := ?vnb4x3) rfl (by kernel_rfl) (by kernel_rfl) (by kernel_rfl) (fun _ _ _ h => h) (Or.inl ⟨by rfl, ?hynb4x3⟩) (by assumption) ?restnb4x3
                  case hynb4x3 => (intro wz hSw; obtain ⟨hS0, hS3⟩ := hSw; go_simp <;> (try with_reducible rfl))
                  try simp only [Act.put, List.setIfInBounds_toArray, List.set_cons_zero, List.set_cons_succ]
                  refine wpAnyH_take (i := 4) (oi := ⟨some 143, _, _, _, _, _⟩) (v := ?vnb5x4) rfl (by kernel_rfl) (by kernel_rfl) (by kernel_rfl) (fun _ _ _ h => h) (Or.inl ⟨by rfl, ?hynb5x4⟩) (by assumption) ?restnb5x4
                  case hynb5x4 => (intro wz hSw; obtain ⟨hS0, hS3⟩ := hSw; go_simp <;> (try with_reducible rfl))
                  try simp only [Act.put, List.setIfInBounds_toArray, List.set_cons_zero, List.set_cons_succ]
                  refine wpAnyH_take (i := 5) (oi := ⟨some 144, _, _, _, _, _⟩) (v := ?vnb6x5) rfl (by kernel_rfl) (by kernel_rfl) (by kernel_rfl) (fun _ _ _ h => h) (Or.inl ⟨by rfl, ?hynb6x5⟩) (by assumption) ?restnb6x5
                  case hynb6x5 => (intro wz hSw; obtain ⟨hS0, hS3⟩ := hSw; go_simp <;> (try with_reducible rfl))
                  try simp only [Act.put, List.setIfInBounds_toArray, List.set_cons_zero, List.set_cons_succ]
                  refine wpAnyH_take (i := 6) (oi := ⟨some 145, _, _, _, _, _⟩) (v := ?vnb7x6) rfl (by kernel_rfl) (by kernel_rfl) (by kernel_rfl) (fun _ _ _ h => h) (Or.inl ⟨by rfl, ?hynb7x6⟩) (by assumption) ?restnb7x6
                  case hynb7x6 => (intro wz hSw; obtain ⟨hS0, hS3⟩ := hSw; go_simp <;> (try with_reducible rfl))
                  try simp only [Act.put, List.setIfInBounds_toArray, List.set_cons_zero, List.set_cons_succ]
                  refine wpAnyH_take (i := 7) (oi := ⟨some 146, _, _, _, _, _⟩) (v := ?vnb8x7) rfl (by kernel_rfl) (by kernel_rfl) (by kernel_rfl) (fun _ _ _ h => h) (Or.inl ⟨by rfl, ?hynb8x7⟩) (by assumption) ?restnb8x7
                  case hynb8x7 => (intro wz hSw; obtain ⟨hS0, hS3⟩ := hSw; go_simp <;> (try with_reducible rfl))
                  try simp only [Act.put, List.setIfInBounds_toArray, List.set_cons_zero, List.set_cons_succ]
                  refine wpAnyH_take (i := 8) (oi := ⟨some 147, _, _, _, _, _⟩) (v := ?vnb9x8) rfl (by kernel_rfl) (by kernel_rfl) (by kernel_rfl) (fun _ _ _ h => h) (Or.inl ⟨by rfl, ?hynb9x8⟩) (by assumption) ?restnb9x8
                  case hynb9x8 => (intro wz hSw; obtain ⟨hS0, hS3⟩ := hSw; go_simp <;> (try with_reducible rfl))
                  try simp only [Act.put, List.setIfInBounds_toArray, List.set_cons_zero, List.set_cons_succ]
                  refine wpAnyH_take (i := 9) (oi := ⟨some 148, _, _, _, _, _⟩) (v := ?vnb10x9) rfl (by kernel_rfl) (by kernel_rfl) (by kernel_rfl) (fun _ _ _ h => h) (Or.inl ⟨by rfl, ?hynb10x9⟩) (by assumption) ?restnb10x9
                  case hynb10x9 => (intro wz hSw; obtain ⟨hS0, hS3⟩ := hSw; go_simp <;> (try with_reducible rfl))
                  try simp only [Act.put, List.setIfInBounds_toArray, List.set_cons_zero, List.set_cons_succ]
                  refine wpAnyH_take (i := 10) (oi := ⟨some 149, _, _, _, _, _⟩) (v := ?vnb11x10) rfl (by kernel_rfl) (by kernel_rfl) (by kernel_rfl) (fun _ _ _ h => h) (Or.inl ⟨by rfl, ?hynb11x10⟩) (by assumption) ?restnb11x10
                  case hynb11x10 => (intro wz hSw; obtain ⟨hS0, hS3⟩ := hSw; go_simp <;> (try with_reducible rfl))
                  try simp only [Act.put, List.setIfInBounds_toArray, List.set_cons_zero, List.set_cons_succ]
                  refine wpAnyH_take (i := 11) (oi := ⟨some 150, _, _, _, _, _⟩) (v := ?vnb12x11) rfl (by kernel_rfl) (by kernel_rfl) (by kernel_rfl) (fun _ _ _ h => h) (Or.inl ⟨by rfl, ?hynb12x11⟩) (by assumption) ?restnb12x11
                  case hynb12x11 => (intro wz hSw; obtain ⟨hS0, hS3⟩ := hSw; go_simp <;> (try with_reducible rfl))
                  try simp only [Act.put, List.setIfInBounds_toArray, List.set_cons_zero, List.set_cons_succ]
                  refine wpAnyH_take (i := 12) (oi := ⟨some 151, _, _, _, _, _⟩) (v := ?vnb13x12) rfl (by kernel_rfl) (by kernel_rfl) (by kernel_rfl) (fun _ _ _ h => h) (Or.inl ⟨by rfl, ?hynb13x12⟩) (by assumption) ?restnb13x12
                  case hynb13x12 => (intro wz hSw; obtain ⟨hS0, hS3⟩ := hSw; go_simp <;> (try with_reducible rfl))
                  try simp only [Act.put, List.setIfInBounds_toArray, List.set_cons_zero, List.set_cons_succ]
                  refine wpAnyH_take (i := 13) (oi := ⟨some 152, _, _, _, _, _⟩) (v := ?vnb14x13) rfl (by kernel_rfl) (by kernel_rfl) (by kernel_rfl) (fun _ _ _ h => h) (Or.inl ⟨by rfl, ?hynb14x13⟩) (by assumption) ?restnb14x13
                  case hynb14x13 => (intro wz hSw; obtain ⟨hS0, hS3⟩ := hSw; go_simp <;> (try with_reducible rfl))
                  try simp only [Act.put, List.setIfInBounds_toArray, List.set_cons_zero, List.set_cons_succ]
                  refine wpAnyH_take (i := 14) (oi := ⟨some 153, _, _, _, _, _⟩) (v := undef) rfl (by kernel_rfl) (by kernel_rfl) (by kernel_rfl) (fun _ _ _ h => h) (Or.inr ⟨by rfl, rfl⟩) (by assumption) ?_
                  try simp only [Act.put, List.setIfInBounds_toArray, List.set_cons_zero, List.set_cons_succ]
                  refine wpAnyH_take (i := 15) (oi := ⟨some 154, _, _, _, _, _⟩) (v := undef) rfl (by kernel_rfl) (by kernel_rfl) (by kernel_rfl) (fun _ _ _ h => h) (Or.inr ⟨by rfl, rfl⟩) (by assumption) ?_
                  try simp only [Act.put, List.setIfInBounds_toArray, List.set_cons_zero, List.set_cons_succ]
                  refine wpAnyH_take (i := 16) (oi := ⟨some 155, _, _, _, _, _⟩) (v := undef) rfl (by kernel_rfl) (by kernel_rfl) (by kernel_rfl) (fun _ _ _ h => h) (Or.inr ⟨by rfl, rfl⟩) (by assumption) ?_
                  try simp only [Act.put, List.setIfInBounds_toArray, List.set_cons_zero, List.set_cons_succ]
                  refine wpAnyH_take (i := 17) (oi := ⟨some 156, _, _, _, _, _⟩) (v := undef) rfl (by kernel_rfl) (by kernel_rfl) (by kernel_rfl) (fun _ _ _ h => h) (Or.inr ⟨by rfl, rfl⟩) (by assumption) ?_
                  try simp only [Act.put, List.setIfInBounds_toArray, List.set_cons_zero, List.set_cons_succ]
                  refine wpAnyH_take (i := 18) (oi := ⟨some 157, _, _, _, _, _⟩) (v := undef) rfl (by kernel_rfl) (by kernel_rfl) (by kernel_rfl) (fun _ _ _ h => h) (Or.inr ⟨by rfl, rfl⟩) (by assumption) ?_
                  try simp only [Act.put, List.setIfInBounds_toArray, List.set_cons_zero, List.set_cons_succ]
                  refine wpAnyH_take (i := 19) (oi := ⟨some 158, _, _, _, _, _⟩) (v := undef) rfl (by kernel_rfl) (by kernel_rfl) (by kernel_rfl) (fun _ _ _ h => h) (Or.inr ⟨by rfl, rfl⟩) (by assumption) ?_
                  try simp only [Act.put, List.setIfInBounds_toArray, List.set_cons_zero, List.set_cons_succ]
                  refine wpAnyH_take (i := 20) (oi := ⟨some 159, _, _, _, _, _⟩) (v := undef) rfl (by kernel_rfl) (by kernel_rfl) (by kernel_rfl) (fun _ _ _ h => h) (Or.inr ⟨by rfl, rfl⟩) (by assumption) ?_
                  try simp only [Act.put, List.setIfInBounds_toArray, List.set_cons_zero, List.set_cons_succ]
                  refine wpAnyH_take (i := 21) (oi := ⟨some 160, _, _, _, _, _⟩) (v := undef) rfl (by kernel_rfl) (by kernel_rfl) (by kernel_rfl) (fun _ _ _ h => h) (Or.inr ⟨by rfl, rfl⟩) (by assumption) ?_
                  try simp only [Act.put, List.setIfInBounds_toArray, List.set_cons_zero, List.set_cons_succ]
                  refine wpAnyH_take (i := 22) (oi := ⟨some 161, _, _, _, _, _⟩) (v := undef) rfl (by kernel_rfl) (by kernel_rfl) (by kernel_rfl) (fun _ _ _ h => h) (Or.inr ⟨by rfl, rfl⟩) (by assumption) ?_
                  try simp only [Act.put, List.setIfInBounds_toArray, List.set_cons_zero, List.set_cons_succ]
                  refine wpAnyH_take (i := 23) (oi := ⟨some 162, _, _, _, _, _⟩) (v := undef) rfl (by kernel_rfl) (by kernel_rfl) (by kernel_rfl) (fun _ _ _ h => h) (Or.inr ⟨by rfl, rfl⟩) (by assumption) ?_
                  try simp only [Act.put, List.setIfInBounds_toArray, List.set_cons_zero, List.set_cons_succ]
                  refine wpAnyH_take (i := 24) (oi := ⟨some 163, _, _, _, _, _⟩) (v := ?vnb15x24) rfl (by kernel_rfl) (by kernel_rfl) (by kernel_rfl) (fun _ _ _ h => h) (Or.inl ⟨by rfl, ?hynb15x24⟩) (by assumption) ?restnb15x24
                  case hynb15x24 => (intro wz hSw; obtain ⟨hS0, hS3⟩ := hSw; go_simp <;> (try with_reducible rfl))
                  try simp only [Act.put, List.setIfInBounds_toArray, List.set_cons_zero, List.set_cons_succ]
                  refine wpAnyH_take (i := 25) (oi := ⟨some 164, _, _, _, _, _⟩) (v := ?vnb16x25) rfl (by kernel_rfl) (by kernel_rfl) (by kernel_rfl) (fun _ _ _ h => h) (Or.inl ⟨by rfl, ?hynb16x25⟩) (by assumption) ?restnb16x25
                  case hynb16x25 => (intro wz hSw; obtain ⟨hS0, hS3⟩ := hSw; go_simp <;> (try with_reducible rfl))
                  try simp only [Act.put, List.setIfInBounds_toArray, List.set_cons_zero, List.set_cons_succ]
                  refine wpAnyH_done (by kernel_rfl) ?_ _
                  have HEb := keep (HE.out.step (below_drewN (Below.refl _ W5) 1))
                  replace HE := keep (HE.out.step ((Below.refl _ W5).drew))
                  clear x0 x1 x2 x3 d4
                  go_wp2_with (first
                    | (go_at_call 16; refine (Floor_qs HE.out.qs HE.out.fl).mono ?_; rintro e y4 ⟨rfl, hb4⟩; have E4 := keep (HE.out.step hb4.out))
                    | (go_at_call 16; refine (Floor_qs HEb.out.qs HEb.out.fl).mono ?_; rintro e y4 ⟨rfl, hb4⟩; have E4 := keep (HEb.out.step hb4.out))
                    | (go_at_call 26; refine (KD.out _).mono ?_; rintro e w' ⟨rfl, rfl⟩)
                    | (go_at_call 17; refine (Len_qs E4.out.qs E4.out.ln).mono ?_; rintro e w' ⟨rfl, rfl⟩)
                    | (go_at_call 17; refine (Len_qs HE.out.qs HE.out.ln).mono ?_; rintro e w' ⟨rfl, rfl⟩)
                    | (go_at_call 27; refine (Flying_qs2 E4.out.qs E4.out.oc).mono ?_; rintro e y5 ⟨rfl, hb5⟩; have E5 := keep (E4.out.step hb5.out))
                    | (go_at_call 28; refine (Left_qs2 E5.out.qs E5.out.lf_).mono ?_; rintro e y6 ⟨rfl, hb6⟩; have E6 := keep (E5.out.step hb6.out)))
                  go_roundw
                  case rel => exact ⟨j + 1, _, _, by omega, by go_num, keep E6.out.qs⟩
                  case measure => simp [intOf]; omega
                · as_aux_lemma =>
                  have JQ := keep JW
                  obtain ⟨x0, x1, x2, x3⟩ := JB.cells
                  obtain ⟨_, d4, _⟩ := HS _ JW.bl
                  clear JB JW HS
                  obtain ⟨f1, L, fy, lf, HE, hsm⟩ := FlS.of (f0 := f0) (d := 0) JQ.out (by rw [HF0.out]; exact dist_self f0) (by rw [HNN.out]; rfl) HLE.out
                  have KD := keep (fun W => Dist_any f0 f1 W)
                  rw [HE.out.di] at KD
                  have hfy0 : (0 : Int) ≤ (fy : Int) := by omega
                  have hlf0 : (0 : Int) ≤ (lf : Int) := by omega
                  have hL0 : (0 : Int) ≤ (L : Int) := by omega
                  have hL1 : (L : Int) ≤ 1024 := by have := HE.out.sm; have := HE.out.le; omega
                  go_wp2
                  refine wp_region_held_drew (S := (fun w' => w'.cell? ⟨bx, 0, none⟩ = some (.int .i64 0) ∧ w'.cell? ⟨bx, 3, none⟩ = some (.bool false))) (by kernel_rfl) ⟨x0, x3⟩ (fun hHeld => ?_)
                  refine wpAnyH_take (i := 0) (oi := ⟨some 139, _, _, _, _, _⟩) (v := ?vnc1x0) rfl (by kernel_rfl) (by kernel_rfl) (by kernel_rfl) (fun _ _ _ h => h) (Or.inl ⟨by rfl, ?hync1x0⟩) (by assumption) ?restnc1x0
                  case hync1x0 => (intro wz hSw; obtain ⟨hS0, hS3⟩ := hSw; go_simp <;> (try with_reducible rfl))
                  try simp only [Act.put, List.setIfInBounds_toArray, List.set_cons_zero, List.set_cons_succ]
                  refine wpAnyH_take (i := 1) (oi := ⟨some 140, _, _, _, _, _⟩) (v := ?vnc2x1) rfl (by kernel_rfl) (by kernel_rfl) (by kernel_rfl) (fun _ _ _ h => h) (Or.inl ⟨by rfl, ?hync2x1⟩) (by assumption) ?restnc2x1
                  case hync2x1 => (intro wz hSw; obtain ⟨hS0, hS3⟩ := hSw; go_simp <;> (try with_reducible rfl))
                  try simp only [Act.put, List.setIfInBounds_toArray, List.set_cons_zero, List.set_cons_succ]
                  refine wpAnyH_take (i := 2) (oi := ⟨some 141, _, _, _, _, _⟩) (v := ?vnc3x2) rfl (by kernel_rfl) (by kernel_rfl) (by kernel_rfl) (fun _ _ _ h => h) (Or.inl ⟨by rfl, ?hync3x2⟩) (by assumption) ?restnc3x2
                  case hync3x2 => (intro wz hSw; obtain ⟨hS0, hS3⟩ := hSw; go_simp <;> (try with_reducible rfl))
                  try simp only [Act.put, List.setIfInBounds_toArray, List.set_cons_zero, List.set_cons_succ]
                  refine wpAnyH_take (i := 3) (oi := ⟨some 142, _, _, _, _, _⟩) (v := ?vnc4x3) rfl (by kernel_rfl) (by kernel_rfl) (by kernel_rfl) (fun _ _ _ h => h) (Or.inl ⟨by rfl, ?hync4x3⟩) (by assumption) ?restnc4x3
                  case hync4x3 => (intro wz hSw; obtain ⟨hS0, hS3⟩ := hSw; go_simp <;> (try with_reducible rfl))
                  try simp only [Act.put, List.setIfInBounds_toArray, List.set_cons_zero, List.set_cons_succ]
                  refine wpAnyH_take (i := 4) (oi := ⟨some 143, _, _, _, _, _⟩) (v := ?vnc5x4) rfl (by kernel_rfl) (by kernel_rfl) (by kernel_rfl) (fun _ _ _ h => h) (Or.inl ⟨by rfl, ?hync5x4⟩) (by assumption) ?restnc5x4
                  case hync5x4 => (intro wz hSw; obtain ⟨hS0, hS3⟩ := hSw; go_simp <;> (try with_reducible rfl))
                  try simp only [Act.put, List.setIfInBounds_toArray, List.set_cons_zero, List.set_cons_succ]
                  refine wpAnyH_take (i := 5) (oi := ⟨some 144, _, _, _, _, _⟩) (v := ?vnc6x5) rfl (by kernel_rfl) (by kernel_rfl) (by kernel_rfl) (fun _ _ _ h => h) (Or.inl ⟨by rfl, ?hync6x5⟩) (by assumption) ?restnc6x5
                  case hync6x5 => (intro wz hSw; obtain ⟨hS0, hS3⟩ := hSw; go_simp <;> (try with_reducible rfl))
                  try simp only [Act.put, List.setIfInBounds_toArray, List.set_cons_zero, List.set_cons_succ]
                  refine wpAnyH_take (i := 6) (oi := ⟨some 145, _, _, _, _, _⟩) (v := ?vnc7x6) rfl (by kernel_rfl) (by kernel_rfl) (by kernel_rfl) (fun _ _ _ h => h) (Or.inl ⟨by rfl, ?hync7x6⟩) (by assumption) ?restnc7x6
                  case hync7x6 => (intro wz hSw; obtain ⟨hS0, hS3⟩ := hSw; go_simp <;> (try with_reducible rfl))
                  try simp only [Act.put, List.setIfInBounds_toArray, List.set_cons_zero, List.set_cons_succ]
                  refine wpAnyH_take (i := 7) (oi := ⟨some 146, _, _, _, _, _⟩) (v := ?vnc8x7) rfl (by kernel_rfl) (by kernel_rfl) (by kernel_rfl) (fun _ _ _ h => h) (Or.inl ⟨by rfl, ?hync8x7⟩) (by assumption) ?restnc8x7
                  case hync8x7 => (intro wz hSw; obtain ⟨hS0, hS3⟩ := hSw; go_simp <;> (try with_reducible rfl))
                  try simp only [Act.put, List.setIfInBounds_toArray, List.set_cons_zero, List.set_cons_succ]
                  refine wpAnyH_take (i := 8) (oi := ⟨some 147, _, _, _, _, _⟩) (v := ?vnc9x8) rfl (by kernel_rfl) (by kernel_rfl) (by kernel_rfl) (fun _ _ _ h => h) (Or.inl ⟨by rfl, ?hync9x8⟩) (by assumption) ?restnc9x8
                  case hync9x8 => (intro wz hSw; obtain ⟨hS0, hS3⟩ := hSw; go_simp <;> (try with_reducible rfl))
                  try simp only [Act.put, List.setIfInBounds_toArray, List.set_cons_zero, List.set_cons_succ]
                  refine wpAnyH_take (i := 9) (oi := ⟨some 148, _, _, _, _, _⟩) (v := ?vnc10x9) rfl (by kernel_rfl) (by kernel_rfl) (by kernel_rfl) (fun _ _ _ h => h) (Or.inl ⟨by rfl, ?hync10x9⟩) (by assumption) ?restnc10x9
                  case hync10x9 => (intro wz hSw; obtain ⟨hS0, hS3⟩ := hSw; go_simp <;> (try with_reducible rfl))
                  try simp only [Act.put, List.setIfInBounds_toArray, List.set_cons_zero, List.set_cons_succ]
                  refine wpAnyH_take (i := 10) (oi := ⟨some 149, _, _, _, _, _⟩) (v := ?vnc11x10) rfl (by kernel_rfl) (by kernel_rfl) (by kernel_rfl) (fun _ _ _ h => h) (Or.inl ⟨by rfl, ?hync11x10⟩) (by assumption) ?restnc11x10
                  case hync11x10 => (intro wz hSw; obtain ⟨hS0, hS3⟩ := hSw; go_simp <;> (try with_reducible rfl))
                  try simp only [Act.put, List.setIfInBounds_toArray, List.set_cons_zero, List.set_cons_succ]
                  refine wpAnyH_take (i := 11) (oi := ⟨some 150, _, _, _, _, _⟩) (v := ?vnc12x11) rfl (by kernel_rfl) (by kernel_rfl) (by kernel_rfl) (fun _ _ _ h => h) (Or.inl ⟨by rfl, ?hync12x11⟩) (by assumption) ?restnc12x11
                  case hync12x11 => (intro wz hSw; obtain ⟨hS0, hS3⟩ := hSw; go_simp <;> (try with_reducible rfl))
                  try simp only [Act.put, List.setIfInBounds_toArray, List.set_cons_zero, List.set_cons_succ]
                  refine wpAnyH_take (i := 12) (oi := ⟨some 151, _, _, _, _, _⟩) (v := ?vnc13x12) rfl (by kernel_rfl) (by kernel_rfl) (by kernel_rfl) (fun _ _ _ h => h) (Or.inl ⟨by rfl, ?hync13x12⟩) (by assumption) ?restnc13x12
                  case hync13x12 => (intro wz hSw; obtain ⟨hS0, hS3⟩ := hSw; go_simp <;> (try with_reducible rfl))
                  try simp only [Act.put, List.setIfInBounds_toArray, List.set_cons_zero, List.set_cons_succ]
                  refine wpAnyH_take (i := 13) (oi := ⟨some 152, _, _, _, _, _⟩) (v := ?vnc14x13) rfl (by kernel_rfl) (by kernel_rfl) (by kernel_rfl) (fun _ _ _ h => h) (Or.inl ⟨by rfl, ?hync14x13⟩) (by assumption) ?restnc14x13
                  case hync14x13 => (intro wz hSw; obtain ⟨hS0, hS3⟩ := hSw; go_simp <;> (try with_reducible rfl))
                  try simp only [Act.put, List.setIfInBounds_toArray, List.set_cons_zero, List.set_cons_succ]
                  refine wpAnyH_take (i := 14) (oi := ⟨some 153, _, _, _, _, _⟩) (v := undef) rfl (by kernel_rfl) (by kernel_rfl) (by kernel_rfl) (fun _ _ _ h => h) (Or.inr ⟨by rfl, rfl⟩) (by assumption) ?_
                  try simp only [Act.put, List.setIfInBounds_toArray, List.set_cons_zero, List.set_cons_succ]
                  refine wpAnyH_take (i := 15) (oi := ⟨some 154, _, _, _, _, _⟩) (v := undef) rfl (by kernel_rfl) (by kernel_rfl) (by kernel_rfl) (fun _ _ _ h => h) (Or.inr ⟨by rfl, rfl⟩) (by assumption) ?_
                  try simp only [Act.put, List.setIfInBounds_toArray, List.set_cons_zero, List.set_cons_succ]
                  refine wpAnyH_take (i := 16) (oi := ⟨some 155, _, _, _, _, _⟩) (v := undef) rfl (by kernel_rfl) (by kernel_rfl) (by kernel_rfl) (fun _ _ _ h => h) (Or.inr ⟨by rfl, rfl⟩) (by assumption) ?_
                  try simp only [Act.put, List.setIfInBounds_toArray, List.set_cons_zero, List.set_cons_succ]
                  refine wpAnyH_take (i := 17) (oi := ⟨some 156, _, _, _, _, _⟩) (v := undef) rfl (by kernel_rfl) (by kernel_rfl) (by kernel_rfl) (fun _ _ _ h => h) (Or.inr ⟨by rfl, rfl⟩) (by assumption) ?_
                  try simp only [Act.put, List.setIfInBounds_toArray, List.set_cons_zero, List.set_cons_succ]
                  refine wpAnyH_take (i := 18) (oi := ⟨some 157, _, _, _, _, _⟩) (v := undef) rfl (by kernel_rfl) (by kernel_rfl) (by kernel_rfl) (fun _ _ _ h => h) (Or.inr ⟨by rfl, rfl⟩) (by assumption) ?_
                  try simp only [Act.put, List.setIfInBounds_toArray, List.set_cons_zero, List.set_cons_succ]
                  refine wpAnyH_take (i := 19) (oi := ⟨some 158, _, _, _, _, _⟩) (v := undef) rfl (by kernel_rfl) (by kernel_rfl) (by kernel_rfl) (fun _ _ _ h => h) (Or.inr ⟨by rfl, rfl⟩) (by assumption) ?_
                  try simp only [Act.put, List.setIfInBounds_toArray, List.set_cons_zero, List.set_cons_succ]
                  refine wpAnyH_take (i := 20) (oi := ⟨some 159, _, _, _, _, _⟩) (v := undef) rfl (by kernel_rfl) (by kernel_rfl) (by kernel_rfl) (fun _ _ _ h => h) (Or.inr ⟨by rfl, rfl⟩) (by assumption) ?_
                  try simp only [Act.put, List.setIfInBounds_toArray, List.set_cons_zero, List.set_cons_succ]
                  refine wpAnyH_take (i := 21) (oi := ⟨some 160, _, _, _, _, _⟩) (v := undef) rfl (by kernel_rfl) (by kernel_rfl) (by kernel_rfl) (fun _ _ _ h => h) (Or.inr ⟨by rfl, rfl⟩) (by assumption) ?_
                  try simp only [Act.put, List.setIfInBounds_toArray, List.set_cons_zero, List.set_cons_succ]
                  refine wpAnyH_take (i := 22) (oi := ⟨some 161, _, _, _, _, _⟩) (v := undef) rfl (by kernel_rfl) (by kernel_rfl) (by kernel_rfl) (fun _ _ _ h => h) (Or.inr ⟨by rfl, rfl⟩) (by assumption) ?_
                  try simp only [Act.put, List.setIfInBounds_toArray, List.set_cons_zero, List.set_cons_succ]
                  refine wpAnyH_take (i := 23) (oi := ⟨some 162, _, _, _, _, _⟩) (v := undef) rfl (by kernel_rfl) (by kernel_rfl) (by kernel_rfl) (fun _ _ _ h => h) (Or.inr ⟨by rfl, rfl⟩) (by assumption) ?_
                  try simp only [Act.put, List.setIfInBounds_toArray, List.set_cons_zero, List.set_cons_succ]
                  refine wpAnyH_take (i := 24) (oi := ⟨some 163, _, _, _, _, _⟩) (v := ?vnc15x24) rfl (by kernel_rfl) (by kernel_rfl) (by kernel_rfl) (fun _ _ _ h => h) (Or.inl ⟨by rfl, ?hync15x24⟩) (by assumption) ?restnc15x24
                  case hync15x24 => (intro wz hSw; obtain ⟨hS0, hS3⟩ := hSw; go_simp <;> (try with_reducible rfl))
                  try simp only [Act.put, List.setIfInBounds_toArray, List.set_cons_zero, List.set_cons_succ]
                  refine wpAnyH_take (i := 25) (oi := ⟨some 164, _, _, _, _, _⟩) (v := ?vnc16x25) rfl (by kernel_rfl) (by kernel_rfl) (by kernel_rfl) (fun _ _ _ h => h) (Or.inl ⟨by rfl, ?hync16x25⟩) (by assumption) ?restnc16x25
                  case hync16x25 => (intro wz hSw; obtain ⟨hS0, hS3⟩ := hSw; go_simp <;> (try with_reducible rfl))
                  try simp only [Act.put, List.setIfInBounds_toArray, List.set_cons_zero, List.set_cons_succ]
                  refine wpAnyH_done (by kernel_rfl) ?_ _
                  have HEb := keep (HE.out.step (below_drewN (Below.refl _ W5) 1))
                  replace HE := keep (HE.out.step ((Below.refl _ W5).drew))
                  clear x0 x1 x2 x3 d4
                  go_wp2_with (first
                    | (go_at_call 16; refine (Floor_qs HE.out.qs HE.out.fl).mono ?_; rintro e y4 ⟨rfl, hb4⟩; have E4 := keep (HE.out.step hb4.out))
                    | (go_at_call 16; refine (Floor_qs HEb.out.qs HEb.out.fl).mono ?_; rintro e y4 ⟨rfl, hb4⟩; have E4 := keep (HEb.out.step hb4.out))
                    | (go_at_call 26; refine (KD.out _).mono ?_; rintro e w' ⟨rfl, rfl⟩)
                    | (go_at_call 17; refine (Len_qs E4.out.qs E4.out.ln).mono ?_; rintro e w' ⟨rfl, rfl⟩)
                    | (go_at_call 17; refine (Len_qs HE.out.qs HE.out.ln).mono ?_; rintro e w' ⟨rfl, rfl⟩)
                    | (go_at_call 27; refine (Flying_qs2 E4.out.qs E4.out.oc).mono ?_; rintro e y5 ⟨rfl, hb5⟩; have E5 := keep (E4.out.step hb5.out))
                    | (go_at_call 28; refine (Left_qs2 E5.out.qs E5.out.lf_).mono ?_; rintro e y6 ⟨rfl, hb6⟩; have E6 := keep (E5.out.step hb6.out)))
                  go_roundw
                  case rel => exact ⟨j + 1, _, _, by omega, by go_num, keep E6.out.qs⟩
                  case measure => simp [intOf]; omega
            · have hz2 : (xw == 2) = false := by simpa using h2
              by_cases h3 : xw = 3
              · subst h3
                as_aux_lemma =>
                clear h0 hz0 h1 hz1 h2 hz2
                go_wp2_with (first
                  | (go_at_call 16; refine (Floor_qs HE.out.qs HE.out.fl).mono ?_; rintro e y4 ⟨rfl, hb4⟩; have E4 := keep (HE.out.step hb4.out))
                  | (go_at_call 26; refine (KD.out _).mono ?_; rintro e w' ⟨rfl, rfl⟩)
                  | (go_at_call 17; refine (Len_qs E4.out.qs E4.out.ln).mono ?_; rintro e w' ⟨rfl, rfl⟩)
                  | (go_at_call 17; refine (Len_qs HE.out.qs HE.out.ln).mono ?_; rintro e w' ⟨rfl, rfl⟩)
                  | (go_at_call 27; refine (Flying_qs2 E4.out.qs E4.out.oc).mono ?_; rintro e y5 ⟨rfl, hb5⟩; have E5 := keep (E4.out.step hb5.out))
                  | (go_at_call 28; refine (Left_qs2 E5.out.qs E5.out.lf_).mono ?_; rintro e y6 ⟨rfl, hb6⟩; have E6 := keep (E5.out.step hb6.out))
                  | (go_at_call 24; refine (Timeout_qs2 R0.out).mono ?_; rintro e y3 ⟨rfl, H3⟩
                     clear d0 d1 d2 d3 d4 d5
                     obtain ⟨f1, L, fy, lf, HE, hsm⟩ := FlS.of (f0 := f0) (d := 0) H3.out (by have h1 : flr { q with es := q.es.map toutE } = flr q := (by unfold flr; simp); rw [h1, HF0.out]; exact dist_self f0) (by show nn = (q.es.map toutE).length + 0; rw [List.length_map, HNN.out]; rfl) HLE.out
                     have KD := keep (fun W => Dist_any f0 f1 W)
                     rw [HE.out.di] at KD
                     have hfy0 : (0 : Int) ≤ (fy : Int) := by omega
                     have hlf0 : (0 : Int) ≤ (lf : Int) := by omega
                     have hL0 : (0 : Int) ≤ (L : Int) := by omega
                     have hL1 : (L : Int) ≤ 1024 := by have := HE.out.sm; have := HE.out.le; omega)
                  | (go_at_call 16; refine (Floor_qs HR.out HF0.out).mono ?_; rintro e y0 ⟨rfl, hc0⟩; have R0 := keep (HR.out.step hc0.out)
                     obtain ⟨d0, d1, d2, d3, d4, d5⟩ := HD.out _ R0.out.bl)
                  | (go_at_call 17; refine (Len_qs R0.out HNN.out).mono ?_; rintro e w' ⟨rfl, rfl⟩))
                go_roundw
                case rel => exact ⟨j + 1, _, _, by omega, by go_num, keep E6.out.qs⟩
                case measure => simp [intOf]; omega
              · as_aux_lemma =>
                have hz3 : (xw == 3) = false := by simpa using h3
                clear h0 h1 h2 h3
                go_wp2_with (first
                  | (go_at_call 16; refine (Floor_qs HE.out.qs HE.out.fl).mono ?_; rintro e y4 ⟨rfl, hb4⟩; have E4 := keep (HE.out.step hb4.out))
                  | (go_at_call 26; refine (KD.out _).mono ?_; rintro e w' ⟨rfl, rfl⟩)
                  | (go_at_call 17; refine (Len_qs E4.out.qs E4.out.ln).mono ?_; rintro e w' ⟨rfl, rfl⟩)
                  | (go_at_call 17; refine (Len_qs HE.out.qs HE.out.ln).mono ?_; rintro e w' ⟨rfl, rfl⟩)
                  | (go_at_call 27; refine (Flying_qs2 E4.out.qs E4.out.oc).mono ?_; rintro e y5 ⟨rfl, hb5⟩; have E5 := keep (E4.out.step hb5.out))
                  | (go_at_call 28; refine (Left_qs2 E5.out.qs E5.out.lf_).mono ?_; rintro e y6 ⟨rfl, hb6⟩; have E6 := keep (E5.out.step hb6.out))
                  | (go_at_call 20; refine (bounded_same _ _).mono ?_; rintro e w' ⟨⟨z, rfl⟩, rfl⟩)
                  | (go_at_call 25; refine (Expire_qs R0.out z).mono ?_; rintro e y3 ⟨rfl, H3⟩
                     clear d0 d1 d2 d3 d4 d5
                     obtain ⟨f1, L, fy, lf, HE, hsm⟩ := FlS.of (f0 := f0) (d := 0) H3.out.1 (by have h1 : flr ⟨q.es.map (gvE (exM z q.es q.mg q.es.length)), q.nx, exM z q.es q.mg q.es.length⟩ = flr q := (by unfold flr; simp); rw [h1, HF0.out]; exact dist_self f0) (by show nn = (q.es.map _).length + 0; rw [List.length_map, HNN.out]; rfl) HLE.out
                     have KD := keep (fun W => Dist_any f0 f1 W)
                     rw [HE.out.di] at KD
                     have hfy0 : (0 : Int) ≤ (fy : Int) := by omega
                     have hlf0 : (0 : Int) ≤ (lf : Int) := by omega
                     have hL0 : (0 : Int) ≤ (L : Int) := by omega
                     have hL1 : (L : Int) ≤ 1024 := by have := HE.out.sm; have := HE.out.le; omega)
                  | (go_at_call 16; refine (Floor_qs HR.out HF0.out).mono ?_; rintro e y0 ⟨rfl, hc0⟩; have R0 := keep (HR.out.step hc0.out)
                     obtain ⟨d0, d1, d2, d3, d4, d5⟩ := HD.out _ R0.out.bl)
                  | (go_at_call 17; refine (Len_qs R0.out HNN.out).mono ?_; rintro e w' ⟨rfl, rfl⟩))
                go_roundw
                case rel => exact ⟨j + 1, _, _, by omega, by go_num, keep E6.out.qs⟩
                case measure => simp [intOf]; omega
      · obtain rfl : m = j := by omega
        have HBL := keep HR.out.bl
        go_wp2
        go_ret
        exact ⟨rfl, HBL.out⟩
end Go.Proofs.Ytbkepkiaabeliaa
