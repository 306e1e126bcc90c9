/- Law 20: AudioParts, the walk. -/
import Derived.Test.YtacmfoljbjdcjaaUG
import Derived.Deep.CutRange
import Derived.StillTailTactics
namespace Go.Proofs.Ytacmfoljbjdcjaa
open Go.RowKit Go.Maps
set_option linter.unusedVariables false
set_option linter.unusedSimpArgs false

/-- Behind i rounds of n: where the next one stands, what waits. -/
def OQ (w : World) (g : Nat) (src : Int) (f : Nat → Int) (rm n i at_ : Nat) (W : World) : Prop := ∃ ks, VQ w g src f rm i at_ ks W ∧ (i = n → ks = [])
set_option maxHeartbeats 8000000 in
set_option maxRecDepth 1000000 in
theorem audioParts_walk (room src : Int) (A : Option Addr) (nA cA : Nat) (zs : List Int) (B : Option Addr) (nB cB : Nat) (ps : List Int) (w : World) (hroom : (Lit.int .i64 room).wf = true) (hsrc : (Lit.int .u32 src).wf = true) (hA : NS .u16 w A nA cA zs) (hB : NS .i64 w B nB cB ps) :
    Calls Try.prog 5 #[.int .i64 room, .int .u32 src, .slice A nA cA, .slice B nB cB] w fun e w' => e = .returned (.bool true) ∧ Below w.heap.size w w' := by
  have KA := keep (awake_any w)
  by_cases h100 : nA ≤ 100
  case neg =>
    have hI : (100 : Int) < (nA : Int) := by omega
    clear hA hB hroom hsrc h100
    go_enter Try.func5, Try.ntmps5
    go_wp2_with fail
    refine KA.out.mono ?_
    rintro e w1 ⟨rfl, hb1⟩
    go_wp2
    go_ret
    exact ⟨rfl, hb1⟩
  have hI : ¬ (100 : Int) < (nA : Int) := by omega
  by_cases h200 : nB ≤ 200
  case neg =>
    have hI2 : (200 : Int) < (nB : Int) := by omega
    clear hA hB hroom hsrc h100 h200
    go_enter Try.func5, Try.ntmps5
    go_wp2_with fail
    refine KA.out.mono ?_
    rintro e w1 ⟨rfl, hb1⟩
    go_wp2
    go_ret
    exact ⟨rfl, hb1⟩
  have hI2 : ¬ (200 : Int) < (nB : Int) := by omega
  have hnI : (nA : Int) ≤ 100 := by omega
  obtain ⟨f, hf⟩ : ∃ f : Nat → Int, f = fun k => zs.getD k 0 := ⟨_, rfl⟩
  obtain ⟨rm, hrm⟩ : ∃ rm, clampT room 64 = rm := ⟨_, rfl⟩
  have HRD := keep (show ∀ W j, Below w.heap.size w W → j < nA → ∃ b o, A = some ⟨b, o, none⟩ ∧ W.cell? ⟨b, o + j, none⟩ = some (.int .u16 (f j)) ∧ 0 ≤ f j ∧ f j < 65536 from fun W j hb hj => by
    obtain ⟨b, o, z, h1, h2, h3, h4, h5⟩ := hA.at_ hj
    have hz : f j = z := by rw [hf]; dsimp only; rw [List.getD_eq_getElem?_getD, h4]; rfl
    refine ⟨b, o, h1, ?_, ?_⟩
    · rw [hz]; exact (hb.cell (p := ⟨b, o + j, none⟩) h2).trans h3
    · rw [hz]; simp [Lit.wf, IntKind.min, IntKind.max, IntKind.signed, IntKind.bits] at h5; omega)
  have HRB := keep (show ∀ W j, Below w.heap.size w W → j < nB → ∃ b o z, B = some ⟨b, o, none⟩ ∧ W.cell? ⟨b, o + j, none⟩ = some (.int .i64 z) from fun W j hb hj => by
    obtain ⟨b, o, z, h1, h2, h3, h4, h5⟩ := hB.at_ hj
    exact ⟨b, o, z, h1, (hb.cell (p := ⟨b, o + j, none⟩) h2).trans h3⟩)
  have HN := keep h100
  have KN := keep fun W (hb : Below w.heap.size w W) => New_q (w := w) 2 room hb
  rw [show clampT 2 16 = 2 from rfl, hrm] at KN
  have HST := keep (VS.start src f rm)
  have KL0 := keep (fun b W (h : FQ w b (newM 2 rm) [] W) => Listen_q h 0)
  rw [HST.out.1] at KL0
  have KL1 := keep (fun b W (h : FQ w b (listenM (newM 2 rm) 0) [] W) => Listen_q h 1)
  rw [HST.out.2.1] at KL1
  clear hA hB hroom hsrc h100 h200 hf hrm
  unfold ptr at *
  go_enter Try.func5, Try.ntmps5
  go_wp2_with fail
  refine KA.out.mono ?_
  rintro e w1 ⟨rfl, hb1⟩
  have HB1 := keep hb1
  clear hb1
  go_wp2_with fail
  refine (KN.out _ HB1.out).mono ?_
  rintro e w2 ⟨g, rfl, h2⟩
  go_wp2_with fail
  refine (KL0.out g w2 h2.out).mono ?_
  rintro e w3 ⟨rfl, h3, _⟩
  go_wp2_with fail
  refine (KL1.out g w3 h3.out).mono ?_
  rintro e w4 ⟨rfl, h4, _⟩
  have HQ := keep (show OQ w g src f rm nA 0 0 w4 from ⟨[], ⟨_, h4.out, HST.out.2.2, IN.start⟩, fun _ => rfl⟩)
  clear h2 h3 h4 KN KA KL0 KL1 HST
  go_wp2_with fail
  go_loopw [13, 11, 12] (fun iv av fv wr => ∃ i at_ : Nat, iv = .int .i64 (i : Int) ∧ av = .int .i64 (at_ : Int) ∧ fv = .int .u16 (if i = 0 then 0 else f 0) ∧ i ≤ nA ∧ Hid (OQ w g src f rm nA i at_ wr)) (fun iv _ _ _ => nA - (intOf iv).toNat)
  case atStart => exact ⟨0, 0, rfl, rfl, rfl, Nat.zero_le _, HQ⟩
  case round =>
    obtain ⟨i, at_, rfl, rfl, rfl, hi, hO⟩ := hrel
    by_cases hin : i < nA
    · have hinI : (i : Int) < (nA : Int) := by omega
      obtain ⟨F, hF⟩ : ∃ F, f 0 = F := ⟨_, rfl⟩
      obtain ⟨F0, hF0⟩ : ∃ F0 : Int, (if i = 0 then 0 else f 0) = F0 := ⟨_, rfl⟩
      rw [hF0]
      have HFF := keep hF0
      have HIN := keep hin
      clear hF0
      go_upto_if 46 with fail
      go_cut [12] from 39 to 150 (fun fv wx => fv = .int .u16 F ∧ wx = wr)
      case first =>
        by_cases h0 : i = 0
        · subst h0
          obtain ⟨ks, hV, _⟩ := hO.out
          obtain ⟨b, o, rfl, hc, hz⟩ := HRD.out wr 0 hV.bl HIN.out
          rw [hF, Nat.add_zero] at hc
          go_wp2_with fail
          go_meet
          exact ⟨rfl, rfl⟩
        · have h0I : ((i : Int) == 0) = false := by simp [h0]
          go_wp2_with fail
          go_meet
          exact ⟨by rw [← HFF.out, if_neg h0, hF], rfl⟩
      case rest =>
        obtain ⟨rfl, rfl⟩ := hcut
        obtain ⟨ks, hV, _⟩ := hO.out
        obtain ⟨b, o, rfl, hc, hz⟩ := HRD.out wc i hV.bl HIN.out
        have hi100 : i < 100 := by have := HN.out; have := HIN.out; omega
        have hw8 : IntKind.u8.wrap (i : Int) = (i : Int) := by simp [IntKind.wrap, IntKind.signed, IntKind.bits]; omega
        have hw32 : IntKind.u32.wrap (i : Int) = (i : Int) := by rw [wrap_u32]; omega
        have hsh : (i : Int) / 256 = 0 := by omega
        obtain ⟨mk, hmk⟩ : ∃ mk, mrk i = mk := ⟨_, rfl⟩
        have hmk2 : ((i : Int) % 2 == 0) = mk := hmk
        have hbs : BS (wc.alloc (.cells #[.int .u8 (i : Int), .int .u8 0] 5)) (some ⟨wc.heap.size, 0, none⟩) 2 2 (two i) := BS.laid wc 5 [(i : Int), 0] (by intro n hn; simp only [List.mem_cons, List.not_mem_nil, or_false] at hn; rcases hn with rfl | rfl <;> omega)
        have KH := keep (vq_hear (hV.step (below_lay wc (.cells #[.int .u8 (i : Int), .int .u8 0] 5))) hi100 hbs)
        rw [hmk] at KH
        unfold ptr at KH
        obtain ⟨fi, hfi⟩ : ∃ fi, f i = fi := ⟨_, rfl⟩
        rw [hfi] at KH hc
        have HI100 := keep hi100
        clear hbs hmk hV hz hi100 hO hi hfi
        go_wp2_with fail
        refine KH.out.mono ?_
        rintro e w7 ⟨⟨x7, y7, rfl⟩, ks', hV7⟩
        clear KH hc hmk2 hw8 hw32 hsh
        go_upto_if 72 with fail
        go_cut [14] from 39 to 150 (fun mv wx => ∃ m : Nat, mv = .int .i64 (m : Int) ∧ m ≤ 3 ∧ wx = w7)
        case first =>
          by_cases hib : i < nB
          · obtain ⟨b2, o2, z2, rfl, hc2⟩ := HRB.out w7 i hV7.out.bl hib
            have hibI : (i : Int) < (nB : Int) := by omega
            obtain ⟨r, hr, hr4⟩ : ∃ r : Nat, bits .and .i64 z2 3 = (r : Int) ∧ r ≤ 3 := by
              have := and_i64 z2 2 (by decide)
              refine ⟨(z2 % 4).toNat, this.trans ?_, by omega⟩
              show z2 % 4 = _
              omega
            go_wp2_with fail
            go_meet
            exact ⟨r, rfl, hr4, rfl⟩
          · have hibI : ¬ (i : Int) < (nB : Int) := by omega
            go_wp2_with fail
            go_meet
            exact ⟨0, rfl, Nat.zero_le _, rfl⟩
        case rest =>
          obtain ⟨m, rfl, hm, rfl⟩ := hcut
          have hmI : (m : Int) ≤ 3 := by omega
          have hnw : IntKind.i64.wrap ((nA : Int) - 1) = (nA : Int) - 1 := IntWalk.i64_in _ (by omega)
          have hiw : IntKind.i64.wrap ((i : Int) + 1) = (i : Int) + 1 := IntWalk.i64_in _ (by omega)
          have HLN := keep (show ks'.length ≤ 101 by have := hV7.out.inn.ln; have := HI100.out; omega)
          obtain ⟨c0, hc0⟩ : ∃ c0, ks'.length = c0 := ⟨_, rfl⟩
          rw [hc0] at HLN
          have HC0 := keep hc0
          have HV7 := keep hV7.out
          clear hc0 hV7 hm
          go_wp2_with fail
          rename World => wt
          go_loopw [15, 11] (fun jv av wr => ∃ j at_ : Nat, jv = .int .i64 (j : Int) ∧ av = .int .i64 (at_ : Int) ∧ ∃ qs, Hid (j + qs.length = c0 ∧ VQ w g src f rm (i + 1) at_ qs wr)) (fun jv _ _ => c0 + 1 - (intOf jv).toNat)
          case atStart => exact ⟨0, at_, rfl, rfl, ks', by rw [Nat.zero_add]; exact HC0.out, HV7.out⟩
          case round =>
            obtain ⟨j, at2, rfl, rfl, qs, hQ⟩ := hrel
            have hjI : (j : Int) ≤ 101 := by have := hQ.out.1; have := HLN.out; omega
            have hjw : IntKind.i64.wrap ((j : Int) + 1) = (j : Int) + 1 := IntWalk.i64_in _ (by omega)
            obtain ⟨q, hq⟩ : ∃ q : Bool, decide (j < m ∨ i + 1 = nA) = q := ⟨_, rfl⟩
            have HQD := keep hq
            clear hq
            go_upto_region 19 with fail
            go_cut [87] from 78 to 150 (fun vz wx => vz = .bool q ∧ wx = wr)
            case first =>
              by_cases hjm : j < m
              · have hjmI : (j : Int) < (m : Int) := by omega
                have hqt : q = true := by rw [← HQD.out]; exact decide_eq_true (.inl hjm)
                subst hqt
                go_wp2_with fail
                go_meet
                exact ⟨rfl, rfl⟩
              · have hjmI : ¬ (j : Int) < (m : Int) := by omega
                have hqt : (decide ((i : Int) = (nA : Int) - 1)) = q := by rw [← HQD.out]; apply decide_eq_decide.2; constructor <;> intro h <;> omega
                have hqt2 : ((i : Int) == (nA : Int) - 1) = q := hqt
                go_wp2_with fail
                go_meet
                exact ⟨rfl, rfl⟩
            case rest =>
              obtain ⟨rfl, rfl⟩ := hcut
              cases q with
              | false =>
                have hne : ¬ (i + 1 = nA) := fun e => by have h3 := HQD.out; rw [decide_eq_true (Or.inr e)] at h3; cases h3
                have HF := keep (show OQ w g src f rm nA (i + 1) at2 wc from ⟨qs, hQ.out.2, fun e => absurd e hne⟩)
                have HF0 := keep (show F = if i + 1 = 0 then 0 else f 0 by rw [if_neg (by omega), hF])
                have HI1 := keep (show i + 1 ≤ nA from HIN.out)
                clear hQ hne
                go_wp2_with fail
                go_roundw
                case rel => exact ⟨i + 1, at2, by simp, rfl, by rw [HF0.out], HI1.out, HF⟩
                all_goals (have := HI1.out; simp [intOf]; omega)
              | true =>
                cases qs with
                | nil =>
                  have KP := keep (vq_pull_nil hQ.out.2)
                  unfold ptr at KP
                  have HF0 := keep (show F = if i + 1 = 0 then 0 else f 0 by rw [if_neg (by omega), hF])
                  have HI1 := keep (show i + 1 ≤ nA from HIN.out)
                  clear hQ
                  go_wp2_with fail
                  refine KP.out.mono ?_
                  rintro e w8 ⟨A8, n8, c8, rfl, hV8⟩
                  have HF := keep (show OQ w g src f rm nA (i + 1) at2 (w8.alloc (.cells #[.bool false, .int .u8 0, .int .u16 0, .int .u32 0, .int .u32 0, .slice A8 n8 c8] 26)) from ⟨[], hV8.out.step (below_lay w8 _), fun _ => rfl⟩)
                  clear KP hV8
                  go_wp2_with fail
                  go_roundw
                  case rel => exact ⟨i + 1, at2, by simp, rfl, by rw [HF0.out], HI1.out, HF⟩
                  all_goals (have := HI1.out; simp [intOf]; omega)
                | cons k r =>
                  obtain ⟨hk1, hk2, _⟩ := hQ.out.2.inn.pop
                  have hkn : k < nA := by have := HIN.out; omega
                  have HRK := keep (show ∀ W, Below w.heap.size w W → W.cell? ⟨b, o + k, none⟩ = some (.int .u16 (f k)) ∧ 0 ≤ f k ∧ f k < 65536 from fun W hb => by
                    obtain ⟨b', o', e, h1, h2⟩ := HRD.out W k hb hkn
                    injection e with e
                    injection e with e1 e2
                    subst e1 e2
                    exact ⟨h1, h2⟩)
                  have KP := keep (vq_pull hQ.out.2)
                  obtain ⟨mk, hmk⟩ : ∃ mk, mrk k = mk := ⟨_, rfl⟩
                  obtain ⟨fk, hfk⟩ : ∃ fk, f k = fk := ⟨_, rfl⟩
                  obtain ⟨sk, hsk⟩ : ∃ sk, (fk - F) % 65536 = sk := ⟨_, rfl⟩
                  rw [hmk, hfk, hF, hsk] at KP
                  rw [hfk] at HRK
                  have hmk2 : ((k : Int) % 2 == 0) = mk := hmk
                  have hskw : IntKind.u16.wrap (fk - F) = sk := by rw [wrap_u16]; exact hsk
                  have hlo : ¬ (k : Int) < (at2 : Int) := by omega
                  have hhi : ¬ (i : Int) < (k : Int) := by omega
                  have hknI : (k : Int) < (nA : Int) := by omega
                  have hw8 : IntKind.u8.wrap (k : Int) = (k : Int) := by simp [IntKind.wrap, IntKind.signed, IntKind.bits]; omega
                  have hsh : (k : Int) / 256 = 0 := by omega
                  have hki : IntKind.i64.wrap (k : Int) = (k : Int) := IntWalk.i64_in _ (by omega)
                  have hki1 : IntKind.i64.wrap ((k : Int) + 1) = (k : Int) + 1 := IntWalk.i64_in _ (by omega)
                  have HJC := keep (show j + 1 + r.length = c0 from by have := hQ.out.1; rw [List.length_cons] at this; omega)
                  unfold ptr at KP
                  have HDC := keep (And.intro (show decide (k < at2) = false from decide_eq_false (by omega)) (And.intro (show decide (i < k) = false from decide_eq_false (by omega)) (And.intro (show ((k : Int).tmod 2 == 0) = mk from (by rw [Int.tmod_eq_emod_of_nonneg (by omega)]; exact hmk2)) (And.intro (beq_self_eq_true mk) (beq_self_eq_true sk)))))
                  clear hQ hmk hfk hsk hk1 hk2 hkn hlo hhi
                  go_wp2_with fail
                  refine KP.out.mono ?_
                  rintro e w8 ⟨A8, c8, rfl, hd8, hV8⟩
                  have hbl8 := below_lay w8 (.cells #[.bool mk, .int .u8 5, .int .u16 sk, .int .u32 (k : Int), .int .u32 1, .slice A8 2 c8] 26)
                  have HS0 := keep (show ∀ W : World, Below (w8.alloc (.cells #[.bool mk, .int .u8 5, .int .u16 sk, .int .u32 (k : Int), .int .u32 1, .slice A8 2 c8] 26)).heap.size (w8.alloc (.cells #[.bool mk, .int .u8 5, .int .u16 sk, .int .u32 (k : Int), .int .u32 1, .slice A8 2 c8] 26)) W → (W.cell? ⟨b, o + k, none⟩ = some (.int .u16 fk)) ∧ W.cell? ⟨w8.heap.size, 0, none⟩ = some (.bool mk) ∧ W.cell? ⟨w8.heap.size, 1, none⟩ = some (.int .u8 5) ∧ W.cell? ⟨w8.heap.size, 2, none⟩ = some (.int .u16 sk) ∧ W.cell? ⟨w8.heap.size, 4, none⟩ = some (.int .u32 1) ∧ W.cell? ⟨w8.heap.size, 5, none⟩ = some (.slice A8 2 c8) from fun W hb => by
                    have gg := (hb.block w8.heap.size (by simp)).trans (heap_alloc_new w8 (.cells #[.bool mk, .int .u8 5, .int .u16 sk, .int .u32 (k : Int), .int .u32 1, .slice A8 2 c8] 26))
                    have hbb := hbl8.trans (hb.mono hbl8.size)
                    exact ⟨(HRK.out W (hV8.out.bl.trans (hbb.mono hV8.out.bl.size))).1, upd_cell gg 0 _ rfl, upd_cell gg 1 _ rfl, upd_cell gg 2 _ rfl, upd_cell gg 4 _ rfl, upd_cell gg 5 _ rfl⟩)
                  have hbsz : (World.drew (w8.alloc (.cells #[.bool mk, .int .u8 5, .int .u16 sk, .int .u32 (k : Int), .int .u32 1, .slice A8 2 c8] 26))).heap.size = w8.heap.size + 1 := by show (w8.alloc (.cells #[.bool mk, .int .u8 5, .int .u16 sk, .int .u32 (k : Int), .int .u32 1, .slice A8 2 c8] 26)).heap.size = _; simp
                  have hbs : BS ((World.drew (w8.alloc (.cells #[.bool mk, .int .u8 5, .int .u16 sk, .int .u32 (k : Int), .int .u32 1, .slice A8 2 c8] 26))).alloc (.cells #[.int .u8 (k : Int), .int .u8 0] 5)) (some ⟨(World.drew (w8.alloc (.cells #[.bool mk, .int .u8 5, .int .u16 sk, .int .u32 (k : Int), .int .u32 1, .slice A8 2 c8] 26))).heap.size, 0, none⟩) 2 2 (two k) := BS.laid (World.drew (w8.alloc (.cells #[.bool mk, .int .u8 5, .int .u16 sk, .int .u32 (k : Int), .int .u32 1, .slice A8 2 c8] 26))) 5 [(k : Int), 0] (by intro n hn; simp only [List.mem_cons, List.not_mem_nil, or_false] at hn; rcases hn with rfl | rfl <;> omega)
                  rw [hbsz] at hbs
                  have hb34 : Below w8.heap.size w8 ((World.drew (w8.alloc (.cells #[.bool mk, .int .u8 5, .int .u16 sk, .int .u32 (k : Int), .int .u32 1, .slice A8 2 c8] 26))).alloc (.cells #[.int .u8 (k : Int), .int .u8 0] 5)) := (hbl8.trans ((Below.refl _ (w8.alloc (.cells #[.bool mk, .int .u8 5, .int .u16 sk, .int .u32 (k : Int), .int .u32 1, .slice A8 2 c8] 26))).drew.mono hbl8.size)).trans ((below_lay (World.drew (w8.alloc (.cells #[.bool mk, .int .u8 5, .int .u16 sk, .int .u32 (k : Int), .int .u32 1, .slice A8 2 c8] 26))) (.cells #[.int .u8 (k : Int), .int .u8 0] 5)).mono (by rw [hbsz]; omega))
                  have KSM := keep (same_ret A8 (some ⟨w8.heap.size + 1, 0, none⟩) 2 2 c8 2 (two k) (two k) _ (hd8.out.step hb34) hbs)
                  rw [beq_self_eq_true] at KSM
                  have HVE := keep (show VQ w g src f rm (i + 1) (k + 1) r ((World.drew (w8.alloc (.cells #[.bool mk, .int .u8 5, .int .u16 sk, .int .u32 (k : Int), .int .u32 1, .slice A8 2 c8] 26))).alloc (.cells #[.int .u8 (k : Int), .int .u8 0] 5)) from hV8.out.step hb34)
                  clear hbl8 hbsz hbs hb34 hd8 hV8 KP
                  go_wp2_with fail
                  obtain ⟨dc1, dc2, dc3, dc4, dc5⟩ := HDC.out
                  refine wp_region_held_drew (S := (fun w' => (w'.cell? ⟨b, o + k, none⟩ = some (.int .u16 fk)) ∧ w'.cell? ⟨w8.heap.size, 0, none⟩ = some (.bool mk) ∧ w'.cell? ⟨w8.heap.size, 1, none⟩ = some (.int .u8 5) ∧ w'.cell? ⟨w8.heap.size, 2, none⟩ = some (.int .u16 sk) ∧ w'.cell? ⟨w8.heap.size, 4, none⟩ = some (.int .u32 1) ∧ w'.cell? ⟨w8.heap.size, 5, none⟩ = some (.slice A8 2 c8))) (by kernel_rfl) (HS0.out _ (Below.refl _ _).drew) (fun hHeld => ?_)
                  refine wpAnyH_take (i := 0) (oi := ⟨some 100, _, _, _, _, _⟩) (v := ?vr1x0) rfl (by kernel_rfl) (by kernel_rfl) (by kernel_rfl) (fun _ _ _ h => h) (Or.inl ⟨by rfl, ?hyr1x0⟩) (by assumption) ?restr1x0
                  case hyr1x0 => (intro wz hSw; (try dsimp only at hSw); go_simp <;> (try with_reducible rfl))
                  try simp only [Act.put, List.setIfInBounds_toArray, List.set_cons_zero, List.set_cons_succ]
                  refine wpAnyH_take (i := 1) (oi := ⟨some 101, _, _, _, _, _⟩) (v := ?vr2x1) rfl (by kernel_rfl) (by kernel_rfl) (by kernel_rfl) (fun _ _ _ h => h) (Or.inl ⟨by rfl, ?hyr2x1⟩) (by assumption) ?restr2x1
                  case hyr2x1 => (intro wz hSw; (try dsimp only at hSw); go_simp <;> (try with_reducible rfl))
                  try simp only [Act.put, List.setIfInBounds_toArray, List.set_cons_zero, List.set_cons_succ]
                  refine wpAnyH_take (i := 2) (oi := ⟨some 102, _, _, _, _, _⟩) (v := ?vr3x2) rfl (by kernel_rfl) (by kernel_rfl) (by kernel_rfl) (fun _ _ _ h => h) (Or.inl ⟨by rfl, ?hyr3x2⟩) (by assumption) ?restr3x2
                  case hyr3x2 => (intro wz hSw; (try dsimp only at hSw); go_simp <;> (try with_reducible rfl))
                  try simp only [Act.put, List.setIfInBounds_toArray, List.set_cons_zero, List.set_cons_succ]
                  refine wpAnyH_take (i := 3) (oi := ⟨some 103, _, _, _, _, _⟩) (v := ?vr4x3) rfl (by kernel_rfl) (by kernel_rfl) (by kernel_rfl) (fun _ _ _ h => h) (Or.inl ⟨by rfl, ?hyr4x3⟩) (by assumption) ?restr4x3
                  case hyr4x3 => (intro wz hSw; (try dsimp only at hSw); go_simp <;> (try with_reducible rfl))
                  try simp only [Act.put, List.setIfInBounds_toArray, List.set_cons_zero, List.set_cons_succ]
                  refine wpAnyH_take (i := 4) (oi := ⟨some 104, _, _, _, _, _⟩) (v := ?vr5x4) rfl (by kernel_rfl) (by kernel_rfl) (by kernel_rfl) (fun _ _ _ h => h) (Or.inl ⟨by rfl, ?hyr5x4⟩) (by assumption) ?restr5x4
                  case hyr5x4 => (intro wz hSw; (try dsimp only at hSw); go_simp <;> (try with_reducible rfl))
                  try simp only [Act.put, List.setIfInBounds_toArray, List.set_cons_zero, List.set_cons_succ]
                  refine wpAnyH_take (i := 5) (oi := ⟨some 105, _, _, _, _, _⟩) (v := ?vr6x5) rfl (by kernel_rfl) (by kernel_rfl) (by kernel_rfl) (fun _ _ _ h => h) (Or.inl ⟨by rfl, ?hyr6x5⟩) (by assumption) ?restr6x5
                  case hyr6x5 => (intro wz hSw; (try dsimp only at hSw); go_simp <;> (try with_reducible rfl))
                  try simp only [Act.put, List.setIfInBounds_toArray, List.set_cons_zero, List.set_cons_succ]
                  refine wpAnyH_take (i := 6) (oi := ⟨some 106, _, _, _, _, _⟩) (v := ?vr7x6) rfl (by kernel_rfl) (by kernel_rfl) (by kernel_rfl) (fun _ _ _ h => h) (Or.inl ⟨by rfl, ?hyr7x6⟩) (by assumption) ?restr7x6
                  case hyr7x6 => (intro wz hSw; (try dsimp only at hSw); go_simp <;> (try with_reducible rfl))
                  try simp only [Act.put, List.setIfInBounds_toArray, List.set_cons_zero, List.set_cons_succ]
                  refine wpAnyH_take (i := 7) (oi := ⟨some 107, _, _, _, _, _⟩) (v := ?vr8x7) rfl (by kernel_rfl) (by kernel_rfl) (by kernel_rfl) (fun _ _ _ h => h) (Or.inl ⟨by rfl, ?hyr8x7⟩) (by assumption) ?restr8x7
                  case hyr8x7 => (intro wz hSw; (try dsimp only at hSw); go_simp <;> (try with_reducible rfl))
                  try simp only [Act.put, List.setIfInBounds_toArray, List.set_cons_zero, List.set_cons_succ]
                  refine wpAnyH_take (i := 8) (oi := ⟨some 108, _, _, _, _, _⟩) (v := ?vr9x8) rfl (by kernel_rfl) (by kernel_rfl) (by kernel_rfl) (fun _ _ _ h => h) (Or.inl ⟨by rfl, ?hyr9x8⟩) (by assumption) ?restr9x8
                  case hyr9x8 => (intro wz hSw; (try dsimp only at hSw); go_simp <;> (try with_reducible rfl))
                  try simp only [Act.put, List.setIfInBounds_toArray, List.set_cons_zero, List.set_cons_succ]
                  refine wpAnyH_take (i := 9) (oi := ⟨some 109, _, _, _, _, _⟩) (v := ?vr10x9) rfl (by kernel_rfl) (by kernel_rfl) (by kernel_rfl) (fun _ _ _ h => h) (Or.inl ⟨by rfl, ?hyr10x9⟩) (by assumption) ?restr10x9
                  case hyr10x9 => (intro wz hSw; (try dsimp only at hSw); go_simp <;> (try with_reducible rfl))
                  try simp only [Act.put, List.setIfInBounds_toArray, List.set_cons_zero, List.set_cons_succ]
                  refine wpAnyH_take (i := 10) (oi := ⟨some 110, _, _, _, _, _⟩) (v := ?vr11x10) rfl (by kernel_rfl) (by kernel_rfl) (by kernel_rfl) (fun _ _ _ h => h) (Or.inl ⟨by rfl, ?hyr11x10⟩) (by assumption) ?restr11x10
                  case hyr11x10 => (intro wz hSw; (try dsimp only at hSw); go_simp <;> (try with_reducible rfl))
                  try simp only [Act.put, List.setIfInBounds_toArray, List.set_cons_zero, List.set_cons_succ]
                  refine wpAnyH_take (i := 11) (oi := ⟨some 111, _, _, _, _, _⟩) (v := ?vr12x11) rfl (by kernel_rfl) (by kernel_rfl) (by kernel_rfl) (fun _ _ _ h => h) (Or.inl ⟨by rfl, ?hyr12x11⟩) (by assumption) ?restr12x11
                  case hyr12x11 => (intro wz hSw; (try dsimp only at hSw); go_simp <;> (try with_reducible rfl))
                  try simp only [Act.put, List.setIfInBounds_toArray, List.set_cons_zero, List.set_cons_succ]
                  refine wpAnyH_take (i := 12) (oi := ⟨some 112, _, _, _, _, _⟩) (v := ?vr13x12) rfl (by kernel_rfl) (by kernel_rfl) (by kernel_rfl) (fun _ _ _ h => h) (Or.inl ⟨by rfl, ?hyr13x12⟩) (by assumption) ?restr13x12
                  case hyr13x12 => (intro wz hSw; (try dsimp only at hSw); go_simp <;> (try with_reducible rfl))
                  try simp only [Act.put, List.setIfInBounds_toArray, List.set_cons_zero, List.set_cons_succ]
                  refine wpAnyH_take (i := 13) (oi := ⟨some 113, _, _, _, _, _⟩) (v := ?vr14x13) rfl (by kernel_rfl) (by kernel_rfl) (by kernel_rfl) (fun _ _ _ h => h) (Or.inl ⟨by rfl, ?hyr14x13⟩) (by assumption) ?restr14x13
                  case hyr14x13 => (intro wz hSw; (try dsimp only at hSw); go_simp <;> (try with_reducible rfl))
                  try simp only [Act.put, List.setIfInBounds_toArray, List.set_cons_zero, List.set_cons_succ]
                  refine wpAnyH_take (i := 14) (oi := ⟨some 114, _, _, _, _, _⟩) (v := ?vr15x14) rfl (by kernel_rfl) (by kernel_rfl) (by kernel_rfl) (fun _ _ _ h => h) (Or.inl ⟨by rfl, ?hyr15x14⟩) (by assumption) ?restr15x14
                  case hyr15x14 => (intro wz hSw; (try dsimp only at hSw); go_simp <;> (try with_reducible rfl))
                  try simp only [Act.put, List.setIfInBounds_toArray, List.set_cons_zero, List.set_cons_succ]
                  refine wpAnyH_take (i := 15) (oi := ⟨some 115, _, _, _, _, _⟩) (v := ?vr16x15) rfl (by kernel_rfl) (by kernel_rfl) (by kernel_rfl) (fun _ _ _ h => h) (Or.inl ⟨by rfl, ?hyr16x15⟩) (by assumption) ?restr16x15
                  case hyr16x15 => (intro wz hSw; (try dsimp only at hSw); go_simp <;> (try with_reducible rfl))
                  try simp only [Act.put, List.setIfInBounds_toArray, List.set_cons_zero, List.set_cons_succ]
                  refine wpAnyH_take (i := 16) (oi := ⟨some 116, _, _, _, _, _⟩) (v := ?vr17x16) rfl (by kernel_rfl) (by kernel_rfl) (by kernel_rfl) (fun _ _ _ h => h) (Or.inl ⟨by rfl, ?hyr17x16⟩) (by assumption) ?restr17x16
                  case hyr17x16 => (intro wz hSw; (try dsimp only at hSw); go_simp <;> (try with_reducible rfl))
                  try simp only [Act.put, List.setIfInBounds_toArray, List.set_cons_zero, List.set_cons_succ]
                  refine wpAnyH_take (i := 17) (oi := ⟨some 117, _, _, _, _, _⟩) (v := ?vr18x17) rfl (by kernel_rfl) (by kernel_rfl) (by kernel_rfl) (fun _ _ _ h => h) (Or.inl ⟨by rfl, ?hyr18x17⟩) (by assumption) ?restr18x17
                  case hyr18x17 => (intro wz hSw; (try dsimp only at hSw); go_simp <;> (try with_reducible rfl))
                  try simp only [Act.put, List.setIfInBounds_toArray, List.set_cons_zero, List.set_cons_succ]
                  refine wpAnyH_take (i := 18) (oi := ⟨some 118, _, _, _, _, _⟩) (v := ?vr19x18) rfl (by kernel_rfl) (by kernel_rfl) (by kernel_rfl) (fun _ _ _ h => h) (Or.inl ⟨by rfl, ?hyr19x18⟩) (by assumption) ?restr19x18
                  case hyr19x18 => (intro wz hSw; (try dsimp only at hSw); go_simp <;> (try with_reducible rfl))
                  try simp only [Act.put, List.setIfInBounds_toArray, List.set_cons_zero, List.set_cons_succ]
                  refine wpAnyH_take (i := 19) (oi := ⟨some 119, _, _, _, _, _⟩) (v := ?vr20x19) rfl (by kernel_rfl) (by kernel_rfl) (by kernel_rfl) (fun _ _ _ h => h) (Or.inl ⟨by rfl, ?hyr20x19⟩) (by assumption) ?restr20x19
                  case hyr20x19 => (intro wz hSw; (try dsimp only at hSw); go_simp <;> (try with_reducible rfl))
                  try simp only [Act.put, List.setIfInBounds_toArray, List.set_cons_zero, List.set_cons_succ]
                  refine wpAnyH_take (i := 20) (oi := ⟨some 120, _, _, _, _, _⟩) (v := ?vr21x20) rfl (by kernel_rfl) (by kernel_rfl) (by kernel_rfl) (fun _ _ _ h => h) (Or.inl ⟨by rfl, ?hyr21x20⟩) (by assumption) ?restr21x20
                  case hyr21x20 => (intro wz hSw; (try dsimp only at hSw); go_simp <;> (try with_reducible rfl))
                  try simp only [Act.put, List.setIfInBounds_toArray, List.set_cons_zero, List.set_cons_succ]
                  refine wpAnyH_take (i := 21) (oi := ⟨some 121, _, _, _, _, _⟩) (v := ?vr22x21) rfl (by kernel_rfl) (by kernel_rfl) (by kernel_rfl) (fun _ _ _ h => h) (Or.inl ⟨by rfl, ?hyr22x21⟩) (by assumption) ?restr22x21
                  case hyr22x21 => (intro wz hSw; (try dsimp only at hSw); go_simp <;> (try with_reducible rfl))
                  try simp only [Act.put, List.setIfInBounds_toArray, List.set_cons_zero, List.set_cons_succ]
                  refine wpAnyH_take (i := 22) (oi := ⟨some 122, _, _, _, _, _⟩) (v := ?vr23x22) rfl (by kernel_rfl) (by kernel_rfl) (by kernel_rfl) (fun _ _ _ h => h) (Or.inl ⟨by rfl, ?hyr23x22⟩) (by assumption) ?restr23x22
                  case hyr23x22 => (intro wz hSw; (try dsimp only at hSw); go_simp <;> (try with_reducible rfl))
                  try simp only [Act.put, List.setIfInBounds_toArray, List.set_cons_zero, List.set_cons_succ]
                  refine wpAnyH_take (i := 23) (oi := ⟨some 123, _, _, _, _, _⟩) (v := ?vr24x23) rfl (by kernel_rfl) (by kernel_rfl) (by kernel_rfl) (fun _ _ _ h => h) (Or.inl ⟨by rfl, ?hyr24x23⟩) (by assumption) ?restr24x23
                  case hyr24x23 => (intro wz hSw; (try dsimp only at hSw); go_simp <;> (try with_reducible rfl))
                  try simp only [Act.put, List.setIfInBounds_toArray, List.set_cons_zero, List.set_cons_succ]
                  refine wpAnyH_take (i := 24) (oi := ⟨some 124, _, _, _, _, _⟩) (v := ?vr25x24) rfl (by kernel_rfl) (by kernel_rfl) (by kernel_rfl) (fun _ _ _ h => h) (Or.inl ⟨by rfl, ?hyr25x24⟩) (by assumption) ?restr25x24
                  case hyr25x24 => (intro wz hSw; (try dsimp only at hSw); go_simp <;> (try with_reducible rfl))
                  try simp only [Act.put, List.setIfInBounds_toArray, List.set_cons_zero, List.set_cons_succ]
                  refine wpAnyH_take (i := 25) (oi := ⟨some 125, _, _, _, _, _⟩) (v := ?vr26x25) rfl (by kernel_rfl) (by kernel_rfl) (by kernel_rfl) (fun _ _ _ h => h) (Or.inl ⟨by rfl, ?hyr26x25⟩) (by assumption) ?restr26x25
                  case hyr26x25 => (intro wz hSw; (try dsimp only at hSw); go_simp <;> (try with_reducible rfl))
                  try simp only [Act.put, List.setIfInBounds_toArray, List.set_cons_zero, List.set_cons_succ]
                  refine wpAnyH_take (i := 26) (oi := ⟨some 126, _, _, _, _, _⟩) (v := ?vr27x26) rfl (by kernel_rfl) (by kernel_rfl) (by kernel_rfl) (fun _ _ _ h => h) (Or.inl ⟨by rfl, ?hyr27x26⟩) (by assumption) ?restr27x26
                  case hyr27x26 => (intro wz hSw; (try dsimp only at hSw); go_simp <;> (try with_reducible rfl))
                  try simp only [Act.put, List.setIfInBounds_toArray, List.set_cons_zero, List.set_cons_succ]
                  refine wpAnyH_take (i := 27) (oi := ⟨some 127, _, _, _, _, _⟩) (v := ?vr28x27) rfl (by kernel_rfl) (by kernel_rfl) (by kernel_rfl) (fun _ _ _ h => h) (Or.inl ⟨by rfl, ?hyr28x27⟩) (by assumption) ?restr28x27
                  case hyr28x27 => (intro wz hSw; (try dsimp only at hSw); go_simp <;> (try with_reducible rfl))
                  try simp only [Act.put, List.setIfInBounds_toArray, List.set_cons_zero, List.set_cons_succ]
                  refine wpAnyH_take (i := 28) (oi := ⟨some 128, _, _, _, _, _⟩) (v := ?vr29x28) rfl (by kernel_rfl) (by kernel_rfl) (by kernel_rfl) (fun _ _ _ h => h) (Or.inl ⟨by rfl, ?hyr29x28⟩) (by assumption) ?restr29x28
                  case hyr29x28 => (intro wz hSw; (try dsimp only at hSw); go_simp <;> (try with_reducible rfl))
                  try simp only [Act.put, List.setIfInBounds_toArray, List.set_cons_zero, List.set_cons_succ]
                  refine wpAnyH_take (i := 29) (oi := ⟨some 129, _, _, _, _, _⟩) (v := ?vr30x29) rfl (by kernel_rfl) (by kernel_rfl) (by kernel_rfl) (fun _ _ _ h => h) (Or.inl ⟨by rfl, ?hyr30x29⟩) (by assumption) ?restr30x29
                  case hyr30x29 => (intro wz hSw; (try dsimp only at hSw); go_simp <;> (try with_reducible rfl))
                  try simp only [Act.put, List.setIfInBounds_toArray, List.set_cons_zero, List.set_cons_succ]
                  refine wpAnyH_take (i := 30) (oi := ⟨some 130, _, _, _, _, _⟩) (v := ?vr31x30) rfl (by kernel_rfl) (by kernel_rfl) (by kernel_rfl) (fun _ _ _ h => h) (Or.inl ⟨by rfl, ?hyr31x30⟩) (by assumption) ?restr31x30
                  case hyr31x30 => (intro wz hSw; (try dsimp only at hSw); go_simp <;> (try with_reducible rfl))
                  try simp only [Act.put, List.setIfInBounds_toArray, List.set_cons_zero, List.set_cons_succ]
                  refine wpAnyH_take (i := 31) (oi := ⟨some 131, _, _, _, _, _⟩) (v := ?vr32x31) rfl (by kernel_rfl) (by kernel_rfl) (by kernel_rfl) (fun _ _ _ h => h) (Or.inl ⟨by rfl, ?hyr32x31⟩) (by assumption) ?restr32x31
                  case hyr32x31 => (intro wz hSw; (try dsimp only at hSw); go_simp <;> (try with_reducible rfl))
                  try simp only [Act.put, List.setIfInBounds_toArray, List.set_cons_zero, List.set_cons_succ]
                  refine wpAnyH_take (i := 32) (oi := ⟨some 132, _, _, _, _, _⟩) (v := ?vr33x32) rfl (by kernel_rfl) (by kernel_rfl) (by kernel_rfl) (fun _ _ _ h => h) (Or.inl ⟨by rfl, ?hyr33x32⟩) (by assumption) ?restr33x32
                  case hyr33x32 => (intro wz hSw; (try dsimp only at hSw); go_simp <;> (try with_reducible rfl))
                  try simp only [Act.put, List.setIfInBounds_toArray, List.set_cons_zero, List.set_cons_succ]
                  refine wpAnyH_take (i := 33) (oi := ⟨some 133, _, _, _, _, _⟩) (v := ?vr34x33) rfl (by kernel_rfl) (by kernel_rfl) (by kernel_rfl) (fun _ _ _ h => h) (Or.inl ⟨by rfl, ?hyr34x33⟩) (by assumption) ?restr34x33
                  case hyr34x33 => (intro wz hSw; (try dsimp only at hSw); go_simp <;> (try with_reducible rfl))
                  try simp only [Act.put, List.setIfInBounds_toArray, List.set_cons_zero, List.set_cons_succ]
                  refine wpAnyH_ready (rs := [34]) (by kernel_rfl) (by simp) (AllReadyH.cons (o := ⟨some 134, _, _, _, _, _⟩) rfl (fun K hK => ?_) AllReadyH.nil)
                  go_simp
                  have HB34 := keep (show Below (w8.alloc (.cells #[.bool mk, .int .u8 5, .int .u16 sk, .int .u32 (k : Int), .int .u32 1, .slice A8 2 c8] 26)).heap.size (w8.alloc (.cells #[.bool mk, .int .u8 5, .int .u16 sk, .int .u32 (k : Int), .int .u32 1, .slice A8 2 c8] 26)) ((World.drew (w8.alloc (.cells #[.bool mk, .int .u8 5, .int .u16 sk, .int .u32 (k : Int), .int .u32 1, .slice A8 2 c8] 26))).alloc (.cells #[.int .u8 (k : Int), .int .u8 0] 5)) from (Below.refl _ (w8.alloc (.cells #[.bool mk, .int .u8 5, .int .u16 sk, .int .u32 (k : Int), .int .u32 1, .slice A8 2 c8] 26))).drew.trans ((below_lay (World.drew (w8.alloc (.cells #[.bool mk, .int .u8 5, .int .u16 sk, .int .u32 (k : Int), .int .u32 1, .slice A8 2 c8] 26))) (.cells #[.int .u8 (k : Int), .int .u8 0] 5)).mono (Nat.le_refl _)))
                  refine hK.out _ _ (HS0.out _ HB34.out) (fun hHeld => ?_)
                  clear hK K
                  try simp only [Act.put, List.setIfInBounds_toArray, List.set_cons_zero, List.set_cons_succ]
                  refine wpAnyH_ready (rs := [35]) (by kernel_rfl) (by simp) (AllReadyH.cons (o := ⟨some 135, _, _, _, _, _⟩) rfl (fun K hK => ?_) AllReadyH.nil)
                  go_simp
                  go_at_call 14
                  refine KSM.out.mono ?_
                  rintro e w9 ⟨rfl, rfl⟩
                  (try go_wp2_with fail)
                  refine hK.out _ _ (HS0.out _ HB34.out) (fun hHeld => ?_)
                  clear hK K
                  try simp only [Act.put, List.setIfInBounds_toArray, List.set_cons_zero, List.set_cons_succ]
                  refine wpAnyH_take (i := 36) (oi := ⟨some 136, _, _, _, _, _⟩) (v := ?vr35x36) rfl (by kernel_rfl) (by kernel_rfl) (by kernel_rfl) (fun _ _ _ h => h) (Or.inl ⟨by rfl, ?hyr35x36⟩) (by assumption) ?restr35x36
                  case hyr35x36 => (intro wz hSw; (try dsimp only at hSw); go_simp <;> (try with_reducible rfl))
                  try simp only [Act.put, List.setIfInBounds_toArray, List.set_cons_zero, List.set_cons_succ]
                  refine wpAnyH_take (i := 37) (oi := ⟨some 137, _, _, _, _, _⟩) (v := ?vr36x37) rfl (by kernel_rfl) (by kernel_rfl) (by kernel_rfl) (fun _ _ _ h => h) (Or.inl ⟨by rfl, ?hyr36x37⟩) (by assumption) ?restr36x37
                  case hyr36x37 => (intro wz hSw; (try dsimp only at hSw); go_simp <;> (try with_reducible rfl))
                  try simp only [Act.put, List.setIfInBounds_toArray, List.set_cons_zero, List.set_cons_succ]
                  refine wpAnyH_take (i := 38) (oi := ⟨some 138, _, _, _, _, _⟩) (v := ?vr37x38) rfl (by kernel_rfl) (by kernel_rfl) (by kernel_rfl) (fun _ _ _ h => h) (Or.inl ⟨by rfl, ?hyr37x38⟩) (by assumption) ?restr37x38
                  case hyr37x38 => (intro wz hSw; (try dsimp only at hSw); go_simp <;> (try with_reducible rfl))
                  try simp only [Act.put, List.setIfInBounds_toArray, List.set_cons_zero, List.set_cons_succ]
                  refine wpAnyH_take (i := 39) (oi := ⟨some 139, _, _, _, _, _⟩) (v := ?vr38x39) rfl (by kernel_rfl) (by kernel_rfl) (by kernel_rfl) (fun _ _ _ h => h) (Or.inl ⟨by rfl, ?hyr38x39⟩) (by assumption) ?restr38x39
                  case hyr38x39 => (intro wz hSw; (try dsimp only at hSw); go_simp <;> (try with_reducible rfl))
                  try simp only [Act.put, List.setIfInBounds_toArray, List.set_cons_zero, List.set_cons_succ]
                  refine wpAnyH_take (i := 40) (oi := ⟨some 140, _, _, _, _, _⟩) (v := ?vr39x40) rfl (by kernel_rfl) (by kernel_rfl) (by kernel_rfl) (fun _ _ _ h => h) (Or.inl ⟨by rfl, ?hyr39x40⟩) (by assumption) ?restr39x40
                  case hyr39x40 => (intro wz hSw; (try dsimp only at hSw); go_simp <;> (try with_reducible rfl))
                  try simp only [Act.put, List.setIfInBounds_toArray, List.set_cons_zero, List.set_cons_succ]
                  refine wpAnyH_take (i := 41) (oi := ⟨some 141, _, _, _, _, _⟩) (v := ?vr40x41) rfl (by kernel_rfl) (by kernel_rfl) (by kernel_rfl) (fun _ _ _ h => h) (Or.inl ⟨by rfl, ?hyr40x41⟩) (by assumption) ?restr40x41
                  case hyr40x41 => (intro wz hSw; (try dsimp only at hSw); go_simp <;> (try with_reducible rfl))
                  try simp only [Act.put, List.setIfInBounds_toArray, List.set_cons_zero, List.set_cons_succ]
                  refine wpAnyH_take (i := 42) (oi := ⟨some 142, _, _, _, _, _⟩) (v := ?vr41x42) rfl (by kernel_rfl) (by kernel_rfl) (by kernel_rfl) (fun _ _ _ h => h) (Or.inl ⟨by rfl, ?hyr41x42⟩) (by assumption) ?restr41x42
                  case hyr41x42 => (intro wz hSw; (try dsimp only at hSw); go_simp <;> (try with_reducible rfl))
                  try simp only [Act.put, List.setIfInBounds_toArray, List.set_cons_zero, List.set_cons_succ]
                  refine wpAnyH_take (i := 43) (oi := ⟨some 143, _, _, _, _, _⟩) (v := ?vr42x43) rfl (by kernel_rfl) (by kernel_rfl) (by kernel_rfl) (fun _ _ _ h => h) (Or.inl ⟨by rfl, ?hyr42x43⟩) (by assumption) ?restr42x43
                  case hyr42x43 => (intro wz hSw; (try dsimp only at hSw); go_simp <;> (try with_reducible rfl))
                  try simp only [Act.put, List.setIfInBounds_toArray, List.set_cons_zero, List.set_cons_succ]
                  refine wpAnyH_take (i := 44) (oi := ⟨some 144, _, _, _, _, _⟩) (v := ?vr43x44) rfl (by kernel_rfl) (by kernel_rfl) (by kernel_rfl) (fun _ _ _ h => h) (Or.inl ⟨by rfl, ?hyr43x44⟩) (by assumption) ?restr43x44
                  case hyr43x44 => (intro wz hSw; (try dsimp only at hSw); go_simp <;> (try with_reducible rfl))
                  try simp only [Act.put, List.setIfInBounds_toArray, List.set_cons_zero, List.set_cons_succ]
                  refine wpAnyH_take (i := 45) (oi := ⟨some 145, _, _, _, _, _⟩) (v := ?vr44x45) rfl (by kernel_rfl) (by kernel_rfl) (by kernel_rfl) (fun _ _ _ h => h) (Or.inl ⟨by rfl, ?hyr44x45⟩) (by assumption) ?restr44x45
                  case hyr44x45 => (intro wz hSw; (try dsimp only at hSw); go_simp <;> (try with_reducible rfl))
                  try simp only [Act.put, List.setIfInBounds_toArray, List.set_cons_zero, List.set_cons_succ]
                  refine wpAnyH_take (i := 46) (oi := ⟨some 146, _, _, _, _, _⟩) (v := ?vr45x46) rfl (by kernel_rfl) (by kernel_rfl) (by kernel_rfl) (fun _ _ _ h => h) (Or.inl ⟨by rfl, ?hyr45x46⟩) (by assumption) ?restr45x46
                  case hyr45x46 => (intro wz hSw; (try dsimp only at hSw); go_simp <;> (try with_reducible rfl))
                  try simp only [Act.put, List.setIfInBounds_toArray, List.set_cons_zero, List.set_cons_succ]
                  refine wpAnyH_take (i := 47) (oi := ⟨some 147, _, _, _, _, _⟩) (v := ?vr46x47) rfl (by kernel_rfl) (by kernel_rfl) (by kernel_rfl) (fun _ _ _ h => h) (Or.inl ⟨by rfl, ?hyr46x47⟩) (by assumption) ?restr46x47
                  case hyr46x47 => (intro wz hSw; (try dsimp only at hSw); go_simp <;> (try with_reducible rfl))
                  try simp only [Act.put, List.setIfInBounds_toArray, List.set_cons_zero, List.set_cons_succ]
                  refine wpAnyH_take (i := 48) (oi := ⟨some 148, _, _, _, _, _⟩) (v := ?vr47x48) rfl (by kernel_rfl) (by kernel_rfl) (by kernel_rfl) (fun _ _ _ h => h) (Or.inl ⟨by rfl, ?hyr47x48⟩) (by assumption) ?restr47x48
                  case hyr47x48 => (intro wz hSw; (try dsimp only at hSw); go_simp <;> (try with_reducible rfl))
                  try simp only [Act.put, List.setIfInBounds_toArray, List.set_cons_zero, List.set_cons_succ]
                  refine wpAnyH_done (by kernel_rfl) ?_ _
                  go_wp2_with fail
                  go_roundw
                  case rel => exact ⟨j + 1, k + 1, by simp, by simp, r, keep ⟨HJC.out, HVE.out⟩⟩
                  all_goals (have := HJC.out; simp [intOf]; omega)
    · obtain ⟨F0, hF0⟩ : ∃ F0 : Int, (if i = 0 then 0 else f 0) = F0 := ⟨_, rfl⟩
      rw [hF0]
      clear hF0
      obtain rfl : i = nA := by omega
      obtain ⟨ks, hV, hks⟩ := hO.out
      obtain rfl := hks rfl
      have KW1 := keep (vq_end hV).1
      have KW0 := keep (vq_end hV).2.1
      have KLO := keep (vq_end hV).2.2
      have HBL := keep hV.bl
      unfold ptr at KW1 KW0 KLO
      clear hO hV hks hin HQ
      go_wp2_with (first | (go_at_call_of 21 (Value.int IntKind.i64 1); refine KW1.out.mono ?_; rintro e w9 ⟨rfl, rfl⟩) | (go_at_call 21; refine KW0.out.mono ?_; rintro e w9 ⟨rfl, rfl⟩) | (go_at_call 22; refine KLO.out.mono ?_; rintro e w9 ⟨rfl, rfl⟩))
      go_ret
      exact ⟨by simp, HBL.out⟩
end Go.Proofs.Ytacmfoljbjdcjaa
