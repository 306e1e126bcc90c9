/- SendqRoom, walked. -/
import Derived.Test.YtbkepkiaabeliaaQ32
namespace Go.Proofs.Ytbkepkiaabeliaa
open Go.RowKit Go.Maps
set_option linter.unusedVariables false

/-- One piece is pushed. -/
theorem rm_push {w W W2 : World} {b : Nat} {G : Gq} {q : Qm} {n : Nat} (h : QS w b G q W) (hz : ZV W2 (pz n (W.heap.size + 1))) (hb : Below W.heap.size W W2) (hn0 : 0 < n) (hn : n ≤ 1000000) (hf : q.es.length < 1024) :
    Calls Try.prog 18 #[.pointer (some ⟨b, 0, none⟩), .slice (some ⟨W2.heap.size, 0, none⟩) 1 1, .int .i64 (-1), .int .i64 (-1)] (W2.alloc (.cells (pz n (W.heap.size + 1)).cells.toArray 51)) fun e w' => e = .returned (.int .i64 0) ∧
      ∃ G' x m, Hid (QS w b G' (pushQ q [x] m (-1) (-1)) w' ∧ lenE x = n ∧ x.st = 0 ∧ x.sn = 0 ∧ x.la = 0 ∧ x.ms = 0 ∧ x.c.bs = List.replicate n 0) := by
  have hb5 := below_lay W2 (.cells (pz n (W.heap.size + 1)).cells.toArray 51)
  have hq5 := h.step (up hb hb5)
  have hfl : flatF CZ.cells [pz n (W.heap.size + 1)] = (pz n (W.heap.size + 1)).cells := by simp [flatF]
  have hzs := zs_row (l := [pz n (W.heap.size + 1)]) (w := W2.alloc (.cells (pz n (W.heap.size + 1)).cells.toArray 51)) (g := W2.heap.size) (by rw [hfl]; exact heap_alloc_new W2 _) (fun x hx => by
    rw [List.mem_singleton.1 hx]
    exact hz.step hb5)
  refine (Push_qs hq5 hzs (show (1 : Nat) ≤ 1000000 by decide) (fun x hx => ?_) (fun a ea => ?_) (fun x hx A hA => ?_) (-1) (-1) ?_ (show ¬ 1024 < q.es.length + 1 by omega)).mono ?_
  · rw [List.mem_singleton.1 hx]
    exact pz_sm hn
  · injection ea with ea
    rw [← ea]
    intro ho
    have h1 := h.qa.olt _ ho
    have h2 := hb.size
    dsimp only at h1
    omega
  · rw [List.mem_singleton.1 hx] at hA
    intro a ea ho
    have h1 := pz_ads (N := W.heap.size + 1) (Nat.le_refl _) A hA a ea
    have h2 := h.qa.olt _ ho
    omega
  · rintro (h1 | h1)
    · cases h1
    · rw [List.any_cons, unfit_pz hn0] at h1
      cases h1
  · rintro e w' ⟨rfl, G', new, m, hh⟩
    obtain ⟨x, rfl⟩ : ∃ x, new = [x] := List.length_eq_one_iff.1 hh.out.2.1.len
    obtain ⟨g1, g2, g3, g4, g5, g6, g7⟩ := hh.out.2.1.all 0 _ _ rfl rfl
    exact ⟨rfl, G', x, m, keep ⟨hh.out.1, g2, g4, g5, g6, g7, congrArg Ct.bs g1⟩⟩
def nsz (zs : List Int) : List Nat := zs.map fun z => 1 + (bits .and .i64 z 1023).toNat
structure RmQ (w : World) (b : Nat) (first : Int) (ns : List Nat) (j : Nat) (G : Gq) (q : Qm) (W : World) : Prop where
  qs : QS w b G q W
  ln : q.es.map lenE = ns.take j
  st : ∀ e ∈ q.es, e.st = 0
  fl : flr q = (first - 1) % 4294967296
theorem sum_le {ns : List Nat} (h : ∀ n ∈ ns, n ≤ 1024) : ns.sum ≤ ns.length * 1024 := by
  induction ns with
  | nil => simp
  | cons a r ih =>
    have := ih fun n hn => h n (List.mem_cons_of_mem _ hn)
    have := h a (List.mem_cons_self ..)
    rw [List.sum_cons, List.length_cons]
    omega
set_option maxRecDepth 100000 in
set_option maxHeartbeats 4000000 in
theorem sendqRoom_walk (first : Int) (A : Option Addr) (n c : Nat) (zs : List Int) (room : Int) (w : World) (hf : (Lit.int .u32 first).wf = true) (hz : NS .i64 w A n c zs) (hr : (Lit.int .i64 room).wf = true) :
    Calls Try.prog 5 #[.int .u32 first, .slice A n c, .int .i64 room] w fun e w' => e = .returned (.bool true) ∧ Below w.heap.size w w' := by
  have KA := keep (awake_any w)
  have HZ := keep hz
  have hzl := hz.1
  have HF := keep hf
  have HRO := keep hr
  clear hz hf hr
  by_cases hbig : 100 < n
  · go_enter Try.func5, Try.ntmps5
    go_wp2_with (go_at_call 10; refine KA.out.mono ?_; rintro e w1 ⟨rfl, hb1⟩; replace hb1 := keep hb1)
    go_ret
    exact ⟨rfl, hb1.out⟩
  · have hn100 : n ≤ 100 := by omega
    have HF2 := keep (show 0 ≤ first ∧ first < 4294967296 by
      have := HF.out
      simp [Lit.wf, IntKind.min, IntKind.max, IntKind.signed, IntKind.bits] at this
      omega)
    have KN := keep (fun W (hb : Below w.heap.size w W) => New_qs (w := w) first HF2.out hb)
    go_enter Try.func5, Try.ntmps5
    go_wp2_with (first
      | (go_at_call 10; refine KA.out.mono ?_; rintro e w1 ⟨rfl, hb1⟩; replace hb1 := keep hb1)
      | (go_at_call 12; refine (KN.out _ hb1.out).mono ?_; rintro e w2 ⟨rfl, hq2⟩))
    obtain ⟨b, hb⟩ : ∃ b, w1.heap.size = b := ⟨_, rfl⟩
    rw [hb] at hq2 ⊢
    have I0 : Hid (RmQ w b first (nsz zs) 0 (newG b) (newQ first) w2) := keep ⟨hq2.out, rfl, fun e he => (by cases he), (by unfold flr newQ; simp)⟩
    clear hb hq2
    go_loopw [9, 10, 11] (fun al i _ wr => ∃ (j : Nat) (G : Gq) (q : Qm), j ≤ n ∧ i = .int .i64 j ∧ al = .int .i64 ((((nsz zs).take j).sum : Nat) : Int) ∧ Hid (RmQ w b first (nsz zs) j G q wr)) (fun _ i _ _ => n - (intOf i).toNat)
    case atStart => exact ⟨0, _, _, Nat.zero_le _, rfl, rfl, I0⟩
    case round =>
      clear I0
      obtain ⟨j, G, q, hj, rfl, rfl, HR⟩ := hrel
      have hql : q.es.length = j := by
        have h1 := congrArg List.length HR.out.ln
        rw [List.length_map, List.length_take] at h1
        have h2 : (nsz zs).length = n := by unfold nsz; rw [List.length_map]; exact hzl.symm
        omega
      have HQL := keep hql
      clear hql
      by_cases hlt : j < n
      · obtain ⟨b0, o0, z, hA, hbl, hcz, hzj, _⟩ := (HZ.out.step HR.out.qs.bl).at_ hlt
        subst hA
        obtain ⟨k, hk, hk2⟩ := and1023 z
        have hnj : (nsz zs)[j]? = some (1 + k) := by
          unfold nsz
          rw [List.getElem?_map, hzj]
          simp [hk]
        have hsum : (((nsz zs).take (j + 1)).sum : Nat) = ((nsz zs).take j).sum + (1 + k) := by
          rw [List.take_add_one, hnj, List.sum_append]
          simp
        have hbd : ((nsz zs).take j).sum ≤ 102400 := by
          have h1 := sum_le (ns := (nsz zs).take j) (fun x hx => by
            have h2 := List.mem_of_mem_take hx
            unfold nsz at h2
            obtain ⟨y, _, rfl⟩ := List.mem_map.1 h2
            obtain ⟨k', e1, e2⟩ := and1023 y
            rw [e1]
            omega)
          have h2 : ((nsz zs).take j).length ≤ 100 := by rw [List.length_take]; omega
          omega
        have KP := keep (fun W => piece_lit (1 + k) (by omega) (1 + (k : Int)) (by omega) W)
        have HN := keep (And.intro hnj hsum)
        have hk0 : (0 : Int) ≤ (k : Int) := by omega
        have hk3 : (k : Int) < 1024 := by omega
        have HK2 := keep hk2
        obtain ⟨sm, hsm⟩ : ∃ sm, ((nsz zs).take j).sum = sm := ⟨_, rfl⟩
        rw [hsm] at hbd HN ⊢
        have hs0 : (0 : Int) ≤ (sm : Int) := by omega
        have hs3 : (sm : Int) ≤ 102400 := by omega
        clear hnj hsum hsm hk2 hbd hzj
        go_wp2_with (first
          | (go_at_call 29; refine (KP.out _).mono ?_; rintro e w3 ⟨rfl, hz3, _, hb3⟩
             have KU := keep (rm_push HR.out.qs hz3.out hb3.out (by omega) (by have := HK2.out; omega) (by have := HQL.out; omega)))
          | (go_at_call 18; refine KU.out.mono ?_; rintro e w5 ⟨rfl, G', x, m, H5⟩))
        go_roundw
        case rel =>
          refine ⟨j + 1, G', pushQ q [x] m (-1) (-1), by omega, by go_num, ?_, keep ⟨H5.out.1, ?_, ?_, ?_⟩⟩
          · rw [HN.out.2]
            congr 1
          · show (q.es ++ [x]).map lenE = _
            rw [List.map_append, HR.out.ln, List.take_add_one, HN.out.1, List.map_cons, List.map_nil, H5.out.2.1]
            rfl
          · intro e he
            rcases List.mem_append.1 (show e ∈ q.es ++ [x] from he) with he | he
            · exact HR.out.st e he
            · rw [List.mem_singleton.1 he]
              exact H5.out.2.2.1
          · rw [push_flr]
            exact HR.out.fl
        case measure => simp [intOf]; omega
      · obtain rfl : n = j := by omega
        have hnl : (nsz zs).length = n := by unfold nsz; rw [List.length_map]; exact hzl.symm
        have hln := HR.out.ln
        rw [List.take_of_length_le (by omega)] at hln ⊢
        have hro : room < 9223372036854775808 := by
          have := HRO.out
          simp [Lit.wf, IntKind.min, IntKind.max, IntKind.signed, IntKind.bits] at this
          omega
        obtain ⟨d, hT⟩ := take_new HR.out.st 7 room
        have KT := keep (Take_qs HR.out.qs 7 room hro)
        have HT := keep hT
        have HLN := keep hln
        have HNL := keep hnl
        have hS := sum_le (ns := nsz zs) (fun x h2 => by
          unfold nsz at h2
          obtain ⟨y, _, rfl⟩ := List.mem_map.1 h2
          obtain ⟨k', e1, e2⟩ := and1023 y
          rw [e1]
          omega)
        have hdn : d ≤ n := by have := hT.hd; have := HQL.out; omega
        obtain ⟨S, hSS⟩ : ∃ S, (nsz zs).sum = S := ⟨_, rfl⟩
        have HSS := keep hSS
        rw [hSS] at hS ⊢
        have HDN := keep hdn
        have HS := keep (show S ≤ 102400 by omega)
        clear hT hln hnl hlt hS hSS hdn hj
        go_wp2_with (go_at_call 19; refine KT.out.mono ?_; rintro e w6 ⟨⟨t1, t2, t3⟩, ys, rfl, H6⟩)
        have hct := H6.out.1.ct
        have hdl := H6.out.1.dl
        have hR2 : (takeQ q 7 room).2 = (q.es.take d).map En.c := by
          have := HT.out.c
          rwa [List.nil_append, List.drop_zero] at this
        rw [hR2] at hct hdl
        have hyl : ys.length = d := by
          have h1 := congrArg List.length hdl
          rw [List.length_map, List.length_map, List.length_map, List.length_take] at h1
          have := HDN.out
          have := HQL.out
          omega
        have hrow := H6.out.1.row
        have ht2 : t2 = d := by
          have h3 := hrow.1
          rw [flatF_len CZ.len] at h3
          dsimp only at h3
          omega
        subst ht2
        have hzs : ZS w6 (t1, t2, t3) ys := ⟨LR.of_own CZ.len (by decide) hrow, fun y hy => (H6.out.1.zs y hy).1⟩
        have hgi : ∀ (i : Nat), i < t2 → ∃ g o x, t1 = some ⟨g, o, none⟩ ∧ Z12 w6 g (o + i * 12) x ∧ x.a = (first + (i : Int)) % 4294967296 ∧ (nsz zs)[i]? = some x.da.2.1 := fun i hi => by
          obtain ⟨g, o, x, e1, _, e3, e4, _⟩ := hzs.at_ (j := i) hi
          refine ⟨g, o, x, e1, e3, ?_, ?_⟩
          · have h1 := congrArg (fun l => l[i]?) hct
            rw [List.getElem?_map, e4, List.getElem?_map, List.getElem?_map, List.getElem?_take, if_pos hi] at h1
            cases hx : q.es[i]? with
            | none => rw [hx] at h1; cases h1
            | some e =>
              rw [hx] at h1
              injection h1 with h1
              have h2 : x.a = e.c.a := congrArg Ct.a h1
              rw [h2, HR.out.qs.nu i e hx, HR.out.fl]
              omega
          · have h1 := congrArg (fun l => l[i]?) hdl
            rw [List.getElem?_map, e4, List.getElem?_map, List.getElem?_map, List.getElem?_take, if_pos hi] at h1
            cases hx : q.es[i]? with
            | none => rw [hx] at h1; cases h1
            | some e =>
              rw [hx] at h1
              injection h1 with h1
              rw [← HLN.out, List.getElem?_map, hx]
              exact congrArg some h1.symm
        have HGI := keep hgi
        clear hgi hzs hrow hct hdl hR2 hyl
        go_loopw [13, 14] (fun told i wr => ∃ j : Nat, j ≤ t2 ∧ i = .int .i64 j ∧ told = .int .i64 ((((nsz zs).take j).sum : Nat) : Int) ∧ wr = w6) (fun _ i _ => t2 - (intOf i).toNat)
        case atStart => exact ⟨0, Nat.zero_le _, rfl, rfl, rfl⟩
        case round =>
          obtain ⟨i, hi, rfl, rfl, rfl⟩ := hrel
          by_cases hlt : i < t2
          · obtain ⟨g, o, x, rfl, hz12, hxa, hxn⟩ := HGI.out i hlt
            obtain ⟨z0, z1, z2, z3, z4, z5, z6, z7, z8, z9, z10, z11⟩ := hz12
            rw [hxa] at z2
            have hb1' := HS.out
            have hsu : ((nsz zs).take (i + 1)).sum = ((nsz zs).take i).sum + x.da.2.1 := by
              rw [List.take_add_one, hxn, List.sum_append]
              simp
            have hle : ((nsz zs).take (i + 1)).sum ≤ S := by
              rw [← HSS.out]
              have h1 := congrArg List.sum (List.take_append_drop (i + 1) (nsz zs))
              rw [List.sum_append] at h1
              omega
            have HSU := keep hsu
            obtain ⟨sm, hsm⟩ : ∃ sm, ((nsz zs).take i).sum = sm := ⟨_, rfl⟩
            obtain ⟨xl, hxl⟩ : ∃ xl, x.da.2.1 = xl := ⟨_, rfl⟩
            rw [hsm] at hsu HSU ⊢
            rw [hxl] at hsu HSU z11
            have hs1 : (sm : Int) + (xl : Int) ≤ 102400 := by omega
            have hs0 : (0 : Int) ≤ (sm : Int) + (xl : Int) := by omega
            have hi0 : (0 : Int) ≤ (i : Int) := by omega
            have hi1 : (i : Int) ≤ 100 := by have := HDN.out; omega
            clear z0 z1 z3 z4 z5 z6 z7 z8 z9 z10 hsu hle hsm hxl hb1' hxn hxa
            go_wp2
            go_roundw
            case rel => exact ⟨i + 1, by omega, by go_num, by rw [HSU.out]; congr 1, trivial⟩
            case measure => simp [intOf]; omega
          · obtain rfl : t2 = i := by omega
            obtain ⟨T, hTT⟩ : ∃ T, ((nsz zs).take t2).sum = T := ⟨_, rfl⟩
            obtain ⟨S2, hS2⟩ : ∃ T, ((nsz zs).drop t2).sum = T := ⟨_, rfl⟩
            have hST : S = T + S2 := by
              rw [← HSS.out, ← hTT, ← hS2, ← List.sum_append, List.take_append_drop]
            have hoc := room_octs HR.out.st HT.out
            rw [List.map_take, List.map_drop, HLN.out, hTT, hS2] at hoc
            have hqa := H6.out.2
            have KF := keep (fun W (hb : Below wr.heap.size wr W) => (show Calls Try.prog 27 #[.pointer (some ⟨b, 0, none⟩)] W fun e w' => e = .returned (.int .i64 (T : Int)) ∧ Hid (Below W.heap.size W w') from by
              have h1 := hqa.step hb
              have h2 := Flying_any h1.qa
              rw [h1.gb] at h2
              refine h2.mono ?_
              rintro e w' ⟨rfl, h3⟩
              exact ⟨by rw [← hoc.1]; rfl, h3⟩))
            have KL := keep (fun W (hb : Below wr.heap.size wr W) => (show Calls Try.prog 28 #[.pointer (some ⟨b, 0, none⟩)] W fun e w' => e = .returned (.int .i64 ((S : Int) - (T : Int))) ∧ Hid (Below W.heap.size W w') from by
              have h1 := hqa.step hb
              have h2 := Left_any h1.qa
              rw [h1.gb] at h2
              refine h2.mono ?_
              rintro e w' ⟨rfl, h3⟩
              have h4 : (S : Int) - (T : Int) = ((octs (tkQ q 7 room).es [2, 0] : Nat) : Int) := by
                rw [show octs (tkQ q 7 room).es [2, 0] = S2 from hoc.2]
                omega
              exact ⟨by rw [h4], h3⟩))
            have hfit : (T : Int) ≤ room ∨ T = 0 := by
              rcases HT.out.fit with h1 | h1
              · right
                rw [← hTT, h1]
                rfl
              · left
                rw [List.drop_zero, List.map_take, HLN.out, hTT] at h1
                exact h1
            have hfull : ∀ m, (nsz zs)[t2]? = some m → room < (T : Int) + (m : Int) := fun m hm => by
              rw [← HLN.out, List.getElem?_map] at hm
              cases hx : q.es[t2]? with
              | none => rw [hx] at hm; cases hm
              | some e =>
                rw [hx] at hm
                injection hm with hm
                have h1 := HT.out.full e (by rw [Nat.zero_add]; exact hx)
                rw [List.drop_zero, List.map_take, HLN.out, hTT, hm] at h1
                exact h1
            have hS4 := HS.out
            have hD0 : (0 : Int) ≤ (S : Int) - (T : Int) := by omega
            have hD1 : (S : Int) - (T : Int) ≤ 102400 := by omega
            have hT0 : (0 : Int) ≤ (T : Int) := by omega
            have hT1 : (T : Int) ≤ 102400 := by omega
            have hBL := keep H6.out.2.bl
            rw [hTT]
            clear hTT hS2 hoc hqa hS4 HSS hST
            by_cases hdn : t2 < n
            · obtain ⟨b0, o0, z, hA, hbl, hcz, hzj, _⟩ := (HZ.out.step hBL.out).at_ hdn
              subst hA
              obtain ⟨k, hk, hk2⟩ := and1023 z
              have hfu := hfull (1 + k) (by
                unfold nsz
                rw [List.getElem?_map, hzj]
                simp [hk])
              have hk0 : (0 : Int) ≤ (k : Int) := by omega
              have hk3 : (k : Int) < 1024 := by omega
              have hfu' : room < (T : Int) + (1 + (k : Int)) := by omega
              have hne : ¬ (1 + (k : Int) = 0) := by omega
              clear hfull hfu hzj hk2
              rcases hfit with hfit | hfit
              · go_wp2_with (first
                  | (go_at_call 27; refine (KF.out _ (Below.refl _ _)).mono ?_; rintro e w7 ⟨rfl, hb7⟩)
                  | (go_at_call 28; refine (KL.out _ hb7.out).mono ?_; rintro e w8 ⟨rfl, hb8⟩))
                all_goals go_ret
                all_goals refine ⟨ret_bool ?_, hBL.out.trans ((hb7.out.trans (hb8.out.mono hb7.out.size)).mono hBL.out.size)⟩
                all_goals first | rfl | (simp; omega)
              · subst hfit
                go_wp2_with (first
                  | (go_at_call 27; refine (KF.out _ (Below.refl _ _)).mono ?_; rintro e w7 ⟨rfl, hb7⟩)
                  | (go_at_call 28; refine (KL.out _ hb7.out).mono ?_; rintro e w8 ⟨rfl, hb8⟩))
                all_goals go_ret
                all_goals refine ⟨ret_bool ?_, hBL.out.trans ((hb7.out.trans (hb8.out.mono hb7.out.size)).mono hBL.out.size)⟩
                all_goals first | rfl | (simp; omega)
            · clear hfull
              rcases hfit with hfit | hfit
              · go_wp2_with (first
                  | (go_at_call 27; refine (KF.out _ (Below.refl _ _)).mono ?_; rintro e w7 ⟨rfl, hb7⟩)
                  | (go_at_call 28; refine (KL.out _ hb7.out).mono ?_; rintro e w8 ⟨rfl, hb8⟩))
                all_goals go_ret
                all_goals refine ⟨ret_bool ?_, hBL.out.trans ((hb7.out.trans (hb8.out.mono hb7.out.size)).mono hBL.out.size)⟩
                all_goals first | rfl | (simp; omega)
              · subst hfit
                go_wp2_with (first
                  | (go_at_call 27; refine (KF.out _ (Below.refl _ _)).mono ?_; rintro e w7 ⟨rfl, hb7⟩)
                  | (go_at_call 28; refine (KL.out _ hb7.out).mono ?_; rintro e w8 ⟨rfl, hb8⟩))
                all_goals go_ret
                all_goals refine ⟨ret_bool ?_, hBL.out.trans ((hb7.out.trans (hb8.out.mono hb7.out.size)).mono hBL.out.size)⟩
                all_goals first | rfl | (simp; omega)
end Go.Proofs.Ytbkepkiaabeliaa
