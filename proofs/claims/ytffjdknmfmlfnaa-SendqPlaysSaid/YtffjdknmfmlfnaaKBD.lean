/- KBD of the stage: texts Q50, joined. -/
import Derived.Test.YtffjdknmfmlfnaaKAE
import Derived.Test.YtffjdknmfmlfnaaKBC
set_option linter.unusedSimpArgs false
set_option linter.unusedVariables false
namespace Go.Proofs.Ytffjdknmfmlfnaa
section
open Go.RowKit Go.Maps

set_option maxRecDepth 100000 in
set_option maxHeartbeats 4000000 in
theorem Push_okR {w : World} {G : Gq} {q : Qm} (h : QA w G q) {s : SL} {l : List CZ} (hl : ZS w s l) (hn : s.2.1 ≤ 1000000) (hsm : ∀ x ∈ l, Sm x) (hap : ∀ W, Part G.O w W → ZS W s l) (un tr : Int) (hu : ¬ (l = [] ∨ l.any unfitB = true)) (hf : ¬ 1024 < q.es.length + l.length) :
    Calls Try.prog 10 #[.pointer (some ⟨G.b, 0, none⟩), .slice s.1 s.2.1 s.2.2, .int .i64 un, .int .i64 tr] w fun e w' => e = .returned (.int .i64 0) ∧ ∃ m, w.heap.size ≤ m ∧ PuI w G q l un tr m l.length w' := by
  have HK := keep (cContains_any s l w hl hn)
  have hl1 := hl.1.1
  have h0 : l ≠ [] := fun e => hu (.inl e)
  have hany : l.any unfitB = false := by simpa using fun e => hu (.inr e)
  rw [hany] at HK
  have hs : s.2.1 ≠ 0 := fun e => h0 (List.eq_nil_of_length_eq_zero (by rw [← hl1]; exact e))
  have hs' : ((s.2.1 : Int) == 0) = false := by simp; exact hs
  have HB := keep (fun W (hb : Below w.heap.size w W) => (h.step hb).b0.1)
  have hle := h.le
  have hfull : ¬ (1024 : Int) - (G.s.2.1 : Int) < (s.2.1 : Int) := by rw [h.n]; omega
  have hr : (G.s.2.1 : Int) ≤ 1024 := by rw [h.n]; omega
  have HH := keep h
  have HL := keep hl
  have HSM := keep hsm
  have HAP := keep hap
  have HF := keep hf
  have HN := keep hl1
  have hl2 : s.2.1 ≤ 1024 := by omega
  clear h hl hn hu h0 hany hs hf hle hsm hap
  obtain ⟨s1, s2, s3⟩ := s
  dsimp only at hl1
  subst hl1
  have Gb : ∃ b, b = G.b := ⟨_, rfl⟩
  dsimp only at *
  go_enter Try.func10, Try.ntmps10
  go_wp2_with (go_at_call 35; refine HK.out.mono ?_; rintro e w1 ⟨rfl, hb1⟩; have c0 := HB.out w1 hb1; replace hb1 := keep hb1)
  have hm := keep (show w.heap.size ≤ w1.heap.size from hb1.out.size)
  have I0 : PuI w G q l un tr w1.heap.size 0 (w1.alloc (.cells #[.int .i64 un, .int .i64 tr, .bool false] 74)) := by
    have hq1 := HH.out.step (hb1.out.trans ((below_lay w1 (.cells #[.int .i64 un, .int .i64 tr, .bool false] 74)).mono hb1.out.size))
    have hq2 := hq1.msg (m := w1.heap.size) (g := ⟨un, tr, false⟩) (heap_alloc_new w1 _) ⟨fun hO => by have := HH.out.olt _ hO; have := hm.out; omega, fun hF => by have := HH.out.flt _ hF; have := hm.out; omega⟩
    have hnx := HH.out.nx
    refine ⟨{ G with O := fun i => G.O i ∨ i = w1.heap.size }, [], ?_, ⟨rfl, Part.of_below _ (hb1.out.trans ((below_lay w1 _).mono hb1.out.size)), fun i hi => ?_, fun i hi => .inl hi⟩, ⟨rfl, fun i c e _ h => by simp at h⟩, .inr rfl, heap_alloc_new w1 _⟩
    · unfold pushQ
      rw [List.append_nil, List.length_nil, show (q.nx + ((0 : Nat) : Int)) % 4294967296 = q.nx by omega]
      exact hq2
    · rcases hi with hi | rfl
      · exact .inl hi
      · exact .inr hm.out
  replace I0 := keep I0
  go_loopw [11, 40] (fun _ i wr => ∃ j : Nat, j ≤ l.length ∧ i = .int .i64 j ∧ Hid (PuI w G q l un tr w1.heap.size j wr)) (fun _ i _ => l.length - (intOf i).toNat)
  case atStart => exact ⟨0, Nat.zero_le _, rfl, I0⟩
  case round =>
    obtain ⟨j, hj, rfl, HI⟩ := hrel
    clear c0
    by_cases hlt : j < l.length
    · obtain ⟨G', new, hq, hlr, hpn, hGm, hMg⟩ := HI.out
      have hz := HAP.out _ hlr.part
      obtain ⟨b, o, x, hA, hbl, hz12, hlj, hzv⟩ := hz.at_ hlt
      dsimp only at hA
      subst hA
      have HX := keep hlj
      have HSX := keep ((HSM.out x (List.mem_of_getElem? hlj)).a_ ((q.nx + (new.length : Int)) % 4294967296))
      have HB0 := keep (below_lay wr (.cells { x with a := (q.nx + (new.length : Int)) % 4294967296 : CZ }.cells.toArray 45))
      have HV := keep ((hzv.step HB0.out).a_ (nx := (q.nx + (new.length : Int)) % 4294967296) (by omega))
      obtain ⟨b', ⟨g1, g2, g3⟩, O', F'⟩ := G'
      obtain rfl : b' = G.b := hlr.b
      have hg2 := hq.n
      have HG2 : Hid (g2 = q.es.length + new.length) := keep (by rw [show g2 = _ from hg2]; simp [pushQ])
      have c0 := hq.b0.1
      have c1 := hq.b0.2.1
      have f0 := hq.b0.2.2.1
      have f1 := hq.b0.2.2.2
      have HQ := keep (And.intro hq (And.intro hlr (And.intro hpn (And.intro hGm hMg))))
      have HNL := keep hpn.len
      have hqb := hq.olt _ hq.ob
      have hge : g2 ≤ 1024 := by have := hq.le; rw [← hg2] at this; exact this
      dsimp only [pushQ] at c0 c1 f0 f1 hqb
      generalize hnxv : (q.nx + (new.length : Int)) % 4294967296 = nx at c1 HB0 HV HSX
      have HNX := keep hnxv
      obtain ⟨i0, hi0, hiz, his, hib⟩ := info_parts cPtr_info
      clear hq hlr hpn hGm hMg hz hlj hzv hnxv hg2
      obtain ⟨xk, xf, xa, xb, xo, xs, xp, ⟨x1, x2, x3⟩, ⟨x4, x5, x6⟩, ⟨x7, x8, x9⟩, ⟨x10, x11, x12⟩, ⟨x13, x14, x15⟩, xbl, xdu, xsk, xpr, xbs⟩ := x
      dsimp only [Z12] at hz12
      dsimp only [CZ.cells] at HB0 HV HSX
      obtain ⟨z0, z1, z2, z3, z4, z5, z6, z7, z8, z9, z10, z11⟩ := hz12
      go_wp2
      go_region_law (first
        | (refine step_appendA (S := 1) (by decide) rfl (.tmp 53) (.tmp 59) 54 rfl 0 75 i0 (.pointer none) Try.underlying54 hi0 hiz his rfl _ g2 _ (by simp [Act.eval, Act.put]) HQ4.out.row _ 1 1 [.pointer (some ⟨w3.heap.size, 0, none⟩)] (by simp [Act.eval, Act.put]) rfl HN4.out (by simp [Value.oneCell']) (by unfold maxLen; omega) (by rw [hib]; omega) (Nat.zero_le _) ?_
           intro A5 c5 w5 ho5 hg5 hl5
           have HA5 := keep (And.intro ho5 (And.intro hg5 hl5))
           obtain ⟨c0, f0⟩ := HQ4.out.b_grown hg5
           dsimp only at c0 f0
           clear ho5 hg5 hl5)
        | (go_simp
           go_at_call 37
           refine (copied_any ⟨xk, xf, nx, xb, xo, xs, xp, ⟨x1, x2, x3⟩, ⟨x4, x5, x6⟩, ⟨x7, x8, x9⟩, ⟨x10, x11, x12⟩, ⟨x13, x14, x15⟩, xbl, xdu, xsk, xpr, xbs⟩ _ (HV.out.step (Below.refl _ _).drew) HSX.out).mono ?_
           rintro e w3 ⟨⟨yk, yf, ya, yb, yo, ys, yp, ⟨y1, y2, y3⟩, ⟨y4, y5, y6⟩, ⟨y7, y8, y9⟩, ⟨y10, y11, y12⟩, ⟨y13, y14, y15⟩, ybl, ydu, ysk, ypr, ybs⟩, rfl, hy⟩
           have HY := keep hy
           have hb3 : Below wr.heap.size wr w3 := HB0.out.drew.trans (hy.2.2.2.2.2.2.mono HB0.out.drew.size)
           have HB3 := keep hb3
           have hq3 := HQ.out.1.step hb3
           have hqb3 := hq3.olt _ hq3.ob
           clear c0 c1 f0 f1
           obtain ⟨c0, c1, f0, f1⟩ := hq3.b0
           dsimp only [pushQ] at c0 c1 f0 f1 hqb3
           rw [HNX.out] at c1
           have HQ4 := keep (hq3.step (up (below_lay w3 (.cells #[.int .u8 yk, .int .u8 yf, .int .u32 ya, .int .u32 yb, .int .u16 yo, .int .u16 ys, .int .u32 yp, .slice y1 y2 y3, .slice y4 y5 y6, .slice y7 y8 y9, .slice y10 y11 y12, .slice y13 y14 y15, .pointer (some ⟨w1.heap.size, 0, none⟩), .int .i64 0, .int .i64 0, .int .i64 0, .int .i64 0] 78)) (below_lay _ (.cells #[.pointer (some ⟨w3.heap.size, 0, none⟩)] 75))))
           have HN4 := keep (cell_one_new (w3.alloc (.cells #[.int .u8 yk, .int .u8 yf, .int .u32 ya, .int .u32 yb, .int .u16 yo, .int .u16 ys, .int .u32 yp, .slice y1 y2 y3, .slice y4 y5 y6, .slice y7 y8 y9, .slice y10 y11 y12, .slice y13 y14 y15, .pointer (some ⟨w1.heap.size, 0, none⟩), .int .i64 0, .int .i64 0, .int .i64 0, .int .i64 0] 78)) (.pointer (some ⟨w3.heap.size, 0, none⟩)) 75)
           rw [World.size_alloc] at HN4
           clear hy hb3 hq3
           dsimp only [CZ.cells]))
      all_goals
        have hy := HY.out
        obtain ⟨r1, r2, r3⟩ := push_mid HQ.out.1 HQ.out.2.2.2.1 HQ.out.2.2.2.2 (by unfold pushQ; dsimp only; rw [if_pos rfl]) HB3.out hy.2.2.1 hy.2.2.2.1 (fun p hp a ea => ⟨Nat.le_trans HB0.out.size (hy.2.2.2.2.1 p hp a ea).1, (hy.2.2.2.2.1 p hp a ea).2⟩) (by have := HF.out; have := HNL.out; have := hlt; simp only [pushQ, List.length_append]; omega) rfl HA5.out.1 HA5.out.2.1 HA5.out.2.2
        have HR := keep (push_next (e := ⟨w3.heap.size, _, w1.heap.size, 0, 0, 0, 0⟩) HQ.out.2.1 HQ.out.2.2.1 HQ.out.2.2.2.1 r1 r2 r3 (fun i hi => .inl hi) HX.out (by rw [HNX.out]; exact hy.1) hy.2.1 ⟨rfl, rfl, rfl, rfl, rfl⟩)
        clear c0 f0 c1 f1
        obtain ⟨_, c1, _, f1⟩ := r1.b0
        dsimp only [appG, pushQ] at c1 f1 HR
        rw [HNX.out] at c1 HR
        clear hy r1 r2 r3
        go_wp2
        go_roundw
        case rel => exact ⟨j + 1, by omega, by go_num, HR⟩
        case measure => simp [intOf]; omega
    · obtain rfl : l.length = j := by omega
      go_wp2
      go_ret
      exact ⟨rfl, _, hm.out, HI.out⟩
/-- What Push does to a queue. -/
def PushS (q : Qm) (ls : List CZ) (un tr : Int) (q' : Qm) : Prop :=
  (pushE q ls ≠ 0 ∧ q' = q) ∨ (pushE q ls = 0 ∧ ∃ new m, q' = pushQ q new m un tr ∧ PushN q ls m ls.length new ∧ ∀ e ∈ q.es, e.m ≠ m)
theorem PushS.flr {q q' : Qm} {ls : List CZ} {un tr : Int} (h : PushS q ls un tr q') : flr q' = flr q := by
  rcases h with ⟨_, rfl⟩ | ⟨_, new, m, rfl, _, _⟩
  · rfl
  · exact push_flr q new m un tr
theorem Push_gen {w W : World} {b : Nat} {G : Gq} {q : Qm} (h : QS w b G q W) {s : SL} {ls : List CZ} (hz : ZS w s ls) (hn : s.2.1 ≤ 1000) (hsm : ∀ x ∈ ls, Sm x) (un tr : Int) :
    Calls Try.prog 10 #[.pointer (some ⟨b, 0, none⟩), .slice s.1 s.2.1 s.2.2, .int .i64 un, .int .i64 tr] W fun e w' => e = .returned (.int .i64 (pushE q ls)) ∧ ∃ G' q', Hid (QS w b G' q' w' ∧ PushS q ls un tr q') := by
  have hb := h.gb
  subst hb
  have hzW := hz.step h.bl
  by_cases hu : ls = [] ∨ ls.any unfitB = true
  · have hE : pushE q ls = 1 := by unfold pushE; rw [if_pos hu]
    rw [hE]
    refine (Push_arg h.qa hzW (by omega) un tr hu).mono ?_
    rintro e w' ⟨rfl, h1⟩
    exact ⟨rfl, G, q, keep ⟨h.step h1, .inl ⟨by rw [hE]; decide, rfl⟩⟩⟩
  · by_cases hf : 1024 < q.es.length + ls.length
    · have hE : pushE q ls = 9 := by unfold pushE; rw [if_neg hu, if_pos hf]
      rw [hE]
      refine (Push_full h.qa hzW (by omega) un tr hu hf).mono ?_
      rintro e w' ⟨rfl, h1⟩
      exact ⟨rfl, G, q, keep ⟨h.step h1, .inl ⟨by rw [hE]; decide, rfl⟩⟩⟩
    · have hE : pushE q ls = 0 := by unfold pushE; rw [if_neg hu, if_neg hf]
      rw [hE]
      refine (Push_okR h.qa hzW (by omega) hsm (fun W' hp => hz.step (h.bl.trans (hp.below h.bl.size fun i hi => h.lo i hi))) un tr hu hf).mono ?_
      rintro e w' ⟨rfl, m, hm, G', new, h1, h2, h3, h4, h5⟩
      refine ⟨rfl, G', _, keep ⟨h.ltr h1 (push_nums h.nu h3 (Nat.le_refl _) un tr) h2, .inr ⟨hE, new, m, rfl, h3, fun e he hc => ?_⟩⟩⟩
      have h6 := h.qa.olt _ (h.qa.en e he).2.2.2
      omega
/-! ### few -/
def FewC (y : CZ) : Prop := y.da.2.1 ≤ 1200 ∧ y.pr.2.1 + y.bl.2.1 + y.du.2.1 + y.sk.2.1 ≤ 20
def FewX (x : FX) : Prop := x.ls.length ≤ 10 ∧ x.bls.length ≤ 20 ∧ ∀ y ∈ x.ls, FewC y
theorem FewC.sm {y : CZ} (h : FewC y) : Sm y := by
  obtain ⟨h1, h2⟩ := h
  exact ⟨by omega, by omega, by omega, by omega, by omega⟩
theorem FV.step {w w' : World} {x : FX} (h : FV w x) (hb : Below w.heap.size w w') : FV w' x := ⟨h.m, h.l.step hb, h.cum, h.b.kept (ok := fun _ => True) (Kpt.of_below hb) (InF.all _), h.bk, h.zl⟩
theorem FS.step {w w' : World} {A : Option Addr} {n c : Nat} {l : List FX} (h : FS w A n c l) (hb : Below w.heap.size w w') : FS w' A n c l := ⟨h.1.kept (ok := fun _ => True) (Kpt.of_below hb) (InF.all _), fun x hx => (h.2 x hx).step hb⟩
/-- The cells of a step. -/
theorem FS.at_ {w : World} {A : Option Addr} {n c : Nat} {l : List FX} (h : FS w A n c l) {j : Nat} (hj : j < n) : ∃ b o x, A = some ⟨b, o, none⟩ ∧ b < w.heap.size ∧ l[j]? = some x ∧ FV w x ∧ w.cell? ⟨b, o + j * 6, none⟩ = some (.int .i64 x.wh) ∧ w.cell? ⟨b, o + j * 6 + 1, none⟩ = some (.int .i64 x.n) ∧ w.cell? ⟨b, o + j * 6 + 2, none⟩ = some (.int .i64 x.m) ∧ w.cell? ⟨b, o + j * 6 + 3, none⟩ = some (.slice x.l.1 x.l.2.1 x.l.2.2) ∧ w.cell? ⟨b, o + j * 6 + 4, none⟩ = some (.int .u32 x.cum) ∧ w.cell? ⟨b, o + j * 6 + 5, none⟩ = some (.slice x.b.1 x.b.2.1 x.b.2.2) := by
  have hl : j < l.length := by have := h.1.1; dsimp only at this; omega
  have hne : flatF FX.cells l ≠ [] := by
    intro h0
    have h1 := flatF_len FX.len l
    rw [h0] at h1
    simp at h1
    omega
  obtain ⟨b, o, e, hlt, hc⟩ := h.1.2.2 hne
  have hg := flatF_get (f := FX.cells) FX.len l j l[j] (List.getElem?_eq_getElem hl)
  have key : ∀ i v, i < 6 → l[j].cells[i]? = some v → w.cell? ⟨b, o + j * 6 + i, none⟩ = some v := fun i v hi hv => by
    rw [Nat.add_assoc]
    exact hc _ _ ((hg i hi).trans hv)
  exact ⟨b, o, l[j], e, hlt, List.getElem?_eq_getElem hl, h.2 _ (List.getElem_mem hl), key 0 _ (by decide) rfl, key 1 _ (by decide) rfl, key 2 _ (by decide) rfl, key 3 _ (by decide) rfl, key 4 _ (by decide) rfl, key 5 _ (by decide) rfl⟩
theorem wrap_sm (a b : Int) (ha : 0 ≤ a ∧ a ≤ 1000000000000000) (hb : 0 ≤ b ∧ b ≤ 1000000000000000) : IntKind.i64.wrap (a + b) = a + b := IntWalk.i64_in _ (by omega)
structure FewP (n : Nat) (l : List FX) (W : World) (e : Ending) (w' : World) : Prop where
  r : ∃ r, e = .returned (.bool r) ∧ Hid (r = true → n ≤ 40 ∧ ∀ x ∈ l, FewX x)
  wk : ∃ k, w' = W.drewN k
theorem FewP.no {n : Nat} {l : List FX} {W : World} {e : Ending} (he : e = .returned (.bool false)) (k : Nat) : FewP n l W e (W.drewN k) := ⟨⟨false, he, keep fun hc => by cases hc⟩, k, rfl⟩
theorem FewP.no2 {n : Nat} {l : List FX} {W : World} {e : Ending} (he : e = .returned (.bool false)) (k k' : Nat) : FewP n l W e ((W.drewN k).drewN k') := ⟨⟨false, he, keep fun hc => by cases hc⟩, _, World.drewN_drewN W k k'⟩
set_option maxRecDepth 100000 in
set_option maxHeartbeats 4000000 in
theorem few_any {A : Option Addr} {n c : Nat} {l : List FX} {W : World} (h : FS W A n c l) : Calls Try.prog 5 #[.slice A n c] W fun e w' => FewP n l W e w' := by
  have HZ := keep h
  have hzl := h.1.1
  dsimp only at hzl
  have HLN := keep hzl
  clear h hzl
  by_cases hbig : 40 < n
  · go_enter Try.func5, Try.ntmps5
    go_wp2
    go_ret
    exact FewP.no rfl 0
  · have hn40 : n ≤ 40 := by omega
    have hnI : (n : Int) ≤ 40 := by omega
    go_enter Try.func5, Try.ntmps5
    go_wp2
    go_loopw [3, 4] (fun i _ wr => ∃ (j k : Nat), j ≤ n ∧ i = .int .i64 j ∧ wr = W.drewN k ∧ Hid (∀ x ∈ l.take j, FewX x)) (fun i _ _ => n - (intOf i).toNat)
    case atStart => exact ⟨0, 0, Nat.zero_le _, rfl, rfl, keep (by simp)⟩
    case round =>
      obtain ⟨j, k, hj, rfl, rfl, HR⟩ := hrel
      by_cases hlt : j < n
      · obtain ⟨b, o, x, rfl, _, hlj, hxv, _, _, _, d3, _, d5⟩ := HZ.out.at_ hlt
        have HX := keep (And.intro hlj hxv)
        have hl1 := hxv.l.1.1
        have hb1 := hxv.b.1
        have HXL := keep (And.intro hl1 hb1)
        have HZS := keep hxv.l
        have HZL := keep hxv.zl
        obtain ⟨xw, xn, xm, ⟨l1, l2, l3⟩, xc, ⟨b1, b2, b3⟩, xls, xbls⟩ := x
        dsimp only at d3 d5 hl1 hb1 HXL HZS HZL
        have hjI : (j : Int) < (n : Int) := by omega
        have hj0 : (0 : Int) ≤ (j : Int) := by omega
        clear hlj hxv hl1 hb1
        by_cases h10 : 10 < l2
        · have h10I : (10 : Int) < (l2 : Int) := by omega
          go_wp2
          go_ret
          exact FewP.no rfl k
        · have h10I : ¬ (10 : Int) < (l2 : Int) := by omega
          have hl2 : (l2 : Int) ≤ 10 := by omega
          by_cases h20 : 20 < b2
          · have h20I : (20 : Int) < (b2 : Int) := by omega
            go_wp2
            go_ret
            exact FewP.no rfl k
          · have h20I : ¬ (20 : Int) < (b2 : Int) := by omega
            go_wp2
            go_loopw [4] (fun i wr => ∃ (t k' : Nat), t ≤ l2 ∧ i = .int .i64 t ∧ wr = W.drewN k' ∧ Hid (∀ y ∈ xls.take t, FewC y)) (fun i _ => l2 - (intOf i).toNat)
            case atStart => exact ⟨0, k, Nat.zero_le _, rfl, rfl, keep (by simp)⟩
            case round =>
              obtain ⟨t, k', ht, rfl, rfl, HT⟩ := hrel
              by_cases htl : t < l2
              · obtain ⟨g, p, y, eA, _, hz12, hly, hyv⟩ := HZS.out.at_ htl
                dsimp only at eA
                subst eA
                obtain ⟨z0, z1, z2, z3, z4, z5, z6, z7, z8, z9, z10, z11⟩ := hz12
                have hy := HZL.out y (List.mem_of_getElem? hly)
                obtain ⟨y7, y8, y9, y10⟩ := hy
                have HY := keep hly
                have htI : (t : Int) < (l2 : Int) := by omega
                have ht0 : (0 : Int) ≤ (t : Int) := by omega
                obtain ⟨s1, hs1⟩ : ∃ s1 : Int, (y.pr.2.1 : Int) + (y.bl.2.1 : Int) = s1 := ⟨_, rfl⟩
                obtain ⟨s2, hs2⟩ : ∃ s2 : Int, s1 + (y.du.2.1 : Int) = s2 := ⟨_, rfl⟩
                obtain ⟨s3, hs3⟩ : ∃ s3 : Int, s2 + (y.sk.2.1 : Int) = s3 := ⟨_, rfl⟩
                have e1 : IntKind.i64.wrap ((y.pr.2.1 : Int) + (y.bl.2.1 : Int)) = s1 := (wrap_sm _ _ (by omega) (by omega)).trans hs1
                have e2 : IntKind.i64.wrap (s1 + (y.du.2.1 : Int)) = s2 := (wrap_sm _ _ (by omega) (by omega)).trans hs2
                have e3 : IntKind.i64.wrap (s2 + (y.sk.2.1 : Int)) = s3 := (wrap_sm _ _ (by omega) (by omega)).trans hs3
                have HS := keep (show s3 = ((y.pr.2.1 + y.bl.2.1 + y.du.2.1 + y.sk.2.1 : Nat) : Int) by omega)
                obtain ⟨r1, hr1⟩ : ∃ r, decide ((1200 : Int) < (y.da.2.1 : Int)) = r := ⟨_, rfl⟩
                obtain ⟨r2, hr2⟩ : ∃ r, decide ((20 : Int) < s3) = r := ⟨_, rfl⟩
                have HR1 := keep hr1
                have HR2 := keep hr2
                obtain ⟨yk, yf, ya, yb, yo, ys, yp, ⟨x1, x2, x3⟩, ⟨x4, x5, x6⟩, ⟨x7, x8, x9⟩, ⟨x10, x11, x12⟩, ⟨x13, x14, x15⟩, ybl, ydu, ysk, ypr, ybs⟩ := y
                dsimp only at z7 z8 z9 z10 z11 hr1 e1 e2 e3
                clear z0 z1 z2 z3 z4 z5 z6 hly hyv y7 y8 y9 y10 hs1 hs2 hs3
                cases r1 with
                | true =>
                  go_wp2
                  go_quiet (fail)
                  go_wp2
                  go_ret
                  first | exact FewP.no rfl _ | exact FewP.no2 rfl _ _
                | false =>
                  cases r2 with
                  | true =>
                    go_wp2
                    go_quiet (fail)
                    go_wp2
                    go_ret
                    first | exact FewP.no rfl _ | exact FewP.no2 rfl _ _
                  | false =>
                    go_wp2
                    go_quiet (fail)
                    go_wp2
                    go_roundw
                    case rel =>
                      refine ⟨t + 1, _, by omega, by go_num, rfl, keep fun y' hy' => ?_⟩
                      rw [List.take_add_one, HY.out] at hy'
                      rcases List.mem_append.1 hy' with hy' | hy'
                      · exact HT.out y' hy'
                      · rw [Option.toList_some, List.mem_singleton] at hy'
                        rw [hy']
                        have h1 := HR1.out
                        have h2 := HR2.out
                        rw [decide_eq_false_iff_not] at h1 h2
                        have h3 := HS.out
                        try dsimp only at h1 h3
                        exact ⟨by (try dsimp only); omega, by (try dsimp only); omega⟩
                    case measure => simp [intOf]; omega
              · obtain rfl : l2 = t := by omega
                go_wp2
                go_roundw
                case rel =>
                  refine ⟨j + 1, k', by omega, by go_num, rfl, keep fun x' hx' => ?_⟩
                  rw [List.take_add_one, HX.out.1] at hx'
                  rcases List.mem_append.1 hx' with hx' | hx'
                  · exact HR.out x' hx'
                  · rw [Option.toList_some, List.mem_singleton] at hx'
                    rw [hx']
                    have h1 := HXL.out.1
                    have h2 := HXL.out.2
                    try dsimp only at h1 h2
                    refine ⟨by (try dsimp only); omega, by (try dsimp only); omega, fun y hy => HT.out y ?_⟩
                    rw [List.take_of_length_le (by omega)]
                    exact hy
                case measure => simp [intOf]; omega
      · obtain rfl : n = j := by omega
        go_wp2
        go_ret
        have h1 := HR.out
        rw [List.take_of_length_le (by rw [← HLN.out]; exact Nat.le_refl _)] at h1
        exact ⟨⟨true, rfl, keep fun _ => ⟨hn40, h1⟩⟩, _, rfl⟩
end
end Go.Proofs.Ytffjdknmfmlfnaa
