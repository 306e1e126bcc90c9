/- KAU of the stage: texts JO, JP, Pc1, joined. -/
import Derived.Test.YtnlkdlnmffibhaaGreatKAT
import Derived.Test.YtnlkdlnmffibhaaGreatKAR
import Derived.Test.YtnlkdlnmffibhaaGreatKAL
set_option linter.unusedSimpArgs false
set_option linter.unusedVariables false
set_option maxRecDepth 8000
namespace Go.Proofs.YtnlkdlnmffibhaaGreat
open List renaming setIfInBounds_toArray → lA, set_cons_zero → lZ, set_cons_succ → lS
open Go renaming wpAnyH_take → wT
open Go.Act renaming put → aP
section
open Go.RowKit Go.Maps
theorem Good.push {j : Jn} (h : Good j) {m : Msg} {k : Int} (hs : 0 ≤ m.st ∧ m.st < j.n) (hk : 0 ≤ k ∧ k < 65536) (hu : m.un = false) (hn : hasS j.st m.st k = none) (hd : m.da ≠ []) (ho : j.oct + m.da.length ≤ 65536) : Good { j with st := (k, m) :: j.st } :=
  ⟨h.wf.push hs hk hu hn, ⟨fun p hp => by
    rcases List.mem_cons.1 hp with rfl | hp
    · exact hd
    · exact h.ne.s p hp, h.ne.r⟩, by rw [push_oct]; exact ho⟩
set_option maxRecDepth 1000000 in
set_option maxHeartbeats 4000000 in
theorem place_wait {w : World} {G : Gh} {j : Jn} {o : Int} (h : JA w G j o) (hg : Good j) (hn64 : G.n ≤ 64) {x : MX} (hx : MV w x ∧ InF_jo G.F x.da.1) {s : Nat} (hs : s < G.n) (hst : x.st = s) (hu : x.un = false) {k : Int} (hk0 : 0 ≤ k) (hk1 : k < 65536) (hl : lt16 k (j.nx s) = false) (hno : hasS j.st s k = none) (hne : x.bs ≠ []) (ho : j.oct + x.bs.length ≤ 65536) :
    Calls Tryz.prog 117 #[.pointer (some ⟨G.b, 0, none⟩), .agg x.cells.toArray, .int .u16 k] w fun e w' => e = .returned (.tuple #[]) ∧ ∃ G', JA w' G' (comes j x.msg k) o ∧ Later w G w' G' ∧ G'.far = G.far := by
  have hcm : comes j x.msg k = tell { j with st := (k, x.msg) :: j.st } s := by
    unfold comes
    rw [if_neg (show ¬ x.msg.un = true by rw [show x.msg.un = false from hu]; decide), show x.msg.st = (s : Int) from hst, if_neg ?_]
    rw [hl, hno]
    rintro (h1 | h1) <;> cases h1
  have hgp : Good { j with st := (k, x.msg) :: j.st } := hg.push (by rw [show x.msg.st = (s : Int) from hst, h.n]; omega) ⟨hk0, hk1⟩ hu (by rw [show x.msg.st = (s : Int) from hst]; exact hno) hne ho
  rw [hcm]
  have L0 := below_lay w (.cells x.cells.toArray 33)
  have J0 := h.step L0
  have M0 := (show MB (w.alloc (.cells x.cells.toArray 33)) w.heap.size x from heap_alloc_new w _)
  obtain ⟨y, hy1, hy2⟩ := wgV_is h hs k
  have HR := rel_wait J0 hs hk0 hk1
  rw [hy1, hy2, hno] at HR
  have KF := keep (find_ok J0 hn64 hs)
  have KL := Less16_any k (j.nx s)
  rw [less16_lt, hl] at KL
  replace KL := keep KL
  obtain ⟨⟨m0, m1, m2, m3⟩, _⟩ := M0.all
  have hlt := h.olt _ h.sa.osb
  have hltm := h.olt _ (h.sa.ow s hs)
  have hltb := h.olt _ h.ob
  obtain ⟨s0, s1, s2⟩ := HR _ rfl rfl
  have HR := keep HR
  have HJ := keep (And.intro J0 L0)
  have HX := keep hx
  have HGP := keep hgp
  have HST := keep (stc_le hg.wf.ks (fun p hp => ⟨(hg.wf.os p hp).1, (hg.wf.os p hp).2.1⟩) (s : Int))
  have HNO := keep hno
  have HSL := keep hs
  have HK := keep (wf16 hk0 hk1)
  have HST2 := keep hst
  clear h J0 hx L0 hn64 hy1 hy2 hg hgp hcm hne ho hno hs hk0 hk1
  obtain ⟨b, kk, sb, n, v, pb, pc, far, wm, gs, rs, O, F⟩ := G
  obtain ⟨xs, xu, xp, ⟨x1, x2, x3⟩, xb⟩ := x
  obtain ⟨ys, yu, yp, ⟨y1, y2, y3⟩, yb⟩ := y
  dsimp only [MX.cells] at *
  subst hu hst
  clear HST2
  go_enter Tryz.func117, Tryz.ntmps117
  go_wp2_with (first
    | (go_at_call 99; refine KF.out.mono ?_; rintro e w' ⟨rfl, rfl⟩)
    | (go_at_call 128; refine (KL.out _).mono ?_; rintro e w' ⟨rfl, rfl⟩))
  have L8 := up HJ.out.2 (below_lay _ (.cells #[.int .u16 ys, .bool yu, .int .u32 yp, .slice y1 y2 y3] 33))
  have M8 := (show MB ((w.alloc (.cells #[.int .u16 s, .bool false, .int .u32 xp, .slice x1 x2 x3] 33)).alloc (.cells #[.int .u16 ys, .bool yu, .int .u32 yp, .slice y1 y2 y3] 33)) w.heap.size ⟨s, false, xp, (x1, x2, x3), xb⟩ from ((below_lay _ _).block _ (by simp)).trans M0)
  have J8 := keep (And.intro (HJ.out.1.step (below_lay _ (.cells #[.int .u16 ys, .bool yu, .int .u32 yp, .slice y1 y2 y3] 33))) (And.intro M8 L8))
  clear L8 M8 M0 m0 m1 m2 m3 s0 s1 s2 HR HJ KF KL
  generalize World.alloc (World.alloc _ _) _ = W8 at J8 ⊢
  have t0 := J8.out.1.s0 HSL.out
  dsimp only at t0
  obtain ⟨m0, m1, m2, m3⟩ := J8.out.2.1.all.1
  dsimp only at m0 m1 m2 m3
  refine wp_region_still_tail 6 (by kernel_rfl) (by kernel_rfl) ?_
  simp only [List.take_succ_cons, List.take_zero, List.drop_succ_cons, List.drop_zero]
  repeat still_step
  refine wpStill_nil ?_
  have JD := J8.out.1.step (Below.refl _ W8).drew
  have HMP := JD.sa.maps s HSL.out
  refine wpl_put _ rfl _ _ _ 149 rfl Tryz.underlying30 Tryz.underlying149 rfl (show MapV W8.drew _ _ _ _ _ from HMP) (by have := HST.out; unfold maxLen; omega) rfl HK.out rfl ?_
  intro w2 hm2 hg2 hs2
  have J2 := JD.putMsg HSL.out (k := k) (x := ⟨s, false, xp, (x1, x2, x3), xb⟩) ⟨(HX.out.1.step J8.out.2.2).step (Below.refl _ W8).drew, HX.out.2⟩ rfl HNO.out hm2 hg2
  have KT := keep (tell_any J2.1 HGP.out HSL.out)
  have HP := keep (And.intro J2.2 (JD.sa.ow s HSL.out))
  clear JD HMP hm2 hg2 hs2 J2 t0 m0 m1 m2 m3
  go_wp2_with (go_at_call 130; refine KT.out.mono ?_; rintro e w3 ⟨rfl, G3, hj3, hl3, hf3⟩; replace hj3 := keep hj3; replace hl3 := keep hl3; replace hf3 := keep hf3)
  refine bodyPost_end (results_none rfl _ _ _) rfl ⟨rfl, G3, hj3.out, ?_, hf3.out⟩
  have hl := hl3.out
  exact ⟨hl.b, hl.k, hl.sb, hl.n, hl.wm, ((Part.of_below O J8.out.2.2.drew).trans HP.out.1 fun i hi => .inl (by rw [hi]; exact HP.out.2)).trans hl.part fun i hi => .inl hi, fun i hi => (hl.o i hi).imp id fun h9 => Nat.le_trans J8.out.2.2.size (Nat.le_trans HP.out.1.size h9), fun i hi => (hl.f i hi).imp id fun h9 => Nat.le_trans J8.out.2.2.size (Nat.le_trans HP.out.1.size h9)⟩
end
section
open Go.RowKit Go.Maps
set_option maxRecDepth 1000000 in
set_option maxHeartbeats 4000000 in
theorem place_un {w : World} {G : Gh} {j : Jn} {o : Int} (h : JA w G j o) (hg : Good j) (hn64 : G.n ≤ 64) {x : MX} (hx : MV w x ∧ InF_jo G.F x.da.1) {s : Nat} (hs : s < G.n) (hst : x.st = s) (hu : x.un = true) {k : Int} (hk0 : 0 ≤ k) (hk1 : k < 65536) :
    Calls Tryz.prog 117 #[.pointer (some ⟨G.b, 0, none⟩), .agg x.cells.toArray, .int .u16 k] w fun e w' => e = .returned (.tuple #[]) ∧ ∃ G', JA w' G' (comes j x.msg k) o ∧ Later w G w' G' ∧ G'.far = G.far := by
  have hcm : comes j x.msg k = { j with rd := j.rd ++ [x.msg] } := by
    unfold comes
    rw [if_pos (show x.msg.un = true from hu)]
  rw [hcm]
  have L0 := below_lay w (.cells x.cells.toArray 33)
  have J0 := h.step L0
  have M0 := (show MB (w.alloc (.cells x.cells.toArray 33)) w.heap.size x from heap_alloc_new w _)
  obtain ⟨y, hy1, hy2⟩ := wgV_is h hs k
  have HR := rel_wait J0 hs hk0 hk1
  rw [hy1, hy2] at HR
  have KF := keep (find_ok J0 hn64 hs)
  obtain ⟨⟨m0, m1, m2, m3⟩, _⟩ := M0.all
  have hlt := h.olt _ h.sa.osb
  have hltm := h.olt _ (h.sa.ow s hs)
  have hltb := h.olt _ h.ob
  obtain ⟨s0, s1, s2⟩ := HR _ rfl rfl
  have HR := keep HR
  have HJ := keep (And.intro J0 L0)
  have HX := keep hx
  have HG := keep hg
  have HSL := keep hs
  have HK := keep (wf16 hk0 hk1)
  have HST2 := keep hst
  have HVO0 := keep (show ∀ g, G.v.ownBlock = some g → g < w.heap.size from fun g e => h.olt _ (h.ra.own g e))
  clear h J0 hx L0 hn64 hy1 hy2 hg hcm hs hk0 hk1
  obtain ⟨b, kk, sb, n, v, pb, pc, far, wm, gs, rs, O, F⟩ := G
  obtain ⟨xs, xu, xp, ⟨x1, x2, x3⟩, xb⟩ := x
  obtain ⟨ys, yu, yp, ⟨y1, y2, y3⟩, yb⟩ := y
  dsimp only [MX.cells] at *
  subst hu hst
  clear HST2
  generalize hasS j.st s k = hh at *
  go_enter Tryz.func117, Tryz.ntmps117
  go_wp2_with (first
    | (go_at_call 99; refine KF.out.mono ?_; rintro e w' ⟨rfl, rfl⟩))
  have L8 := up HJ.out.2 (below_lay _ (.cells #[.int .u16 ys, .bool yu, .int .u32 yp, .slice y1 y2 y3] 33))
  have M8 := (show MB ((w.alloc (.cells #[.int .u16 s, .bool true, .int .u32 xp, .slice x1 x2 x3] 33)).alloc (.cells #[.int .u16 ys, .bool yu, .int .u32 yp, .slice y1 y2 y3] 33)) w.heap.size ⟨s, true, xp, (x1, x2, x3), xb⟩ from ((below_lay _ _).block _ (by simp)).trans M0)
  have Z8 : w.heap.size < ((w.alloc (.cells #[.int .u16 s, .bool true, .int .u32 xp, .slice x1 x2 x3] 33)).alloc (.cells #[.int .u16 ys, .bool yu, .int .u32 yp, .slice y1 y2 y3] 33)).heap.size := by simp; omega
  have J8 := keep (And.intro (HJ.out.1.step (below_lay _ (.cells #[.int .u16 ys, .bool yu, .int .u32 yp, .slice y1 y2 y3] 33))) (And.intro M8 (And.intro L8 Z8)))
  clear L8 M8 M0 m0 m1 m2 m3 s0 s1 s2 HR HJ KF Z8
  generalize World.alloc (World.alloc _ _) _ = w2 at J8 ⊢
  have hlt2 := J8.out.2.2.2
  have M2 := keep J8.out.2.1
  obtain ⟨m0, m1, m2, m3⟩ := M2.out.all.1
  dsimp only at m0 m1 m2 m3
  have c2 := J8.out.1.c2
  have hltb2 := J8.out.1.olt _ J8.out.1.ob
  obtain ⟨A, c, hv⟩ := J8.out.1.vshape
  dsimp only at c2 hltb2 hv
  subst hv
  have HNb := keep (show rs.length + 1 ≤ 65537 from by
    have h1 := HG.out.rd
    have h2 := congrArg List.length J8.out.1.ra.is
    rw [List.length_map] at h2
    have h3 : rs.length = j.rd.length := h2
    omega)
  have hnb : b ≠ w.heap.size := by omega
  have hnb' : w.heap.size ≠ b := by omega
  have HVO := keep (show ∀ g, (Value.slice A rs.length c).ownBlock = some g → g < w.heap.size from HVO0.out)
  have JD2 := keep (J8.out.1.step (Below.refl _ w2).drew)
  have HXd := keep (show MV w2.drew ⟨s, true, xp, (x1, x2, x3), xb⟩ ∧ InF_jo F x1 from ⟨(HX.out.1.step J8.out.2.2.1).step (Below.refl _ w2).drew, HX.out.2⟩)
  have q3 := keep (show MB (w2.drew.alloc (.cells #[.int .u16 s, .bool true, .int .u32 xp, .slice x1 x2 x3] 33)) w.heap.size ⟨s, true, xp, (x1, x2, x3), xb⟩ from ((below_lay w2.drew _).block w.heap.size hlt2).trans M2.out).all.1
  obtain ⟨i0, hi0, hz0, hz1, hz2⟩ := info_parts msg_info
  refine wp_region_held_drew (S := (fun w' => w'.cell? ⟨w.heap.size, 0, none⟩ = some (.int .u16 s) ∧ w'.cell? ⟨w.heap.size, 1, none⟩ = some (.bool true) ∧ w'.cell? ⟨w.heap.size, 2, none⟩ = some (.int .u32 xp) ∧ w'.cell? ⟨w.heap.size, 3, none⟩ = some (.slice x1 x2 x3))) (by kernel_rfl) ⟨m0, m1, m2, m3⟩ (fun hHeld => ?_)
  refine wT (i := 0) (oi := ⟨some 34, _, _, _, _, _⟩) (v := ?vy1x0) rfl (by kernel_rfl) (by kernel_rfl) (by kernel_rfl) (fun _ _ _ h => h) (Or.inl ⟨by rfl, ?hyy1x0⟩) (by assumption) ?resty1x0
  case hyy1x0 => (intro wz hSw; (try dsimp only at hSw); go_simp <;> try with_reducible rfl)
  try simp only [aP, lA, lZ, lS]
  refine wT (i := 1) (oi := ⟨some 35, _, _, _, _, _⟩) (v := ?vy2x1) rfl (by kernel_rfl) (by kernel_rfl) (by kernel_rfl) (fun _ _ _ h => h) (Or.inl ⟨by rfl, ?hyy2x1⟩) (by assumption) ?resty2x1
  case hyy2x1 => (intro wz hSw; (try dsimp only at hSw); go_simp <;> try with_reducible rfl)
  try simp only [aP, lA, lZ, lS]
  refine wT (i := 2) (oi := ⟨some 36, _, _, _, _, _⟩) (v := ?vy3x2) rfl (by kernel_rfl) (by kernel_rfl) (by kernel_rfl) (fun _ _ _ h => h) (Or.inl ⟨by rfl, ?hyy3x2⟩) (by assumption) ?resty3x2
  case hyy3x2 => (intro wz hSw; (try dsimp only at hSw); go_simp <;> try with_reducible rfl)
  try simp only [aP, lA, lZ, lS]
  refine wT (i := 3) (oi := ⟨some 37, _, _, _, _, _⟩) (v := ?vy4x3) rfl (by kernel_rfl) (by kernel_rfl) (by kernel_rfl) (fun _ _ _ h => h) (Or.inl ⟨by rfl, ?hyy4x3⟩) (by assumption) ?resty4x3
  case hyy4x3 => (intro wz hSw; (try dsimp only at hSw); go_simp <;> try with_reducible rfl)
  try simp only [aP, lA, lZ, lS]
  refine wT (i := 5) (oi := ⟨some 39, _, _, _, _, _⟩) (v := ?vy5x5) rfl (by kernel_rfl) (by kernel_rfl) (by kernel_rfl) (fun _ _ _ h => h) (Or.inl ⟨by rfl, ?hyy5x5⟩) (by assumption) ?resty5x5
  case hyy5x5 => (intro wz hSw; (try dsimp only at hSw); go_simp <;> try with_reducible rfl)
  try simp only [aP, lA, lZ, lS]
  refine wpAnyH_ready (rs := [4, 6]) (by kernel_rfl) (by simp) (AllReadyH.cons (o := ⟨some 38, _, _, _, _, _⟩) rfl (fun K hK => ?wayA) (AllReadyH.cons (o := ⟨some 40, _, _, _, _, _⟩) rfl (fun K hK => ?wayB) AllReadyH.nil))
  case wayA =>
    go_simp
    refine hK.out _ _ ⟨m0, m1, m2, m3⟩ (fun hHeld => ?_)
    clear hK K
    try simp only [aP, lA, lZ, lS]
    refine wpAnyH_ready (rs := [6]) (by kernel_rfl) (by simp) (AllReadyH.cons (o := ⟨some 40, _, _, _, _, _⟩) rfl (fun K hK => ?_) AllReadyH.nil)
    go_simp
    refine hK.out _ _ (q3.out) (fun hHeld => ?_)
    clear hK K
    try simp only [aP, lA, lZ, lS]
    refine wpAnyH_ready (rs := [7]) (by kernel_rfl) (by simp) (AllReadyH.cons (o := ⟨some 41, _, _, _, _, _⟩) rfl (fun K hK => ?_) AllReadyH.nil)
    refine step_appendA_jo (by decide) rfl (.tmp 38) (.tmp 40) 52 rfl 0 33 i0 _ Tryz.underlying52 hi0 hz0 hz1 (by rfl) _ rs.length (flatF MX.cells rs) rfl (JD2.out.ra.row.alloc _) ⟨w2.heap.size, 0, none⟩ 1 1 [.int .u16 s, .bool true, .int .u32 xp, .slice x1 x2 x3] rfl rfl (laid4_jo w2.drew _ _ _ _ _) (MX.one ⟨s, true, xp, (x1, x2, x3), xb⟩) (by have := HNb.out; unfold maxLen; omega) (by rw [hz2]; have := HNb.out; omega) (Nat.zero_le _) ?_
    intro A' c' w3 ho3 hg3 hl3
    obtain ⟨d2, f2, JJ3, P3⟩ := JD2.out.app (x := ⟨s, true, xp, (x1, x2, x3), xb⟩) HXd.out ho3 hg3 (hl3.elim .inl (fun e => .inr ⟨_, e, Nat.le_of_lt (by simp)⟩))
    replace JJ3 := keep JJ3
    replace P3 := keep P3
    have M3 := (show MB w3 w.heap.size ⟨s, true, xp, (x1, x2, x3), xb⟩ from (hg3.block w.heap.size (by simp; exact Nat.lt_succ_of_lt hlt2) (fun e => Nat.lt_irrefl _ (HVO.out _ e.symm))).trans (((below_lay w2.drew _).block w.heap.size hlt2).trans M2.out))
    obtain ⟨⟨n0, n1, n2, n3⟩, _⟩ := M3.all
    dsimp only at n0 n1 n2 n3
    have q4 := keep (show MB (w3.setCell ⟨b, 2, none⟩ (.slice A' (rs.length + 1) c')) w.heap.size ⟨s, true, xp, (x1, x2, x3), xb⟩ from (heap_setCell_other w3 ⟨b, 2, none⟩ w.heap.size _ hnb').trans M3)
    have HL3 := keep (show ∀ i, (Value.slice A' (rs.length + 1) c').ownBlock = some i → O i ∨ w.heap.size ≤ i from fun i hi => hl3.elim (fun e => .inl (J8.out.1.ra.own i (e.symm.trans hi))) (fun e => .inr (by rw [e] at hi; injection hi with hi; rw [← hi]; exact Nat.le_trans (Nat.le_of_lt hlt2) (below_lay w2 _).size)))
    clear ho3 hg3 hl3 M3
    refine hK.out _ _ ⟨n0, n1, n2, n3⟩ (fun hHeld => ?_)
    clear hK K
    try simp only [aP, lA, lZ, lS]
    refine wT (i := 8) (oi := ⟨some 42, _, _, _, _, _⟩) (v := ?vyA6x8) rfl (by kernel_rfl) (by kernel_rfl) (by kernel_rfl) (fun _ _ _ h => h) (Or.inl ⟨by rfl, ?hyyA6x8⟩) (by assumption) ?restyA6x8
    case hyyA6x8 => (intro wz hSw; (try dsimp only at hSw); go_simp <;> try with_reducible rfl)
    try simp only [aP, lA, lZ, lS]
    refine wT (i := 9) (oi := ⟨some 43, _, _, _, _, _⟩) (v := ?vyA7x9) rfl (by kernel_rfl) (by kernel_rfl) (by kernel_rfl) (fun _ _ _ h => h) (Or.inl ⟨by rfl, ?hyyA7x9⟩) (by assumption) ?restyA7x9
    case hyyA7x9 => (intro wz hSw; (try dsimp only at hSw); go_simp <;> try with_reducible rfl)
    try simp only [aP, lA, lZ, lS]
    refine wpAnyH_ready (rs := [10]) (by kernel_rfl) (by simp) (AllReadyH.cons (o := ⟨none, _, _, _, _, _⟩) rfl (fun K hK => ?_) AllReadyH.nil)
    go_simp
    (try go_wp2_with fail)
    refine hK.out _ _ (q4.out.all.1) (fun hHeld => ?_)
    clear hK K
    try simp only [aP, lA, lZ, lS]
    refine wpAnyH_done (by kernel_rfl) ?_ _
    go_wp2
    refine bodyPost_end (results_none rfl _ _ _) rfl ⟨rfl, _, JJ3.out, ⟨rfl, rfl, rfl, rfl, rfl, ?_, ?_, fun i hi => .inl hi⟩, rfl⟩
    · exact (Part.of_below O J8.out.2.2.1.drew).trans P3.out fun i hi => .inl (by
        rcases hi with rfl | hi
        · exact J8.out.1.ob
        · exact J8.out.1.ra.own i hi)
    · exact fun i hi => hi.elim .inl (HL3.out i)
  case wayB =>
    go_simp
    refine hK.out _ _ (q3.out) (fun hHeld => ?_)
    clear hK K
    try simp only [aP, lA, lZ, lS]
    refine wpAnyH_ready (rs := [4]) (by kernel_rfl) (by simp) (AllReadyH.cons (o := ⟨some 38, _, _, _, _, _⟩) rfl (fun K hK => ?_) AllReadyH.nil)
    go_simp
    refine hK.out _ _ (q3.out) (fun hHeld => ?_)
    clear hK K
    try simp only [aP, lA, lZ, lS]
    refine wpAnyH_ready (rs := [7]) (by kernel_rfl) (by simp) (AllReadyH.cons (o := ⟨some 41, _, _, _, _, _⟩) rfl (fun K hK => ?_) AllReadyH.nil)
    refine step_appendA_jo (by decide) rfl (.tmp 38) (.tmp 40) 52 rfl 0 33 i0 _ Tryz.underlying52 hi0 hz0 hz1 (by rfl) _ rs.length (flatF MX.cells rs) rfl (JD2.out.ra.row.alloc _) ⟨w2.heap.size, 0, none⟩ 1 1 [.int .u16 s, .bool true, .int .u32 xp, .slice x1 x2 x3] rfl rfl (laid4_jo w2.drew _ _ _ _ _) (MX.one ⟨s, true, xp, (x1, x2, x3), xb⟩) (by have := HNb.out; unfold maxLen; omega) (by rw [hz2]; have := HNb.out; omega) (Nat.zero_le _) ?_
    intro A' c' w3 ho3 hg3 hl3
    obtain ⟨d2, f2, JJ3, P3⟩ := JD2.out.app (x := ⟨s, true, xp, (x1, x2, x3), xb⟩) HXd.out ho3 hg3 (hl3.elim .inl (fun e => .inr ⟨_, e, Nat.le_of_lt (by simp)⟩))
    replace JJ3 := keep JJ3
    replace P3 := keep P3
    have M3 := (show MB w3 w.heap.size ⟨s, true, xp, (x1, x2, x3), xb⟩ from (hg3.block w.heap.size (by simp; exact Nat.lt_succ_of_lt hlt2) (fun e => Nat.lt_irrefl _ (HVO.out _ e.symm))).trans (((below_lay w2.drew _).block w.heap.size hlt2).trans M2.out))
    obtain ⟨⟨n0, n1, n2, n3⟩, _⟩ := M3.all
    dsimp only at n0 n1 n2 n3
    have q4 := keep (show MB (w3.setCell ⟨b, 2, none⟩ (.slice A' (rs.length + 1) c')) w.heap.size ⟨s, true, xp, (x1, x2, x3), xb⟩ from (heap_setCell_other w3 ⟨b, 2, none⟩ w.heap.size _ hnb').trans M3)
    have HL3 := keep (show ∀ i, (Value.slice A' (rs.length + 1) c').ownBlock = some i → O i ∨ w.heap.size ≤ i from fun i hi => hl3.elim (fun e => .inl (J8.out.1.ra.own i (e.symm.trans hi))) (fun e => .inr (by rw [e] at hi; injection hi with hi; rw [← hi]; exact Nat.le_trans (Nat.le_of_lt hlt2) (below_lay w2 _).size)))
    clear ho3 hg3 hl3 M3
    refine hK.out _ _ ⟨n0, n1, n2, n3⟩ (fun hHeld => ?_)
    clear hK K
    try simp only [aP, lA, lZ, lS]
    refine wT (i := 8) (oi := ⟨some 42, _, _, _, _, _⟩) (v := ?vyB8x8) rfl (by kernel_rfl) (by kernel_rfl) (by kernel_rfl) (fun _ _ _ h => h) (Or.inl ⟨by rfl, ?hyyB8x8⟩) (by assumption) ?restyB8x8
    case hyyB8x8 => (intro wz hSw; (try dsimp only at hSw); go_simp <;> try with_reducible rfl)
    try simp only [aP, lA, lZ, lS]
    refine wT (i := 9) (oi := ⟨some 43, _, _, _, _, _⟩) (v := ?vyB9x9) rfl (by kernel_rfl) (by kernel_rfl) (by kernel_rfl) (fun _ _ _ h => h) (Or.inl ⟨by rfl, ?hyyB9x9⟩) (by assumption) ?restyB9x9
    case hyyB9x9 => (intro wz hSw; (try dsimp only at hSw); go_simp <;> try with_reducible rfl)
    try simp only [aP, lA, lZ, lS]
    refine wpAnyH_ready (rs := [10]) (by kernel_rfl) (by simp) (AllReadyH.cons (o := ⟨none, _, _, _, _, _⟩) rfl (fun K hK => ?_) AllReadyH.nil)
    go_simp
    (try go_wp2_with fail)
    refine hK.out _ _ (q4.out.all.1) (fun hHeld => ?_)
    clear hK K
    try simp only [aP, lA, lZ, lS]
    refine wpAnyH_done (by kernel_rfl) ?_ _
    go_wp2
    refine bodyPost_end (results_none rfl _ _ _) rfl ⟨rfl, _, JJ3.out, ⟨rfl, rfl, rfl, rfl, rfl, ?_, ?_, fun i hi => .inl hi⟩, rfl⟩
    · exact (Part.of_below O J8.out.2.2.1.drew).trans P3.out fun i hi => .inl (by
        rcases hi with rfl | hi
        · exact J8.out.1.ob
        · exact J8.out.1.ra.own i hi)
    · exact fun i hi => hi.elim .inl (HL3.out i)
end
section
open Go.RowKit
theorem and_flags : ∀ n : Fin 256, bits .and .u8 (n.1 : Int) 1 = (if (n.1 : Int) % 2 = 1 then 1 else 0) ∧ bits .and .u8 (n.1 : Int) 2 = (if (n.1 : Int) / 2 % 2 = 1 then 2 else 0) ∧ bits .and .u8 (n.1 : Int) 4 = (if (n.1 : Int) / 4 % 2 = 1 then 4 else 0) := by decide +kernel
theorem and_flag {x : Int} (h : 0 ≤ x ∧ x < 256) : bits .and .u8 x 1 = (if x % 2 = 1 then 1 else 0) ∧ bits .and .u8 x 2 = (if x / 2 % 2 = 1 then 2 else 0) ∧ bits .and .u8 x 4 = (if x / 4 % 2 = 1 then 4 else 0) := by
  have := and_flags ⟨x.toNat, by omega⟩
  have e : ((x.toNat : Nat) : Int) = x := by omega
  simp only [e] at this
  exact this
section
variable {c0 c2 c3 c4 c5 c6 c7 c8 c9 c10 c11 : Value} {x : Int}
theorem has1_at (h : 0 ≤ x ∧ x < 256) (w : World) : Calls Tryz.prog 153 #[.agg #[c0, .int .u8 x, c2, c3, c4, c5, c6, c7, c8, c9, c10, c11], .int .u8 1] w fun e w' => e = .returned (.bool (decide (x % 2 = 1))) ∧ Below w.heap.size w w' := by
  obtain ⟨h1, h2, h3⟩ := and_flag h
  have HL := keep (below_lay w (.cells #[c0, .int .u8 x, c2, c3, c4, c5, c6, c7, c8, c9, c10, c11] 41))
  clear h2 h3
  by_cases hq : x % 2 = 1
  · rw [if_pos hq] at h1
    rw [decide_eq_true hq]
    clear hq h
    go_enter Tryz.func153, Tryz.ntmps153
    go_wp2_with fail
    go_ret
    exact ⟨rfl, HL.out⟩
  · rw [if_neg hq] at h1
    rw [decide_eq_false hq]
    clear hq h
    go_enter Tryz.func153, Tryz.ntmps153
    go_wp2_with fail
    go_ret
    exact ⟨rfl, HL.out⟩
theorem has2_at (h : 0 ≤ x ∧ x < 256) (w : World) : Calls Tryz.prog 153 #[.agg #[c0, .int .u8 x, c2, c3, c4, c5, c6, c7, c8, c9, c10, c11], .int .u8 2] w fun e w' => e = .returned (.bool (decide (x / 2 % 2 = 1))) ∧ Below w.heap.size w w' := by
  obtain ⟨h1, h2, h3⟩ := and_flag h
  have HL := keep (below_lay w (.cells #[c0, .int .u8 x, c2, c3, c4, c5, c6, c7, c8, c9, c10, c11] 41))
  clear h1 h3
  by_cases hq : x / 2 % 2 = 1
  · rw [if_pos hq] at h2
    rw [decide_eq_true hq]
    clear hq h
    go_enter Tryz.func153, Tryz.ntmps153
    go_wp2_with fail
    go_ret
    exact ⟨rfl, HL.out⟩
  · rw [if_neg hq] at h2
    rw [decide_eq_false hq]
    clear hq h
    go_enter Tryz.func153, Tryz.ntmps153
    go_wp2_with fail
    go_ret
    exact ⟨rfl, HL.out⟩
theorem has4_at (h : 0 ≤ x ∧ x < 256) (w : World) : Calls Tryz.prog 153 #[.agg #[c0, .int .u8 x, c2, c3, c4, c5, c6, c7, c8, c9, c10, c11], .int .u8 4] w fun e w' => e = .returned (.bool (decide (x / 4 % 2 = 1))) ∧ Below w.heap.size w w' := by
  obtain ⟨h1, h2, h3⟩ := and_flag h
  have HL := keep (below_lay w (.cells #[c0, .int .u8 x, c2, c3, c4, c5, c6, c7, c8, c9, c10, c11] 41))
  clear h1 h2
  by_cases hq : x / 4 % 2 = 1
  · rw [if_pos hq] at h3
    rw [decide_eq_true hq]
    clear hq h
    go_enter Tryz.func153, Tryz.ntmps153
    go_wp2_with fail
    go_ret
    exact ⟨rfl, HL.out⟩
  · rw [if_neg hq] at h3
    rw [decide_eq_false hq]
    clear hq h
    go_enter Tryz.func153, Tryz.ntmps153
    go_wp2_with fail
    go_ret
    exact ⟨rfl, HL.out⟩
end
end
end Go.Proofs.YtnlkdlnmffibhaaGreat
