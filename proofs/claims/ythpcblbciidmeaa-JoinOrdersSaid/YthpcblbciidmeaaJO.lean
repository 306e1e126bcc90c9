/- A message that is whole waits, and its stream is told. -/
import Derived.Test.YthpcblbciidmeaaJN
namespace Go.Proofs.Ythpcblbciidmeaa
open Go.RowKit Go.Maps
set_option linter.unusedVariables false

theorem Good.push {j : Jn} (h : Good j) {m : Msg} {k : Int} (hs : 0 ≤ m.st ∧ m.st < j.n) (hk : 0 ≤ k ∧ k < 65536) (hu : m.un = false) (hn : hasS j.st m.st k = none) (hd : m.da ≠ []) (ho : j.oct + m.da.length ≤ 65536) : Good { j with st := (k, m) :: j.st } :=
  ⟨h.wf.push hs hk hu hn, ⟨fun p hp => by
    rcases List.mem_cons.1 hp with rfl | hp
    · exact hd
    · exact h.ne.s p hp, h.ne.r⟩, by rw [push_oct]; exact ho⟩
set_option maxRecDepth 1000000 in
set_option maxHeartbeats 4000000 in
theorem place_wait {w : World} {G : Gh} {j : Jn} {o : Int} (h : JA w G j o) (hg : Good j) (hn64 : G.n ≤ 64) {x : MX} (hx : MV w x ∧ InF G.F x.da.1) {s : Nat} (hs : s < G.n) (hst : x.st = s) (hu : x.un = false) {k : Int} (hk0 : 0 ≤ k) (hk1 : k < 65536) (hl : lt16 k (j.nx s) = false) (hno : hasS j.st s k = none) (hne : x.bs ≠ []) (ho : j.oct + x.bs.length ≤ 65536) :
    Calls Try.prog 22 #[.pointer (some ⟨G.b, 0, none⟩), .agg x.cells.toArray, .int .u16 k] w fun e w' => e = .returned (.tuple #[]) ∧ ∃ G', JA w' G' (comes j x.msg k) o ∧ Later w G w' G' ∧ G'.far = G.far := by
  have hcm : comes j x.msg k = tell { j with st := (k, x.msg) :: j.st } s := by
    unfold comes
    rw [if_neg (show ¬ x.msg.un = true by rw [show x.msg.un = false from hu]; decide), show x.msg.st = (s : Int) from hst, if_neg ?_]
    rw [hl, hno]
    rintro (h1 | h1) <;> cases h1
  have hgp : Good { j with st := (k, x.msg) :: j.st } := hg.push (by rw [show x.msg.st = (s : Int) from hst, h.n]; omega) ⟨hk0, hk1⟩ hu (by rw [show x.msg.st = (s : Int) from hst]; exact hno) hne ho
  rw [hcm]
  have L0 := below_lay w (.cells x.cells.toArray 44)
  have J0 := h.step L0
  have M0 := (show MB (w.alloc (.cells x.cells.toArray 44)) w.heap.size x from heap_alloc_new w _)
  obtain ⟨y, hy1, hy2⟩ := wgV_is h hs k
  have HR := rel_wait J0 hs hk0 hk1
  rw [hy1, hy2, hno] at HR
  have KF := keep (find_ok J0 hn64 hs)
  have KL := Less16_any k (j.nx s)
  rw [less16_lt, hl] at KL
  replace KL := keep KL
  obtain ⟨⟨m0, m1, m2, m3⟩, _⟩ := M0.all
  have hlt := h.olt _ h.sa.osb
  have hltm := h.olt _ (h.sa.ow s hs)
  have hltb := h.olt _ h.ob
  obtain ⟨s0, s1, s2⟩ := HR _ rfl rfl
  have HR := keep HR
  have HJ := keep (And.intro J0 L0)
  have HX := keep hx
  have HGP := keep hgp
  have HST := keep (stc_le hg.wf.ks (fun p hp => ⟨(hg.wf.os p hp).1, (hg.wf.os p hp).2.1⟩) (s : Int))
  have HNO := keep hno
  have HSL := keep hs
  have HK := keep (wf16 hk0 hk1)
  have HST2 := keep hst
  clear h J0 hx L0 hn64 hy1 hy2 hg hgp hcm hne ho hno hs hk0 hk1
  obtain ⟨b, kk, sb, n, v, pb, pc, far, wm, gs, rs, O, F⟩ := G
  obtain ⟨xs, xu, xp, ⟨x1, x2, x3⟩, xb⟩ := x
  obtain ⟨ys, yu, yp, ⟨y1, y2, y3⟩, yb⟩ := y
  dsimp only [MX.cells] at *
  subst hu hst
  clear HST2
  go_enter Try.func22, Try.ntmps22
  go_wp2_with (first
    | (go_at_call 24; refine KF.out.mono ?_; rintro e w' ⟨rfl, rfl⟩)
    | (go_at_call 31; refine (KL.out _).mono ?_; rintro e w' ⟨rfl, rfl⟩))
  have L8 := up HJ.out.2 (below_lay _ (.cells #[.int .u16 ys, .bool yu, .int .u32 yp, .slice y1 y2 y3] 44))
  have M8 := (show MB ((w.alloc (.cells #[.int .u16 s, .bool false, .int .u32 xp, .slice x1 x2 x3] 44)).alloc (.cells #[.int .u16 ys, .bool yu, .int .u32 yp, .slice y1 y2 y3] 44)) w.heap.size ⟨s, false, xp, (x1, x2, x3), xb⟩ from ((below_lay _ _).block _ (by simp)).trans M0)
  have J8 := keep (And.intro (HJ.out.1.step (below_lay _ (.cells #[.int .u16 ys, .bool yu, .int .u32 yp, .slice y1 y2 y3] 44))) (And.intro M8 L8))
  clear L8 M8 M0 m0 m1 m2 m3 s0 s1 s2 HR HJ KF KL
  generalize World.alloc (World.alloc _ _) _ = W8 at J8 ⊢
  have t0 := J8.out.1.s0 HSL.out
  dsimp only at t0
  obtain ⟨m0, m1, m2, m3⟩ := J8.out.2.1.all.1
  dsimp only at m0 m1 m2 m3
  refine wp_region_still_tail 6 (by kernel_rfl) (by kernel_rfl) ?_
  simp only [List.take_succ_cons, List.take_zero, List.drop_succ_cons, List.drop_zero]
  repeat still_step
  refine wpStill_nil ?_
  have JD := J8.out.1.step (Below.refl _ W8).drew
  have HMP := JD.sa.maps s HSL.out
  refine wpl_put _ rfl _ _ _ 64 rfl Try.underlying27 Try.underlying64 rfl (show MapV W8.drew _ _ _ _ _ from HMP) (by have := HST.out; unfold maxLen; omega) rfl HK.out rfl ?_
  intro w2 hm2 hg2 hs2
  have J2 := JD.putMsg HSL.out (k := k) (x := ⟨s, false, xp, (x1, x2, x3), xb⟩) ⟨(HX.out.1.step J8.out.2.2).step (Below.refl _ W8).drew, HX.out.2⟩ rfl HNO.out hm2 hg2
  have KT := keep (tell_any J2.1 HGP.out HSL.out)
  have HP := keep (And.intro J2.2 (JD.sa.ow s HSL.out))
  clear JD HMP hm2 hg2 hs2 J2 t0 m0 m1 m2 m3
  go_wp2_with (go_at_call 32; refine KT.out.mono ?_; rintro e w3 ⟨rfl, G3, hj3, hl3, hf3⟩; replace hj3 := keep hj3; replace hl3 := keep hl3; replace hf3 := keep hf3)
  refine bodyPost_end (results_none rfl _ _ _) rfl ⟨rfl, G3, hj3.out, ?_, hf3.out⟩
  have hl := hl3.out
  exact ⟨hl.b, hl.k, hl.sb, hl.n, hl.wm, ((Part.of_below O J8.out.2.2.drew).trans HP.out.1 fun i hi => .inl (by rw [hi]; exact HP.out.2)).trans hl.part fun i hi => .inl hi, fun i hi => (hl.o i hi).imp id fun h9 => Nat.le_trans J8.out.2.2.size (Nat.le_trans HP.out.1.size h9), fun i hi => (hl.f i hi).imp id fun h9 => Nat.le_trans J8.out.2.2.size (Nat.le_trans HP.out.1.size h9)⟩
end Go.Proofs.Ythpcblbciidmeaa
