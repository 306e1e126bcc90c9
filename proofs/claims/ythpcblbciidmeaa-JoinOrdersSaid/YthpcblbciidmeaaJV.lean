/- A stream begins anew. -/
import Derived.Test.YthpcblbciidmeaaJU
namespace Go.Proofs.Ythpcblbciidmeaa
open Go.RowKit Go.Maps
set_option linter.unusedVariables false

def stJ (j : Jn) (s : Int) (left : Int → Bool) : Jn := { j with st := j.st.filter fun p => !decide (p.2.st = s) || left p.1 }
theorem st_start {j : Jn} {s : Int} {left : Int → Bool} (h : ∀ p ∈ j.st, p.2.st = s → left p.1 = true) : stJ j s left = j := by
  unfold stJ
  rw [List.filter_eq_self.2 fun p hp => by
    by_cases e : p.2.st = s
    · rw [h p hp e]; simp
    · simp [e]]
theorem st_done {j : Jn} {s : Int} {left : Int → Bool} (h : ∀ x, left x = false) : stJ j s left = { j with st := j.st.filter fun p => !decide (p.2.st = s) } := by
  unfold stJ
  simp [h]
theorem st_go {j : Jn} {s : Int} {left : Int → Bool} {k : Int} : (stJ j s (fun z => left z && !decide (z = k))).st = delS (stJ j s left).st s k := by
  unfold stJ delS
  show j.st.filter _ = (j.st.filter _).filter _
  rw [List.filter_filter]
  refine List.filter_congr fun p _ => ?_
  unfold isS
  by_cases e : p.2.st = s <;> by_cases e' : p.1 = k <;> simp [e, e']
theorem grown_alloc (w : World) (o : Obj) : w.grownBy (w.alloc o) none := by
  have h := below_lay w o
  exact ⟨h.os, h.tape, h.output, h.size, fun k hk _ => h.block k hk⟩
structure RR (w : World) (G : Gh) (j : Jn) (s : Nat) (left : Int → Bool) (cnt : Nat) (Gt : Gh) (wr : World) : Prop where
  ja : JA wr Gt (stJ j s left) ((stJ j s left).oct : Int)
  la : Later w G wr Gt
  oo : Gt.O = G.O
  ff : Gt.F = G.F
  fr : Gt.far = G.far
  rg : RngV wr 27 .u16 (G.wm s) w.heap.size (stc (stJ j s left).st s) (wgV (Gt.gs s)) left cnt
/-- One more is dropped: behind the delete. -/
theorem RR.next {w : World} {G : Gh} {j : Jn} {s : Nat} {left : Int → Bool} {cnt : Nat} {Gt : Gh} {wr w2 w3 : World} (h : RR w G j s left cnt Gt wr) (hk : KeysS j.st) (hs : s < G.n) {x : Int} (J2 : JA w2 Gt (stJ j s left) ((stJ j s left).oct : Int)) {y : MX} (hy : Gt.gs s x = some y)
    {cnt2 : Nat} {left2 : Int → Bool} (hl2 : left2 = fun z => left z && !decide (z = x)) (hr : RngV w3 27 .u16 (G.wm s) w.heap.size (stc (stJ j s left).st s - if (wgV (Gt.gs s) x).isSome = true then 1 else 0) (delV (wgV (Gt.gs s)) x) left2 cnt2) (hg : w2.grownBy w3 (some (G.wm s))) :
    JA w3 { Gt with gs := fun i z => if i = s ∧ z = x then none else Gt.gs i z } (stJ j s left2) ((stJ j s left).oct : Int) ∧ Part (fun i => i = G.wm s) w2 w3 ∧ RngV w3 27 .u16 (G.wm s) w.heap.size (stc (stJ j s left2).st s) (wgV fun z => if z = x then none else Gt.gs s z) left2 cnt2 ∧ (((stJ j s left2).oct : Nat) : Int) = ((stJ j s left).oct : Int) - y.da.2.1 := by
  subst hl2
  have ew : Gt.wm = G.wm := h.la.wm
  have en : Gt.n = G.n := h.la.n
  have hkd : KeysS (stJ j s left).st := by unfold stJ; exact hk.filter _
  have hd := st_go (j := j) (s := (s : Int)) (left := left) (k := x)
  have hhas : hasS (stJ j s left).st s x = some y.msg := by
    rw [← J2.sa.msg s (by rw [en]; exact hs) x, hy]
    rfl
  have hsome : (wgV (Gt.gs s) x).isSome = true := by rw [wgV_at, hy]; rfl
  have hlen : stc (stJ j s fun z => left z && !decide (z = x)).st s = stc (stJ j s left).st s - if (wgV (Gt.gs s) x).isSome = true then 1 else 0 := by
    rw [hd, stc_del hkd, hhas, hsome]
    simp
  have hD := J2.delMsg hkd (s := s) (by rw [en]; exact hs) (k := x) (by rw [ew]; exact hr.map) (by rw [ew]; exact hg)
  have hD2 := hD.2
  rw [ew] at hD2
  refine ⟨?_, hD2, ?_, ?_⟩
  · have h1 := hD.1
    rw [← hd] at h1
    exact h1
  · rw [hlen]
    have e2 : (wgV fun z => if z = x then none else Gt.gs s z) = delV (wgV (Gt.gs s)) x := by
      funext z
      by_cases e : z = x <;> simp [wgV, delV, e]
    rw [e2]
    exact hr
  · have h1 := (delS_one hkd hhas).1
    rw [← hd] at h1
    have h2 := (J2.sa.vs s (by rw [en]; exact hs) x y hy).1.bs.len
    have h3 : y.msg.da.length = y.bs.length := rfl
    show ((octC j.ch + octS (stJ j s fun z => left z && !decide (z = x)).st + octM j.rd : Nat) : Int) = ((octC j.ch + octS (stJ j s left).st + octM j.rd : Nat) : Int) - _
    omega
theorem Reset_nil (x : Int) (w : World) : Calls Try.prog 12 #[.pointer none, .int .u16 x] w fun e w' => e = .returned (.tuple #[]) ∧ w = w' := by
  have KF := keep fun w => find_nil x w
  go_enter Try.func12, Try.ntmps12
  go_wp2_with (go_at_call 24; refine (KF.out _).mono ?_; rintro e w' ⟨rfl, rfl⟩)
  exact bodyPost_ret (results_none rfl _ _ _) rfl ⟨rfl, rfl⟩
theorem Reset_no {w : World} {G : Gh} {j : Jn} (h : JG w G j) {x : Int} (x0 : 0 ≤ x) (x1 : x < 65536) (hs : ¬ x < G.n) :
    Calls Try.prog 12 #[.pointer (some ⟨G.b, 0, none⟩), .int .u16 x] w fun e w' => e = .returned (.tuple #[]) ∧ ∃ G', JG w' G' (resetJ j x) ∧ Later w G w' G' := by
  have hn64 : G.n ≤ 64 := by
    have h1 := h.good.wf.n1
    have h2 := h.ja.n
    omega
  have e : resetJ j x = j := by
    unfold resetJ
    rw [if_neg fun h1 => hs (by have h2 := h1.2; rw [h.ja.n] at h2; exact h2)]
  rw [e]
  have KF := keep (find_no h.ja hn64 x0 x1 hs)
  have HH := keep h
  clear h hs hn64 e
  obtain ⟨b, k, sb, N, v, pb, pc, far, wm, gs, rs, O, F⟩ := G
  dsimp only at *
  go_enter Try.func12, Try.ntmps12
  go_wp2_with (go_at_call 24; refine KF.out.mono ?_; rintro e w' ⟨rfl, rfl⟩)
  exact bodyPost_ret (results_none rfl _ _ _) rfl ⟨rfl, _, HH.out, Later.refl _ _⟩
set_option maxRecDepth 1000000 in
set_option maxHeartbeats 4000000 in
theorem Reset_yes {w : World} {G : Gh} {j : Jn} (h : JG w G j) {s : Nat} (hs : s < G.n) :
    Calls Try.prog 12 #[.pointer (some ⟨G.b, 0, none⟩), .int .u16 (s : Int)] w fun e w' => e = .returned (.tuple #[]) ∧ ∃ G', JG w' G' (resetJ j s) ∧ Later w G w' G' := by
  have hn64 : G.n ≤ 64 := by
    have h1 := h.good.wf.n1
    have h2 := h.ja.n
    omega
  have e : resetJ j s = { j with nx := setN j.nx s 0, st := j.st.filter fun p => !decide (p.2.st = (s : Int)) } := by
    unfold resetJ
    rw [if_pos ⟨by omega, by rw [h.ja.n]; omega⟩]
  have HGR := keep (show Good (resetJ j s) from ⟨(reset_wf h.good.wf s).1, h.good.ne.reset s, Nat.le_trans (reset_wf h.good.wf s).2.1 h.good.le⟩)
  have HE := keep e
  have KF := keep (find_ok h.ja hn64 hs)
  have t0 := h.ja.s0 hs
  have HM := h.ja.sa.maps s hs
  have HH := keep h
  have HO := keep h.ja.olt
  have HF := keep h.ja.flt
  have HS := keep hs
  have HD0 := keep fun (w1 : World) (hr : RngV w1 27 .u16 (G.wm s) w.heap.size (stc j.st s) (wgV (G.gs s)) (fun x => (wgV (G.gs s) x).isSome) (stc j.st s)) (hg : w.grownBy w1 none) => show ∃ left, RR w G j s left (stc j.st s) G w1 from by
    have hall : ∀ p ∈ j.st, p.2.st = (s : Int) → (wgV (G.gs s) p.1).isSome = true := fun p hp e => by
      have h1 := h.ja.sa.msg s hs p.1
      rw [hasS_of h.good.wf.ks (m := p.2) hp e] at h1
      rw [wgV_at]
      cases hg : G.gs s p.1 with
      | none => rw [hg] at h1; cases h1
      | some y => rfl
    have hp : Part (fun _ => False) w w1 := Part.of_grown hg fun i hi => by cases hi
    refine ⟨fun x => (wgV (G.gs s) x).isSome, ?_, ⟨rfl, rfl, rfl, rfl, rfl, hp.mono fun _ hc => hc.elim, fun i hi => .inl hi, fun i hi => .inl hi⟩, rfl, rfl, rfl, ?_⟩
    · rw [st_start hall]
      exact h.ja.apart hp (fun _ _ hc => hc) (fun _ _ hc => hc)
    · rw [st_start hall]
      exact hr
  clear h hs hn64 e
  obtain ⟨b, k, sb, N, v, pb, pc, far, wm, gs, rs, O, F⟩ := G
  dsimp only at *
  go_enter Try.func12, Try.ntmps12
  go_wp2_with (first
    | (go_at_call 24; refine KF.out.mono ?_; rintro e w' ⟨rfl, rfl⟩)
    | (at_range; refine wpl_range _ rfl _ 64 rfl Try.underlying27 Try.underlying64 rfl HM ?_; intro w1 hr1 hg1 hs1))
  go_frame
  obtain ⟨left0, HD1⟩ := HD0.out w1 hr1 hg1
  replace HD1 := keep HD1
  clear hr1 hg1 t0 HM
  go_loopw [] (fun wr => ∃ (left : Int → Bool) (cnt : Nat) (Gt : Gh), Hid (RR w ⟨b, k, sb, N, v, pb, pc, far, wm, gs, rs, O, F⟩ j s left cnt Gt wr)) (fun wr => wr.rangeLeft (wm s) w.heap.size)
  case atStart => exact ⟨_, _, _, HD1⟩
  case round =>
    obtain ⟨left, cnt, Gt, HR⟩ := hrel
    have hrg := HR.out.rg
    dsimp only at hrg
    go_wp2_with (at_next; refine wpl_next _ rfl _ rfl Try.underlying27 rfl hrg ?_ ?_)
    · intro _ hl0
      have e9 := st_done (j := j) (s := (s : Int)) hl0
      have J9 := HR.out.ja
      rw [e9] at J9
      have hsg : s < Gt.n := by rw [show Gt.n = N from HR.out.la.n]; exact HS.out
      have esb : Gt.sb = sb := HR.out.la.sb
      have sf := J9.sfz (s * 2 + 1)
      have s1 := J9.s1 hsg
      have J10 := J9.setNx hsg 0
      rw [esb] at sf s1 J10
      replace J10 := keep J10
      clear hrg e9 J9 hl0
      go_wp2
      go_end0
      refine ⟨rfl, Gt, ⟨by rw [HE.out]; exact J10.out.1, HGR.out, by rw [HE.out]; show Ends j.ch Gt.far; rw [HR.out.fr]; exact HH.out.ends⟩, ?_⟩
      have hl := HR.out.la
      refine ⟨hl.b, hl.k, hl.sb, hl.n, hl.wm, hl.part.trans J10.out.2 fun i hi => .inl ?_, hl.o, hl.f⟩
      have := HR.out.ja.sa.osb
      rw [HR.out.oo, esb] at this
      rw [hi]
      exact this
    · intro x v9 w2 cnt1 hwx hlx hgx hrg2 hlt2 hg2 hs2 hen
      have hx := of_wf16 hwx
      obtain ⟨y, hy, rfl⟩ : ∃ y, Gt.gs s x = some y ∧ v9 = .agg y.cells.toArray := by
        rw [wgV_at] at hgx
        cases hc : Gt.gs s x with
        | none => rw [hc] at hgx; cases hgx
        | some y => rw [hc] at hgx; exact ⟨y, rfl, by injection hgx with h; exact h.symm⟩
      have hp2 : Part (fun i => i = w.heap.size) wr w2 := Part.of_grown hg2 fun i hi => by simpa using hi.symm
      have J2a := HR.out.ja.apart hp2 (fun i hi hc => by rw [HR.out.oo] at hi; have := HO.out i hi; omega) (fun i hi hc => by rw [HR.out.ff] at hi; have := HF.out i hi; omega)
      have hl := HR.out.la
      have hla := below_lay w2 (.cells y.cells.toArray 44)
      have J2 := J2a.step hla
      have L2 := keep (show Later w ⟨b, k, sb, N, v, pb, pc, far, wm, gs, rs, O, F⟩ (w2.alloc (.cells y.cells.toArray 44)) Gt from (show Later w ⟨b, k, sb, N, v, pb, pc, far, wm, gs, rs, O, F⟩ w2 Gt from ⟨hl.b, hl.k, hl.sb, hl.n, hl.wm, hl.part.trans hp2 fun i hi => .inr (Nat.le_of_eq hi.symm), hl.o, hl.f⟩).trans (Later.below hla))
      have eb : Gt.b = b := hl.b
      have esb : Gt.sb = sb := hl.sb
      have ew : Gt.wm = wm := hl.wm
      have hsg : s < Gt.n := by rw [show Gt.n = N from hl.n]; exact HS.out
      have HY := keep hy
      have HXR := keep (wf16 hx.1 hx.2)
      have HLQ := keep (show cnt1 < wr.rangeLeft (wm s) w.heap.size from by rw [hrg.left_eq]; exact hlt2)
      have HRG := keep (hrg2.kept (grown_alloc w2 (.cells y.cells.toArray 44)) (by simp) (by simp))
      have M2 := (show MB (w2.alloc (.cells y.cells.toArray 44)) w2.heap.size y from heap_alloc_new w2 _)
      have hwm : w2.heap.size ≠ wm s := by
        have := J2a.olt _ (J2a.sa.ow s hsg)
        rw [ew] at this
        omega
      have hsz : w2.heap.size < (w2.alloc (.cells y.cells.toArray 44)).heap.size := by simp
      have t0 := J2.s0 hsg
      rw [esb, ew] at t0
      replace J2 := keep J2
      have EBK := keep (And.intro eb (And.intro esb ew))
      have HSG := keep hsg
      obtain ⟨ys, yu, yp, ⟨y1, y2, y3⟩, yb⟩ := y
      clear hrg hrg2 hl hp2 hx hy eb esb ew hwx hlx hgx hg2 hs2 hla hsg J2a
      dsimp only [MX.cells] at *
      replace M2 := keep M2
      replace hsz := keep hsz
      go_wp2_with (at_delete
                   refine wpl_del_r _ rfl _ _ 64 rfl Try.underlying27 Try.underlying64 rfl HRG.out rfl HXR.out ?_
                   intro w3 cnt3 hrg3 hle3 hg3 hs3
                   have Q3 := HR.out.next HH.out.good.wf.ks HS.out J2.out HY.out (by funext z; cases hz : left z <;> by_cases e : z = x <;> simp [e]) hrg3 hg3
                   have hb3 := Q3.1.c3
                   have fz3 := Q3.1.fz 3
                   have a3 := (show MB w3 w2.heap.size ⟨ys, yu, yp, (y1, y2, y3), yb⟩ from (Q3.2.1.block w2.heap.size hsz.out hwm).trans M2.out).all.1.2.2.2
                   try dsimp only at a3
                   rw [show ({ Gt with gs := fun i z => if i = s ∧ z = x then none else Gt.gs i z } : Gh).b = b from EBK.out.1] at hb3 fz3
                   have HL3 := keep (show cnt3 < wr.rangeLeft (wm s) w.heap.size from Nat.lt_of_le_of_lt hle3 HLQ.out)
                   replace Q3 := keep Q3
                   clear hrg3 hle3 hg3 hs3 t0)
      have hos : IntKind.i64.wrap (((stJ j s left).oct : Int) - (y2 : Int)) = ((stJ j s left).oct : Int) - (y2 : Int) := by
        have h1 := Q3.out.2.2.2
        have h3 : ((stJ j s left).oct : Int) ≤ 65536 := by
          have h4 := octS_filter j.st fun p => !decide (p.2.st = (s : Int)) || left p.1
          have h5 := HH.out.good.le
          unfold Jn.oct at h5
          show ((octC j.ch + octS (j.st.filter fun p => !decide (p.2.st = (s : Int)) || left p.1) + octM j.rd : Nat) : Int) ≤ 65536
          omega
        exact wrap_small (by omega) (by omega)
      have HOS := keep Q3.out.2.2.2
      generalize ((stJ j s left).oct : Int) = oc at *
      refine wp_region_still_tail 10 (by kernel_rfl) (by kernel_rfl) ?_
      simp only [List.take_succ_cons, List.take_zero, List.drop_succ_cons, List.drop_zero]
      repeat still_step
      refine wpStill_nil ?_
      go_wp2
      go_roundw
      case rel =>
        have hb9 : b < w.heap.size := HO.out b (by have := HR.out.ja.ob; rw [HR.out.oo, EBK.out.1] at this; exact this)
        have J4 := Q3.out.1.setO (oc - (y2 : Int))
        have J5 := J4.1.step (Below.refl _ _).drew
        rw [show ({ Gt with gs := fun i z => if i = s ∧ z = x then none else Gt.gs i z } : Gh).b = b from EBK.out.1] at J4
        have P4 : Part (fun i => i = b) w3 (w3.setCell ⟨b, 3, none⟩ (.int .i64 (oc - (y2 : Int)))).drew := J4.2.drew
        refine ⟨fun z => left z && !decide (z = x) && !decide (z = x), cnt3, { Gt with gs := fun i z => if i = s ∧ z = x then none else Gt.gs i z }, keep ⟨?_, ?_, HR.out.oo, HR.out.ff, HR.out.fr, ?_⟩⟩
        · rw [HOS.out, ← EBK.out.1]
          exact J5
        · have hl := L2.out
          refine ⟨hl.b, hl.k, hl.sb, hl.n, hl.wm, (hl.part.trans Q3.out.2.1 fun i hi => .inl ?_).trans P4 fun i hi => .inl ?_, hl.o, hl.f⟩
          · have := HR.out.ja.sa.ow s HSG.out
            rw [HR.out.oo, EBK.out.2.2] at this
            rw [hi]
            exact this
          · have := HR.out.ja.ob
            rw [HR.out.oo, EBK.out.1] at this
            rw [hi]
            exact this
        · have h9 := Q3.out.2.2.1.kept (grown_of_part P4) (fun e => by
            have h1 := HR.out.ja.only_b.wm s HSG.out
            rw [EBK.out.1, EBK.out.2.2] at h1
            injection e with e
            exact h1 e) (fun e => by
            injection e with e
            exact absurd e (Nat.ne_of_gt hb9))
          have e : ((fun i z => if i = s ∧ z = x then none else Gt.gs i z : Nat → Int → Option MX) s) = fun z => if z = x then none else Gt.gs s z := by funext z; simp
          show RngV _ _ _ _ _ _ (wgV ((fun i z => if i = s ∧ z = x then none else Gt.gs i z : Nat → Int → Option MX) s)) _ _
          rw [e]
          exact h9
      case measure =>
        have hb9 : b < w.heap.size := HO.out b (by have := HR.out.ja.ob; rw [HR.out.oo, EBK.out.1] at this; exact this)
        have J4 := Q3.out.1.setO (oc - (y2 : Int))
        rw [show ({ Gt with gs := fun i z => if i = s ∧ z = x then none else Gt.gs i z } : Gh).b = b from EBK.out.1] at J4
        have P4 : Part (fun i => i = b) w3 (w3.setCell ⟨b, 3, none⟩ (.int .i64 (oc - (y2 : Int)))).drew := J4.2.drew
        have hr := Q3.out.2.2.1.kept (grown_of_part P4) (fun e => by
          have h1 := HR.out.ja.only_b.wm s HSG.out
          rw [EBK.out.1, EBK.out.2.2] at h1
          injection e with e
          exact h1 e) (fun e => by
          injection e with e
          exact absurd e (Nat.ne_of_gt hb9))
        have h2 := hr.left_eq
        rw [h2]
        exact HL3.out
theorem Reset_any {w : World} {G : Gh} {j : Jn} (h : JG w G j) {x : Int} (x0 : 0 ≤ x) (x1 : x < 65536) :
    Calls Try.prog 12 #[.pointer (some ⟨G.b, 0, none⟩), .int .u16 x] w fun e w' => e = .returned (.tuple #[]) ∧ ∃ G', JG w' G' (resetJ j x) ∧ Later w G w' G' := by
  by_cases hs : x < G.n
  · obtain ⟨s, rfl⟩ : ∃ s : Nat, x = s := ⟨x.toNat, by omega⟩
    exact Reset_yes h (by omega)
  · exact Reset_no h x0 x1 hs
end Go.Proofs.Ythpcblbciidmeaa
