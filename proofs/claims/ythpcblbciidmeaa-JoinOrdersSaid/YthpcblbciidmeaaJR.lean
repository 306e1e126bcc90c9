/- A chunk is added: it is held, and its message comes if it is whole. -/
import Derived.Test.YthpcblbciidmeaaJQ
namespace Go.Proofs.Ythpcblbciidmeaa
open Go.RowKit Go.Maps
set_option linter.unusedVariables false

theorem octC_mem : ∀ {l : List Ch} {y : Ch}, y ∈ l → y.da.length ≤ octC l
  | z :: l, y, h => by
    unfold octC
    simp only [List.map_cons, List.sum_cons]
    rcases List.mem_cons.1 h with rfl | h
    · omega
    · have := octC_mem h
      unfold octC at this
      omega
theorem Later.new {w w' : World} {G G' : Gh} (h : Later w G w' G') {g : Nat} (hg : g < w.heap.size) (hn : ¬ G.O g) : w'.heap[g]? = w.heap[g]? := h.part.block g hg hn
theorem Later.notO {w w' : World} {G G' : Gh} (h : Later w G w' G') {g : Nat} (hg : g < w.heap.size) (hn : ¬ G.O g) : ¬ G'.O g := fun hc => by
  rcases h.o g hc with h1 | h1
  · exact hn h1
  · omega
set_option maxRecDepth 1000000 in
set_option maxHeartbeats 4000000 in
theorem Add_part {w : World} {G : Gh} {j : Jn} (h : JA w G j (j.oct : Int)) (hg : Good j) (hE : Ends j.ch G.far) {x : CX} (hx : CV w x) (he : addE j x.c0 = 0) {s : List Ch} (hs : Mx (x.c0 :: j.ch) s) (hc : x.c0 ∈ s) {a z : Ch} (ha : s[0]? = some a) (hz : s.getLast? = some z) (hno : ¬ (a.fl / 2 % 2 = 1 ∧ z.fl % 2 = 1)) :
    Calls Try.prog 10 #[.pointer (some ⟨G.b, 0, none⟩), .agg x.cells.toArray] w (AddP w G j x) := by
  have hf : FitsC x.c0 := ⟨hx.a.1, hx.a.2, hx.si.1, hx.si.2⟩
  have hwf := put_wf hg.wf hf he
  have L0 := keep (below_lay w (.cells x.cells.toArray 34))
  have HB0 := keep (show KB (w.alloc (.cells x.cells.toArray 34)) w.heap.size x from heap_alloc_new w _)
  have KR := keep (refusal_any (h.step (below_lay w (.cells x.cells.toArray 34))) hg (hx.step (below_lay w (.cells x.cells.toArray 34))))
  have hr : addE j x.ch = 0 := he
  rw [hr] at KR
  have KH := keep fun W (hb : Below w.heap.size w W) => hold_any (h.step hb) hg (hx.step hb) he hE hs hc ha hz
  have haM := hs.mem a (List.mem_of_getElem? ha)
  have hzM := hs.mem z (List.mem_of_getLast? hz)
  have KW := keep fun W G' o (hj : JA W G' { j with ch := x.c0 :: j.ch } o) => whole_not hj haM hzM (hwf.nc a haM) (hwf.nc z hzM) hno
  have HF := keep (show AddR j x.c0 0 { j with ch := x.c0 :: j.ch } from ⟨he.symm, fun h0 => absurd rfl h0, fun _ => .part ((run_or hwf.kc hwf.nc hs hc (fun y hy => (hwf.ok y hy).1) ha hz).2 hno)⟩)
  have HO := keep (show (({ j with ch := x.c0 :: j.ch } : Jn).oct : Int) = (j.oct : Int) + x.bs.length from by
    rw [put_oct]
    show ((j.oct + x.bs.length : Nat) : Int) = _
    omega)
  clear hr he hf hwf hs hc ha hz haM hzM hno hx hg hE h
  obtain ⟨b, kk, sb, n, v, pb, pc, far, wm, gs, rs, O, F⟩ := G
  obtain ⟨xk, xf, xa, xb, xo, xs, xp, ⟨x1, x2, x3⟩, ⟨x4, x5, x6⟩, ⟨x7, x8, x9⟩, ⟨x10, x11, x12⟩, ⟨x13, x14, x15⟩, xps, xbs⟩ := x
  dsimp only [CX.cells, MX.zero, MX.cells] at *
  go_enter Try.func10, Try.ntmps10
  go_wp2_with (first
    | (go_at_call 19; refine KR.out.mono ?_; rintro e w2 ⟨rfl, hb2⟩
       have q2 := (show KB w2 w.heap.size ⟨xk, xf, xa, xb, xo, xs, xp, (x1, x2, x3), (x4, x5, x6), (x7, x8, x9), (x10, x11, x12), (x13, x14, x15), xps, xbs⟩ from (hb2.block w.heap.size (by simp)).trans HB0.out).at_
       try dsimp only [At12, Nat.zero_add] at q2
       obtain ⟨d0, d1, d2, d3, d4, d5, d6, d7, d8, d9, d10, d11⟩ := q2
       replace hb2 := keep hb2)
    | (go_at_call 20; refine (KH.out _ (up L0.out hb2.out)).mono ?_; rintro e w3 ⟨rfl, G3, hj3, hE3, hl3⟩
       have eb3 : G3.b = b := hl3.b
       have KW3 := KW.out w3 G3 _ hj3
       rw [eb3] at KW3
       replace KW3 := keep KW3
       clear d0 d1 d2 d3 d4 d5 d6 d7 d8 d9 d10 d11
       replace hj3 := keep hj3; replace hE3 := keep hE3; replace hl3 := keep hl3; clear eb3)
    | (go_at_call 21; refine KW3.out.mono ?_; rintro e w4 ⟨rfl, hb4⟩; replace hb4 := keep hb4))
  go_ret
  refine ⟨0, _, G3, rfl, HF.out, ?_, hE3.out, ((Later.below (up L0.out hb2.out)).trans hl3.out).trans ?_⟩
  · rw [HO.out]
    exact hj3.out.step (up hb4.out (below_lay w4 _))
  · exact Later.below (up hb4.out (below_lay w4 _))
set_option maxRecDepth 1000000 in
set_option maxHeartbeats 4000000 in
theorem Add_all {w : World} {G : Gh} {j : Jn} (h : JA w G j (j.oct : Int)) (hg : Good j) (hE : Ends j.ch G.far) {x : CX} (hx : CV w x) (he : addE j x.c0 = 0) {s : List Ch} (hs : Mx (x.c0 :: j.ch) s) (hc : x.c0 ∈ s) {a z : Ch} (ha : s[0]? = some a) (hz : s.getLast? = some z) (hb : a.fl / 2 % 2 = 1) (hd : z.fl % 2 = 1) :
    Calls Try.prog 10 #[.pointer (some ⟨G.b, 0, none⟩), .agg x.cells.toArray] w (AddP w G j x) := by
  have hf : FitsC x.c0 := ⟨hx.a.1, hx.a.2, hx.si.1, hx.si.2⟩
  have hwf := put_wf hg.wf hf he
  have L0 := keep (below_lay w (.cells x.cells.toArray 34))
  have HB0 := keep (show KB (w.alloc (.cells x.cells.toArray 34)) w.heap.size x from heap_alloc_new w _)
  have KR := keep (refusal_any (h.step (below_lay w (.cells x.cells.toArray 34))) hg (hx.step (below_lay w (.cells x.cells.toArray 34))))
  have hr : addE j x.ch = 0 := he
  rw [hr] at KR
  have KH := keep fun W (hb : Below w.heap.size w W) => hold_any (h.step hb) hg (hx.step hb) he hE hs hc ha hz
  have hrun := (run_or hwf.kc hwf.nc hs hc (fun y hy => (hwf.ok y hy).1) ha hz).1 hb hd
  have hroom := (addE_ok he).2.2.2.2
  have hsi : siOf s = x.si ∧ (msgOf s).st = x.ou := by
    obtain ⟨u, r, hur, _, h1, h2⟩ := run_head hrun
    obtain ⟨i, hi⟩ := List.mem_iff_getElem?.1 hc
    have h3 := chain_same i s u x.c0 hs.ch (by rw [hur]; rfl) hi
    exact ⟨h2.trans h3.1.symm, h1.trans h3.2.symm⟩
  have hda := msgOf_ne hrun fun y hy => (hwf.ok y hy).2.1
  have hoc : octC (without s (x.c0 :: j.ch)) + (msgOf s).da.length = octC (x.c0 :: j.ch) := run_oct hrun hwf.kc hwf.nc
  have hput : octC (x.c0 :: j.ch) = octC j.ch + x.bs.length := by
    have := put_oct (j := j) (c := x.c0)
    have e : x.c0.da.length = x.bs.length := rfl
    rw [e] at this
    unfold Jn.oct at this
    have t2 : octC (x.c0 :: j.ch) + octS j.st + octM j.rd = octC j.ch + octS j.st + octM j.rd + x.bs.length := this
    omega
  have hroom' : j.oct + x.bs.length ≤ 65536 := hroom
  have hwl : Good { j with ch := without s (x.c0 :: j.ch) } := ⟨hwf.less _, ⟨hg.ne.s, hg.ne.r⟩, by
    show octC (without s (x.c0 :: j.ch)) + octS j.st + octM j.rd ≤ 65536
    unfold Jn.oct at hroom'
    omega⟩
  have hjo : (j.oct : Int) + x.bs.length = ((({ j with ch := without s (x.c0 :: j.ch) } : Jn).oct : Nat) : Int) + (msgOf s).da.length := by
    show _ = ((octC (without s (x.c0 :: j.ch)) + octS j.st + octM j.rd : Nat) : Int) + _
    unfold Jn.oct
    omega
  have hfew : (x.c0 :: j.ch).length ≤ 65536 := by
    have h1 := few_ch (x.c0 :: j.ch) fun y hy => (hwf.ok y hy).2.1
    unfold Jn.oct at hroom'
    omega
  have hoct : ∀ y ∈ x.c0 :: j.ch, y.da.length ≤ 65536 := fun y hy => by
    have h1 := octC_mem hy
    unfold Jn.oct at hroom'
    omega
  have KW := keep fun W G' o (hj : JA W G' { j with ch := x.c0 :: j.ch } o) => whole_yes hj hwf.kc hwf.nc hfew hoct hrun hda ha hz
  have KP := keep fun W G' (y : MX) (hj : JA W G' { j with ch := without s (x.c0 :: j.ch) } ((j.oct : Int) + x.bs.length)) (hy : MV W y ∧ InF G'.F y.da.1) (hm : y.msg = msgOf s) => place_any (x := y) (k := x.si) (by
      have h5 : y.bs = (msgOf s).da := congrArg Msg.da hm
      rw [h5, ← hjo]
      exact hj) hwl hy (by
      have h5 : y.st = (msgOf s).st := congrArg Msg.st hm
      rw [h5, hsi.2]
      exact ⟨hx.ou.1, (addE_ok he).2.2.1.2⟩) hx.si.1 hx.si.2 (by
      have h5 : y.bs = (msgOf s).da := congrArg Msg.da hm
      rw [h5]
      exact hda) (by
      have h5 : y.bs = (msgOf s).da := congrArg Msg.da hm
      rw [h5]
      have h6 : (({ j with ch := without s (x.c0 :: j.ch) } : Jn).oct : Int) + (msgOf s).da.length ≤ 65536 := by rw [← hjo]; omega
      omega)
  have HF := keep (show AddR j x.c0 0 (comes { j with ch := without s (x.c0 :: j.ch) } (msgOf s) x.si) from ⟨he.symm, fun h0 => absurd rfl h0, fun _ => by
    have := Came.all s hrun hc
    rw [hsi.1] at this
    exact this⟩)
  have HE9 := keep fun far (hE : Ends (x.c0 :: j.ch) far) => show Ends (comes { j with ch := without s (x.c0 :: j.ch) } (msgOf s) x.si).ch far from by
    rw [(comes_wf hwl.wf (by rw [hsi.2]; exact ⟨hx.ou.1, (addE_ok he).2.2.1.2⟩) ⟨hx.si.1, hx.si.2⟩).2.2.2]
    exact ends_take hwf.kc hwf.nc hE hs
  have HWO := keep (show ∀ i, G.O i → i < w.heap.size from h.olt)
  clear hr he hf hwf hs hc ha hz hx hg hE h hb hd hrun hroom hsi hda hoc hput hroom' hwl hjo hfew hoct
  obtain ⟨b, kk, sb, n, v, pb, pc, far, wm, gs, rs, O, F⟩ := G
  obtain ⟨xk, xf, xa, xb, xo, xs, xp, ⟨x1, x2, x3⟩, ⟨x4, x5, x6⟩, ⟨x7, x8, x9⟩, ⟨x10, x11, x12⟩, ⟨x13, x14, x15⟩, xps, xbs⟩ := x
  dsimp only [CX.cells, MX.zero, MX.cells] at *
  go_enter Try.func10, Try.ntmps10
  go_wp2_with (first
    | (go_at_call 19; refine KR.out.mono ?_; rintro e w2 ⟨rfl, hb2⟩
       have q2 := (show KB w2 w.heap.size ⟨xk, xf, xa, xb, xo, xs, xp, (x1, x2, x3), (x4, x5, x6), (x7, x8, x9), (x10, x11, x12), (x13, x14, x15), xps, xbs⟩ from (hb2.block w.heap.size (by simp)).trans HB0.out).at_
       try dsimp only [At12, Nat.zero_add] at q2
       obtain ⟨d0, d1, d2, d3, d4, d5, d6, d7, d8, d9, d10, d11⟩ := q2
       have kb2 := keep (show KB w2 w.heap.size ⟨xk, xf, xa, xb, xo, xs, xp, (x1, x2, x3), (x4, x5, x6), (x7, x8, x9), (x10, x11, x12), (x13, x14, x15), xps, xbs⟩ from (hb2.block w.heap.size (by simp)).trans HB0.out)
       replace hb2 := keep hb2)
    | (go_at_call 20; refine (KH.out _ (up L0.out hb2.out)).mono ?_; rintro e w3 ⟨rfl, G3, hj3, hE3, hl3⟩
       have eb3 : G3.b = b := hl3.b
       have KW3 := KW.out w3 G3 _ hj3
       rw [eb3] at KW3
       replace KW3 := keep KW3
       clear d0 d1 d2 d3 d4 d5 d6 d7 d8 d9 d10 d11
       replace hj3 := keep hj3; replace hE3 := keep hE3; replace hl3 := keep hl3; clear eb3)
    | (go_at_call 21; refine KW3.out.mono ?_
       rintro e w4 ⟨⟨ys, yu, yp, ⟨y1, y2, y3⟩, yb⟩, he4, hm4, G4, hj4, hl4, hf4, hmv4, hin4⟩
       obtain rfl : e = .returned (.tuple #[.agg #[.int .u16 ys, .bool yu, .int .u32 yp, .slice y1 y2 y3], .bool true]) := he4
       have eb4 : G4.b = b := hl4.b.trans hl3.out.b
       have hn0 : ¬ O w.heap.size := fun hc => Nat.lt_irrefl _ (HWO.out _ hc)
       have hs2 : w.heap.size < w2.heap.size := kb2.out.lt
       have kb3 : KB w3 w.heap.size ⟨xk, xf, xa, xb, xo, xs, xp, (x1, x2, x3), (x4, x5, x6), (x7, x8, x9), (x10, x11, x12), (x13, x14, x15), xps, xbs⟩ := (hl3.out.new hs2 hn0).trans kb2.out
       have q4 := (show KB w4 w.heap.size ⟨xk, xf, xa, xb, xo, xs, xp, (x1, x2, x3), (x4, x5, x6), (x7, x8, x9), (x10, x11, x12), (x13, x14, x15), xps, xbs⟩ from (hl4.new kb3.lt (hl3.out.notO hs2 hn0)).trans kb3).at_.2.2.2.2.2.1
       dsimp only at q4
       have hs4 : w.heap.size < w4.heap.size := Nat.lt_of_lt_of_le kb3.lt hl4.part.size
       have KP4 := KP.out (w4.alloc (.cells #[.int .u16 ys, .bool yu, .int .u32 yp, .slice y1 y2 y3] 44)) G4 ⟨ys, yu, yp, (y1, y2, y3), yb⟩ (hj4.step (below_lay w4 _)) ⟨hmv4.step (below_lay w4 _), hin4⟩ hm4
       rw [eb4] at KP4
       replace KP4 := keep KP4
       replace hj4 := keep hj4; replace hl4 := keep hl4; replace hf4 := keep hf4
       have HMS := keep hm4
       clear hm4 hmv4 hin4 eb4 hn0 hs2 kb3)
    | (go_at_call 22; refine KP4.out.mono ?_; rintro e w5 ⟨rfl, G5, hj5, hl5, hf5⟩; replace hj5 := keep hj5; replace hl5 := keep hl5; replace hf5 := keep hf5))
  go_ret
  refine ⟨0, _, G5, rfl, HF.out, ?_, HE9.out _ ?_, ((((Later.below (up L0.out hb2.out)).trans hl3.out).trans hl4.out).trans (Later.below (below_lay w4 _))).trans hl5.out⟩
  · have e : (⟨ys, yu, yp, (y1, y2, y3), yb⟩ : MX).msg = msgOf s := HMS.out
    have h9 := hj5.out
    rw [e] at h9
    exact h9
  · rw [hf5.out, hf4.out]
    exact hE3.out
theorem Add_any {w : World} {G : Gh} {j : Jn} (h : JA w G j (j.oct : Int)) (hg : Good j) (hE : Ends j.ch G.far) {x : CX} (hx : CV w x) :
    Calls Try.prog 10 #[.pointer (some ⟨G.b, 0, none⟩), .agg x.cells.toArray] w (AddP w G j x) := by
  by_cases he : addE j x.ch = 0
  · have he' : addE j x.c0 = 0 := he
    have hwf := put_wf hg.wf (c := x.c0) ⟨hx.a.1, hx.a.2, hx.si.1, hx.si.2⟩ he'
    have hl : (x.c0 :: j.ch).length < 4294967296 := by
      have h1 := hg.ch
      simp only [List.length_cons]
      omega
    obtain ⟨s, hs, hc⟩ := mx_ex hwf.kc hwf.nc hl (x := x.c0) List.mem_cons_self
    obtain ⟨a, z, ha, hz, _, _⟩ := hs.ends
    by_cases hd : a.fl / 2 % 2 = 1 ∧ z.fl % 2 = 1
    · exact Add_all h hg hE hx he' hs hc ha hz hd.1 hd.2
    · exact Add_part h hg hE hx he' hs hc ha hz hd
  · exact Add_err h hg hE hx he
/-- What stays with a join that is Good. -/
structure JG (w : World) (G : Gh) (j : Jn) : Prop where
  ja : JA w G j (j.oct : Int)
  good : Good j
  ends : Ends j.ch G.far
theorem AddP.good {w w' : World} {G : Gh} {j : Jn} {x : CX} {e : Ending} (hx : CV w x) (hg : Good j) (h : AddP w G j x e w') : ∃ (r : Int) (j' : Jn) (G' : Gh), e = .returned (.int .i64 r) ∧ AddR j x.c0 r j' ∧ JG w' G' j' ∧ Later w G w' G' := by
  obtain ⟨r, j', G', h1, h2, h3, h4, h5⟩ := h
  have hw := add_wf hg.wf (c := x.c0) ⟨hx.a.1, hx.a.2, hx.si.1, hx.si.2⟩ h2
  exact ⟨r, j', G', h1, h2, ⟨h3, ⟨hw.1, hg.ne.add hg.wf h2, hw.2.2.1 hg.le⟩, h4⟩, h5⟩
end Go.Proofs.Ythpcblbciidmeaa
