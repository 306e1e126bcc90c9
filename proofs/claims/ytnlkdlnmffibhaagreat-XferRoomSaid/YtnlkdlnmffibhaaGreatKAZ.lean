/- KAZ of the stage: texts JM, JQ, JR, JS, JT, JU, JV, JW, joined. -/
import Derived.Test.YtnlkdlnmffibhaaGreatKAY
import Derived.Test.YtnlkdlnmffibhaaGreatKAU
import Derived.Maps.RangeWalk
set_option linter.unusedSimpArgs false
set_option linter.unusedVariables false
set_option maxRecDepth 8000
namespace Go.Proofs.YtnlkdlnmffibhaaGreat
section
open Go.RowKit Go.Maps
theorem JA.piece {w : World} {G : Gh} {j : Jn} {o : Int} (h : JA w G j o) {x : Ch} (hx : x ∈ j.ch) : ∃ p, G.pb x.a = some p ∧ w.cell? ⟨p, 1, none⟩ = some (.int .u8 x.fl) ∧ 0 ≤ x.fl ∧ x.fl < 256 ∧ p < w.heap.size := by
  obtain ⟨p, hp, hc⟩ := h.pa.has x hx
  obtain ⟨_, hP, _⟩ := h.pa.op _ _ hp
  have := hP.at_.1.2.1
  rw [show (G.pc x.a).fl = x.fl from congrArg Ch.fl hc] at this
  have hq := hP.cv.fl
  rw [show (G.pc x.a).fl = x.fl from congrArg Ch.fl hc] at hq
  exact ⟨p, hp, this, hq.1, hq.2, (Array.getElem?_eq_some_iff.1 hP.blk).1⟩
set_option maxRecDepth 1000000 in
set_option maxHeartbeats 4000000 in
theorem whole_not {w : World} {G : Gh} {j : Jn} {o : Int} (h : JA w G j o) {a z : Ch} (ha : a ∈ j.ch) (hz : z ∈ j.ch) (haR : 0 ≤ a.a ∧ a.a < 4294967296) (hzR : 0 ≤ z.a ∧ z.a < 4294967296) (hno : ¬ (a.fl / 2 % 2 = 1 ∧ z.fl % 2 = 1)) :
    Calls Tryz.prog 116 #[.pointer (some ⟨G.b, 0, none⟩), .int .u32 a.a, .int .u32 z.a] w fun e w' => e = .returned (.tuple #[.agg MX.zero.cells.toArray, .bool false]) ∧ Below w.heap.size w w' := by
  have L0 := below_lay w (.cells MX.zero.cells.toArray 33)
  have J0 := h.step L0
  obtain ⟨p, hp, fp, f0, f1, hpl⟩ := J0.piece ha
  obtain ⟨q, hq, fq, g0, g1, hql⟩ := J0.piece hz
  have HR := rel_map J0 _ rfl rfl
  have c0 := HR.1
  have LA := HR.2 a.a haR.1 haR.2
  have LZ := HR.2 z.a hzR.1 hzR.2
  rw [pgV_some hp] at LA
  rw [pgV_some hq] at LZ
  dsimp only [Option.getD] at LA LZ
  have ea := (and_flag ⟨f0, f1⟩).2.1
  have ez := (and_flag ⟨g0, g1⟩).1
  have R0 := keep (show MB (w.alloc (.cells MX.zero.cells.toArray 33)) w.heap.size MX.zero from heap_alloc_new w _)
  obtain ⟨⟨r0, r1, r2, r3⟩, rf0, rf1, rf2, rf3⟩ := R0.out.all
  have HL := keep L0
  obtain ⟨fa, hfa⟩ : ∃ f, a.fl = f := ⟨_, rfl⟩
  obtain ⟨fz, hfz⟩ : ∃ f, z.fl = f := ⟨_, rfl⟩
  rw [hfa] at fp ea hno
  rw [hfz] at fq ez hno
  generalize a.a = na at *
  generalize z.a = nz at *
  clear h J0 HR ha hz haR hzR hp hq f0 f1 g0 g1 hfa hfz L0
  obtain ⟨b, k, sb, N, v, pb, pc, far, wm, gs, rs, O, F⟩ := G
  dsimp only [MX.zero, MX.cells] at *
  by_cases hb : fa / 2 % 2 = 1
  · have he : ¬ fz % 2 = 1 := fun he => hno ⟨hb, he⟩
    rw [if_pos hb] at ea
    rw [if_neg he] at ez
    clear hb he hno
    go_enter Tryz.func116, Tryz.ntmps116
    go_wp2_with fail
    exact bodyPost_ret (ret_msg_ok rfl _ _ w.heap.size MX.zero rfl R0.out) rfl ⟨rfl, HL.out⟩
  · rw [if_neg hb] at ea
    clear hb hno
    go_enter Tryz.func116, Tryz.ntmps116
    go_wp2_with fail
    exact bodyPost_ret (ret_msg_ok rfl _ _ w.heap.size MX.zero rfl R0.out) rfl ⟨rfl, HL.out⟩
def WholeP (w : World) (G : Gh) (j : Jn) (o : Int) (s : List Ch) (e : Ending) (w' : World) : Prop :=
  ∃ x : MX, e = .returned (.tuple #[.agg x.cells.toArray, .bool true]) ∧ x.msg = msgOf s ∧ ∃ G', JA w' G' { j with ch := without s j.ch } o ∧ Later w G w' G' ∧ G'.far = G.far ∧ MV w' x ∧ InF_jo G'.F x.da.1
set_option maxRecDepth 1000000 in
set_option maxHeartbeats 4000000 in
theorem whole_yes {w : World} {G : Gh} {j : Jn} {o : Int} (h : JA w G j o) (hk : KeysC j.ch) (hn : NumC j.ch) (hfew : j.ch.length ≤ 65536) (hoct : ∀ x ∈ j.ch, x.da.length ≤ 65536) {s : List Ch} (hs : Run j.ch s) (hne : (msgOf s).da ≠ []) {a z : Ch} (ha : s[0]? = some a) (hz : s.getLast? = some z) :
    Calls Tryz.prog 116 #[.pointer (some ⟨G.b, 0, none⟩), .int .u32 a.a, .int .u32 z.a] w (WholeP w G j o s) := by
  have hmx := hs.mx
  obtain ⟨hdist, hlen1, hlenl, hnum⟩ := hmx.dist hk hn (by omega) ha hz
  have ham := hs.mem a (List.mem_of_getElem? ha)
  have hzm := hs.mem z (List.mem_of_getLast? hz)
  have haR := hn a ham
  have hzR := hn z hzm
  have hab : a.fl / 2 % 2 = 1 := by
    obtain ⟨u, hu, hb, _⟩ := whole_first hs.wh
    rw [ha] at hu
    injection hu with hu
    rw [hu]; exact hb
  have hze : z.fl % 2 = 1 := by
    obtain ⟨u, hu, he⟩ := whole_last hs.wh
    rw [hz] at hu
    injection hu with hu
    rw [hu]; exact he
  have L0 := below_lay w (.cells MX.zero.cells.toArray 33)
  have J0 := h.step L0
  obtain ⟨p, hp, fp, f0, f1, hpl⟩ := J0.piece ham
  obtain ⟨q, hq, fq, g0, g1, hql⟩ := J0.piece hzm
  have HR := rel_map J0 _ rfl rfl
  have c0 := HR.1
  have LA := HR.2 a.a haR.1 haR.2
  have LZ := HR.2 z.a hzR.1 hzR.2
  rw [pgV_some hp] at LA
  rw [pgV_some hq] at LZ
  dsimp only [Option.getD] at LA LZ
  have ea := (and_flag ⟨f0, f1⟩).2.1
  have ez := (and_flag ⟨g0, g1⟩).1
  rw [if_pos hab] at ea
  rw [if_pos hze] at ez
  have R0 := (show MB (w.alloc (.cells MX.zero.cells.toArray 33)) w.heap.size MX.zero from heap_alloc_new w _)
  have W0 : WR w G j o s 0 none 0 G [] (w.alloc (.cells MX.zero.cells.toArray 33)) := ⟨by rw [List.take_zero, without_zero]; exact J0, Later.below L0, rfl, rfl, rfl, World.ownsRow_nil _ _ _ _, fun _ hx => (by cases hx), rfl, R0⟩
  have HW0 := keep W0
  have HO := keep h.olt
  have HF := keep h.flt
  have HD := keep h.dis
  have HK := keep hk
  have HS := keep hs
  have HNE := keep hne
  have HNum := keep hnum
  have HND := keep (hs.nodup hk hn)
  have HFew := keep hfew
  have HOct := keep hoct
  obtain ⟨N, hN⟩ : ∃ N, s.length = N := ⟨_, rfl⟩
  have HN := keep hN
  obtain ⟨na, hna⟩ : ∃ q, a.a = q := ⟨_, rfl⟩
  obtain ⟨nz, hnz⟩ : ∃ q, z.a = q := ⟨_, rfl⟩
  rw [hna] at hdist haR LA
  rw [hnz] at hdist hzR LZ
  rw [hna, hnz]
  obtain ⟨dd, hdd⟩ : ∃ q, dist32 na nz = q := ⟨_, rfl⟩
  have hcnt : IntKind.u32.wrap (dd + 1) = (N : Int) := by
    rw [wrap_u32, ← hdd]
    unfold dist32 dist
    omega
  have KD := Dist_any na nz
  rw [hdd] at KD
  replace KD := keep KD
  have HNA := keep hna
  have HAR := keep haR
  have HNB := keep (show N ≤ 65536 ∧ 1 ≤ N from by omega)
  obtain ⟨fa, hfa⟩ : ∃ f, a.fl = f := ⟨_, rfl⟩
  obtain ⟨fz, hfz⟩ : ∃ f, z.fl = f := ⟨_, rfl⟩
  rw [hfa] at fp ea
  rw [hfz] at fq ez
  have HHH := keep h
  clear h J0 HR ha hz haR hzR hp hq f0 f1 g0 g1 hfa hfz L0 W0 R0 hdist hlen1 hlenl hnum ham hzm hab hze hmx hk hn hfew hoct hs hne hN hna hnz hdd
  obtain ⟨b, k, sb, NN, v, pb, pc, far, wm, gs, rs, O, F⟩ := G
  dsimp only [MX.zero, MX.cells] at *
  obtain ⟨i0, hi0, hz0, hz1, hz2⟩ := info_parts chunk_info9
  go_enter Tryz.func116, Tryz.ntmps116
  go_wp2_with (go_at_call 10; refine (KD.out _).mono ?_; rintro e w' ⟨rfl, rfl⟩)
  go_loopw [8, 41] (fun lv iv wr => ∃ (t : Nat) (A : Option Addr) (c : Nat) (Gt : Gh) (lst : List CX), lv = .slice A t c ∧ iv = .int .u32 (t : Int) ∧ t ≤ N ∧ Hid (WR w ⟨b, k, sb, NN, v, pb, pc, far, wm, gs, rs, O, F⟩ j o s t A c Gt lst wr)) (fun _ iv _ => N - (intOf iv).toNat)
  case atStart => exact ⟨0, none, 0, _, [], rfl, rfl, Nat.zero_le _, HW0⟩
  case round =>
    clear c0 LA LZ fp fq hpl hql
    obtain ⟨t, A, c, Gt, lst, rfl, rfl, ht, HW⟩ := hrel
    by_cases hlt : t < N
    · obtain ⟨x, hx⟩ : ∃ x, s[t]? = some x := ⟨s[t]'(by rw [HN.out]; exact hlt), List.getElem?_eq_getElem _⟩
      obtain ⟨p, hp, hpc, hat, hpk, hpl⟩ := HW.out.next HK.out HND.out HS.out.mem hx
      have hxa : IntKind.u32.wrap (na + (t : Int)) = x.a := by
        rw [wrap_u32, ← HNA.out]
        exact (HNum.out t x hx).symm
      have hxr : 0 ≤ x.a ∧ x.a < 4294967296 := by rw [← hxa, wrap_u32]; omega
      have hlt' : (t : Int) < (N : Int) := by omega
      have hwt : IntKind.u32.wrap ((t : Int) + 1) = (t : Int) + 1 := by
        have := HNB.out
        rw [wrap_u32]
        omega
      have eb : Hid (Gt.b = b) := HW.out.la.b
      have HR := rel_map HW.out.ja _ rfl rfl
      have c0 := HR.1
      have LX := HR.2 x.a hxr.1 hxr.2
      rw [pgV_some hp] at LX
      rw [eb.out] at c0
      dsimp only [Option.getD] at LX
      obtain ⟨y, hy⟩ : ∃ y, Gt.pc x.a = y := ⟨_, rfl⟩
      obtain ⟨nx, hnx⟩ : ∃ q, x.a = q := ⟨_, rfl⟩
      rw [hy] at hat hpk hpc
      rw [hnx] at hxa LX hxr
      have HT := keep (show t + 1 ≤ N from hlt)
      have HX := keep hx
      have HP := keep hp
      have HPC := keep hpc
      have HPK := keep hpk
      have HY := keep hy
      have HNX := keep hnx
      have HXR := keep hxr
      have HKM := keep (show w.heap.size + 1 ≤ wr.heap.size from HW.out.r.lt)
      clear hx hp hpc hpk hy hnx hxr HR hlt ht
      have hne : b < wr.heap.size := by have := HW.out.ja.olt _ HW.out.ja.ob; rw [eb.out] at this; exact this
      have ek : Hid (Gt.k = k) := HW.out.la.k
      rw [ek.out] at c0 LX
      obtain ⟨yk, yf, ya, yb, yo, ys, yp, ⟨y1, y2, y3⟩, ⟨y4, y5, y6⟩, ⟨y7, y8, y9⟩, ⟨y10, y11, y12⟩, ⟨y13, y14, y15⟩, yps, ybs⟩ := y
      dsimp only [At12, Nat.zero_add, CX.cells] at hat
      obtain ⟨d0, d1, d2, d3, d4, d5, d6, d7, d8, d9, d10, d11⟩ := hat
      go_wp2_with (first
        | (at_builtin
           refine wpl_appendK (by decide) rfl (.tmp 44) (.tmp 56) 34 rfl (w.heap.size + 1) 41 i0 _ Tryz.underlying34 hi0 hz0 hz1 rfl _ t (flatF CX.cells lst) rfl (HW.out.row.alloc _) (some ⟨wr.heap.size, 0, none⟩) 1 1 [.int .u8 yk, .int .u8 yf, .int .u32 ya, .int .u32 yb, .int .u16 yo, .int .u16 ys, .int .u32 yp, .slice y1 y2 y3, .slice y4 y5 y6, .slice y7 y8 y9, .slice y10 y11 y12, .slice y13 y14 y15] rfl rfl (SR.row (heap_alloc_new wr _)) (CX.one ⟨yk, yf, ya, yb, yo, ys, yp, ⟨y1, y2, y3⟩, ⟨y4, y5, y6⟩, ⟨y7, y8, y9⟩, ⟨y10, y11, y12⟩, ⟨y13, y14, y15⟩, yps, ybs⟩) (by have := HNB.out; have := HT.out; unfold maxLen; omega) (by rw [hz2]; have := HNB.out; have := HT.out; omega) (Nat.le_trans HKM.out (below_lay wr _).size) ?_
           intro A3 c3 w3 ho3 hb3 hg3
           have Q3 := HW.out.app HO.out HF.out hg3.out
           have e0 := (rel_map Q3.1 _ rfl rfl).1
           rw [eb.out, ek.out] at e0
           have HM3 := keep (show MapV w3 22 .u32 k _ (pgV Gt.pb) from by rw [← ek.out]; exact Q3.1.pa.map)
           clear c0 d0 d1 d2 d3 d4 d5 d6 d7 d8 d9 d10 d11 LX hpl Q3 hb3
           replace hg3 := keep hg3.out
           replace ho3 := keep ho3.out)
        | (at_delete
           refine wpl_del _ rfl _ _ 123 rfl Tryz.underlying22 Tryz.underlying123 rfl HM3.out rfl (wf32_jo HXR.out.1 HXR.out.2) ?_
           intro w4 hm4 hg4 hs4
           have W4 := keep (HW.out.del HK.out HO.out HF.out HD.out HX.out HP.out (by rw [HY.out]; exact HPC.out) (by rw [HY.out]; exact HPK.out) hg3.out (by rw [HY.out]; exact ho3.out) (by rw [ek.out, HNX.out]; exact hm4) (by rw [ek.out]; exact hg4))
           clear hm4 hg4 hs4))
      go_roundw
      case rel => exact ⟨t + 1, A3, c3, _, _, rfl, by go_num, HT.out, W4⟩
      case measure => (have := HT.out; simp [intOf]; omega)
    · obtain rfl : t = N := by omega
      have hlt' : ¬ (t : Int) < (t : Int) := by omega
      have hst : s.take t = s := List.take_of_length_le (by rw [HN.out]; exact Nat.le_refl _)
      have hmap : lst.map CX.ch = s := by rw [HW.out.is, hst]
      have KW := Whole_any A t c lst wr (CS.of_own HW.out.row fun x hx => (HW.out.vs x hx).cv) (by have := HNB.out; omega) (fun x hx => by
        have h1 : x.ch ∈ s := by rw [← hmap]; exact List.mem_map.2 ⟨x, hx, rfl⟩
        have h2 := HOct.out _ (HS.out.mem _ h1)
        have h3 : x.bs.length ≤ 65536 := h2
        omega)
      rw [hmap, show wholeO s = some (msgOf s) from by unfold wholeO; rw [if_pos HS.out.wh]] at KW
      replace KW := keep KW
      have HST := keep hst
      have hws : w.heap.size < wr.heap.size := HW.out.r.lt
      clear hst hmap hlt ht
      go_wp2_with (go_at_call 138; refine KW.out.mono ?_
                   rintro e w5 ⟨⟨xs, xu, xp, ⟨x1, x2, x3⟩, xb⟩, he, hmv, hmsg, hb5, hnew⟩
                   obtain rfl : e = .returned (.tuple #[.agg #[.int .u16 xs, .bool xu, .int .u32 xp, .slice x1 x2 x3], .bool true]) := he
                   have R5 := (show MB w5 w.heap.size MX.zero from (hb5.block _ hws).trans HW.out.r)
                   obtain ⟨⟨r0, r1, r2, r3⟩, rf0, rf1, rf2, rf3⟩ := R5.all
                   try dsimp only [MX.zero] at r0 r1 r2 r3
                   replace R5 := keep R5
                   have hws5 := Nat.lt_of_lt_of_le hws hb5.size
                   replace hb5 := keep hb5
                   replace hmv := keep hmv
                   replace hmsg := keep hmsg
                   replace hnew := keep hnew)
      have FB : Hid (InF_jo (fun i => wr.heap.size ≤ i ∧ i < w5.heap.size) x1) := keep fun a e => ⟨hnew.out a e, by
        have hxb : xb ≠ [] := by
          have := congrArg Msg.da hmsg.out
          have h2 : xb = (msgOf s).da := this
          rw [h2]
          exact HNE.out
        obtain ⟨g, og, e', hlt, _⟩ := hmv.out.bs.br (fun h0 => by
          have := congrArg List.length h0
          rw [bc_length] at this
          exact hxb (List.eq_nil_of_length_eq_zero this))
        have e : x1 = some a := e
        have e' : x1 = some ⟨g, og, none⟩ := e'
        rw [e] at e'
        injection e' with e'
        rw [e']
        exact hlt⟩
      have PZ : Hid (Part (fun i => i = w.heap.size) w5 ((((w5.setCell ⟨w.heap.size, 0, none⟩ (.int .u16 xs)).setCell ⟨w.heap.size, 1, none⟩ (.bool xu)).setCell ⟨w.heap.size, 2, none⟩ (.int .u32 xp)).setCell ⟨w.heap.size, 3, none⟩ (.slice x1 x2 x3))) :=
        keep (((((Part.refl (fun i => i = w.heap.size) w5).setCell (p := ⟨w.heap.size, 0, none⟩) (.inl rfl) _).setCell (p := ⟨w.heap.size, 1, none⟩) (.inl rfl) _).setCell (p := ⟨w.heap.size, 2, none⟩) (.inl rfl) _).setCell (p := ⟨w.heap.size, 3, none⟩) (.inl rfl) _)
      have J5 := (HW.out.ja.step hb5.out).addF (P := fun i => wr.heap.size ≤ i ∧ i < w5.heap.size) fun i hi => ⟨fun ho => by
        rw [HW.out.oo] at ho
        have := HO.out i ho
        omega, hi.2⟩
      have J6 := J5.apart PZ.out (fun i hi e => by
        have hi : Gt.O i := hi
        rw [HW.out.oo] at hi
        have := HO.out i hi
        omega) (fun i hi e => by
        rcases hi with hi | hi
        · rw [HW.out.ff] at hi
          have := HF.out i hi
          omega
        · have := hi.1
          omega)
      rw [HST.out] at J6
      refine bodyPost_ret (ret_msg_ok rfl _ _ w.heap.size ⟨xs, xu, xp, (x1, x2, x3), xb⟩ rfl (MB.laid R5.out ⟨xs, xu, xp, (x1, x2, x3), xb⟩)) rfl ⟨⟨xs, xu, xp, (x1, x2, x3), xb⟩, rfl, hmsg.out, _, J6, ?_, HW.out.fr, ?_, ?_⟩
      · have hl := HW.out.la
        refine ⟨hl.b, hl.k, hl.sb, hl.n, hl.wm, (hl.part.trans (Part.of_below (fun _ => False) hb5.out) fun i hi => hi.elim).trans PZ.out fun i hi => .inr (by rw [hi]; exact Nat.le_refl _), fun i hi => hl.o i hi, fun i hi => ?_⟩
        rcases hi with hi | hi
        · exact hl.f i hi
        · exact .inr (Nat.le_trans (Nat.le_of_lt hws) hi.1)
      · exact ⟨hmv.out.st, hmv.out.pp, PZ.out.bs (F := fun i => wr.heap.size ≤ i) (fun i hi e => by omega) hmv.out.bs hnew.out⟩
      · exact fun a e => .inr (FB.out a e)
end
section
open Go.RowKit Go.Maps
theorem place_any {w : World} {G : Gh} {j : Jn} {x : MX} (h : JA w G j ((j.oct : Int) + x.bs.length)) (hg : Good j) (hx : MV w x ∧ InF_jo G.F x.da.1) (hs0 : 0 ≤ x.st ∧ x.st < j.n) {k : Int} (hk0 : 0 ≤ k) (hk1 : k < 65536) (hne : x.bs ≠ []) (ho : j.oct + x.bs.length ≤ 65536) :
    Calls Tryz.prog 117 #[.pointer (some ⟨G.b, 0, none⟩), .agg x.cells.toArray, .int .u16 k] w fun e w' => e = .returned (.tuple #[]) ∧ ∃ G', JA w' G' (comes j x.msg k) (((comes j x.msg k).oct : Nat) : Int) ∧ Later w G w' G' ∧ G'.far = G.far := by
  have hn := h.n
  have hn64 : G.n ≤ 64 := by have := hg.wf.n1; omega
  have hs : x.st.toNat < G.n := by omega
  have hst : x.st = (x.st.toNat : Nat) := by omega
  have hda : x.msg.da.length = x.bs.length := rfl
  by_cases hu : x.un = true
  · have e : (((comes j x.msg k).oct : Nat) : Int) = (j.oct : Int) + x.bs.length := by
      unfold comes
      rw [if_pos (show x.msg.un = true from hu)]
      show ((octC j.ch + octS j.st + octM (j.rd ++ [x.msg]) : Nat) : Int) = _
      rw [octM_app, hda]
      unfold Jn.oct
      omega
    rw [e]
    exact place_un h hg hn64 hx hs hst hu hk0 hk1
  · have hu : x.un = false := by simpa using hu
    by_cases hd : lt16 k (j.nx x.st.toNat) = true ∨ (hasS j.st x.st.toNat k).isSome = true
    · have e : comes j x.msg k = j := by
        unfold comes
        rw [if_neg (show ¬ x.msg.un = true by rw [show x.msg.un = false from hu]; decide), show x.msg.st = (x.st.toNat : Int) from hst, if_pos hd]
      rw [e]
      refine (place_drop h hn64 hx.1 hs hst hu hk0 hk1 hd (by omega)).mono ?_
      rintro e' w' ⟨rfl, h1, h2⟩
      exact ⟨rfl, G, by rw [show (j.oct : Int) + x.bs.length - x.bs.length = j.oct by omega] at h1; exact h1, h2, rfl⟩
    · have hl : lt16 k (j.nx x.st.toNat) = false := by
        cases hc : lt16 k (j.nx x.st.toNat)
        · rfl
        · exact absurd (.inl hc) hd
      have hno : hasS j.st x.st.toNat k = none := hasS_isNone fun hc => hd (.inr hc)
      have e : (((comes j x.msg k).oct : Nat) : Int) = (j.oct : Int) + x.bs.length := by
        unfold comes
        rw [if_neg (show ¬ x.msg.un = true by rw [show x.msg.un = false from hu]; decide), show x.msg.st = (x.st.toNat : Int) from hst, if_neg hd]
        have hgp : Good { j with st := (k, x.msg) :: j.st } := hg.push (by rw [show x.msg.st = (x.st.toNat : Int) from hst, h.n]; omega) ⟨hk0, hk1⟩ hu (by rw [show x.msg.st = (x.st.toNat : Int) from hst]; exact hno) hne ho
        rw [(tell_wf hgp.wf _).2.1, push_oct, hda]
        omega
      rw [e]
      exact place_wait h hg hn64 hx hs hst hu hk0 hk1 hl hno hne ho
theorem chain_same : ∀ (i : Nat) (s : List Ch) (x y : Ch), chain s = true → s[0]? = some x → s[i]? = some y → y.si = x.si ∧ y.ou = x.ou
  | 0, s, x, y, _, hx, hy => by
    rw [hx] at hy
    injection hy with hy
    subst hy
    exact ⟨rfl, rfl⟩
  | i + 1, s, x, y, hc, hx, hy => by
    have hi : i < s.length := by have := (List.getElem?_eq_some_iff.1 hy).1; omega
    have h1 := chain_same i s x _ hc hx (List.getElem?_eq_getElem hi)
    have h2 := fol_iff.1 (chain_get s i _ y hc (List.getElem?_eq_getElem hi) hy)
    exact ⟨h2.si.symm.trans h1.1, h2.ou.symm.trans h1.2⟩
def AddP (w : World) (G : Gh) (j : Jn) (x : CX) (e : Ending) (w' : World) : Prop :=
  ∃ (r : Int) (j' : Jn) (G' : Gh), e = .returned (.int .i64 r) ∧ AddR j x.c0 r j' ∧ JA w' G' j' (j'.oct : Int) ∧ Ends j'.ch G'.far ∧ Later w G w' G'
set_option maxRecDepth 1000000 in
set_option maxHeartbeats 4000000 in
theorem Add_err {w : World} {G : Gh} {j : Jn} (h : JA w G j (j.oct : Int)) (hg : Good j) (hE : Ends j.ch G.far) {x : CX} (hx : CV w x) (he : addE j x.ch ≠ 0) :
    Calls Tryz.prog 80 #[.pointer (some ⟨G.b, 0, none⟩), .agg x.cells.toArray] w (AddP w G j x) := by
  have L0 := keep (below_lay w (.cells x.cells.toArray 41))
  have HJ := keep (And.intro h hE)
  have KR := keep (refusal_any (h.step (below_lay w (.cells x.cells.toArray 41))) hg (hx.step (below_lay w (.cells x.cells.toArray 41))))
  obtain ⟨r, hr⟩ : ∃ r, addE j x.ch = r := ⟨_, rfl⟩
  have HR := keep (show r = addE j x.c0 ∧ r ≠ 0 from ⟨hr.symm, by rw [← hr]; exact he⟩)
  rw [hr] at KR he
  have hrz : (r != 0) = true := by simpa using he
  clear h hg hE hx hr he
  obtain ⟨b, kk, sb, n, v, pb, pc, far, wm, gs, rs, O, F⟩ := G
  obtain ⟨xk, xf, xa, xb, xo, xs, xp, ⟨x1, x2, x3⟩, ⟨x4, x5, x6⟩, ⟨x7, x8, x9⟩, ⟨x10, x11, x12⟩, ⟨x13, x14, x15⟩, xps, xbs⟩ := x
  dsimp only [CX.cells] at *
  go_enter Tryz.func80, Tryz.ntmps80
  go_wp2_with (go_at_call 114; refine KR.out.mono ?_; rintro e w2 ⟨rfl, hb2⟩; replace hb2 := keep hb2)
  go_ret
  have L2 := up L0.out hb2.out
  exact ⟨r, j, _, rfl, ⟨HR.out.1, fun _ => rfl, fun h0 => absurd h0 HR.out.2⟩, HJ.out.1.step L2, HJ.out.2, Later.below L2⟩
end
section
open Go.RowKit Go.Maps
theorem octC_mem : ∀ {l : List Ch} {y : Ch}, y ∈ l → y.da.length ≤ octC l
  | z :: l, y, h => by
    unfold octC
    simp only [List.map_cons, List.sum_cons]
    rcases List.mem_cons.1 h with rfl | h
    · omega
    · have := octC_mem h
      unfold octC at this
      omega
theorem Later.new {w w' : World} {G G' : Gh} (h : Later w G w' G') {g : Nat} (hg : g < w.heap.size) (hn : ¬ G.O g) : w'.heap[g]? = w.heap[g]? := h.part.block g hg hn
theorem Later.notO {w w' : World} {G G' : Gh} (h : Later w G w' G') {g : Nat} (hg : g < w.heap.size) (hn : ¬ G.O g) : ¬ G'.O g := fun hc => by
  rcases h.o g hc with h1 | h1
  · exact hn h1
  · omega
set_option maxRecDepth 1000000 in
set_option maxHeartbeats 4000000 in
theorem Add_part {w : World} {G : Gh} {j : Jn} (h : JA w G j (j.oct : Int)) (hg : Good j) (hE : Ends j.ch G.far) {x : CX} (hx : CV w x) (he : addE j x.c0 = 0) {s : List Ch} (hs : Mx (x.c0 :: j.ch) s) (hc : x.c0 ∈ s) {a z : Ch} (ha : s[0]? = some a) (hz : s.getLast? = some z) (hno : ¬ (a.fl / 2 % 2 = 1 ∧ z.fl % 2 = 1)) :
    Calls Tryz.prog 80 #[.pointer (some ⟨G.b, 0, none⟩), .agg x.cells.toArray] w (AddP w G j x) := by
  have hf : FitsC x.c0 := ⟨hx.a.1, hx.a.2, hx.si.1, hx.si.2⟩
  have hwf := put_wf hg.wf hf he
  have L0 := keep (below_lay w (.cells x.cells.toArray 41))
  have HB0 := keep (show KB (w.alloc (.cells x.cells.toArray 41)) w.heap.size x from heap_alloc_new w _)
  have KR := keep (refusal_any (h.step (below_lay w (.cells x.cells.toArray 41))) hg (hx.step (below_lay w (.cells x.cells.toArray 41))))
  have hr : addE j x.ch = 0 := he
  rw [hr] at KR
  have KH := keep fun W (hb : Below w.heap.size w W) => hold_any (h.step hb) hg (hx.step hb) he hE hs hc ha hz
  have haM := hs.mem a (List.mem_of_getElem? ha)
  have hzM := hs.mem z (List.mem_of_getLast? hz)
  have KW := keep fun W G' o (hj : JA W G' { j with ch := x.c0 :: j.ch } o) => whole_not hj haM hzM (hwf.nc a haM) (hwf.nc z hzM) hno
  have HF := keep (show AddR j x.c0 0 { j with ch := x.c0 :: j.ch } from ⟨he.symm, fun h0 => absurd rfl h0, fun _ => .part ((run_or hwf.kc hwf.nc hs hc (fun y hy => (hwf.ok y hy).1) ha hz).2 hno)⟩)
  have HO := keep (show (({ j with ch := x.c0 :: j.ch } : Jn).oct : Int) = (j.oct : Int) + x.bs.length from by
    rw [put_oct]
    show ((j.oct + x.bs.length : Nat) : Int) = _
    omega)
  clear hr he hf hwf hs hc ha hz haM hzM hno hx hg hE h
  obtain ⟨b, kk, sb, n, v, pb, pc, far, wm, gs, rs, O, F⟩ := G
  obtain ⟨xk, xf, xa, xb, xo, xs, xp, ⟨x1, x2, x3⟩, ⟨x4, x5, x6⟩, ⟨x7, x8, x9⟩, ⟨x10, x11, x12⟩, ⟨x13, x14, x15⟩, xps, xbs⟩ := x
  dsimp only [CX.cells, MX.zero, MX.cells] at *
  go_enter Tryz.func80, Tryz.ntmps80
  go_wp2_with (first
    | (go_at_call 114; refine KR.out.mono ?_; rintro e w2 ⟨rfl, hb2⟩
       have q2 := (show KB w2 w.heap.size ⟨xk, xf, xa, xb, xo, xs, xp, (x1, x2, x3), (x4, x5, x6), (x7, x8, x9), (x10, x11, x12), (x13, x14, x15), xps, xbs⟩ from (hb2.block w.heap.size (by simp)).trans HB0.out).at_
       try dsimp only [At12, Nat.zero_add] at q2
       obtain ⟨d0, d1, d2, d3, d4, d5, d6, d7, d8, d9, d10, d11⟩ := q2
       replace hb2 := keep hb2)
    | (go_at_call 115; refine (KH.out _ (up L0.out hb2.out)).mono ?_; rintro e w3 ⟨rfl, G3, hj3, hE3, hl3⟩
       have eb3 : G3.b = b := hl3.b
       have KW3 := KW.out w3 G3 _ hj3
       rw [eb3] at KW3
       replace KW3 := keep KW3
       clear d0 d1 d2 d3 d4 d5 d6 d7 d8 d9 d10 d11
       replace hj3 := keep hj3; replace hE3 := keep hE3; replace hl3 := keep hl3; clear eb3)
    | (go_at_call 116; refine KW3.out.mono ?_; rintro e w4 ⟨rfl, hb4⟩; replace hb4 := keep hb4))
  go_ret
  refine ⟨0, _, G3, rfl, HF.out, ?_, hE3.out, ((Later.below (up L0.out hb2.out)).trans hl3.out).trans ?_⟩
  · rw [HO.out]
    exact hj3.out.step (up hb4.out (below_lay w4 _))
  · exact Later.below (up hb4.out (below_lay w4 _))
set_option maxRecDepth 1000000 in
set_option maxHeartbeats 4000000 in
theorem Add_all {w : World} {G : Gh} {j : Jn} (h : JA w G j (j.oct : Int)) (hg : Good j) (hE : Ends j.ch G.far) {x : CX} (hx : CV w x) (he : addE j x.c0 = 0) {s : List Ch} (hs : Mx (x.c0 :: j.ch) s) (hc : x.c0 ∈ s) {a z : Ch} (ha : s[0]? = some a) (hz : s.getLast? = some z) (hb : a.fl / 2 % 2 = 1) (hd : z.fl % 2 = 1) :
    Calls Tryz.prog 80 #[.pointer (some ⟨G.b, 0, none⟩), .agg x.cells.toArray] w (AddP w G j x) := by
  have hf : FitsC x.c0 := ⟨hx.a.1, hx.a.2, hx.si.1, hx.si.2⟩
  have hwf := put_wf hg.wf hf he
  have L0 := keep (below_lay w (.cells x.cells.toArray 41))
  have HB0 := keep (show KB (w.alloc (.cells x.cells.toArray 41)) w.heap.size x from heap_alloc_new w _)
  have KR := keep (refusal_any (h.step (below_lay w (.cells x.cells.toArray 41))) hg (hx.step (below_lay w (.cells x.cells.toArray 41))))
  have hr : addE j x.ch = 0 := he
  rw [hr] at KR
  have KH := keep fun W (hb : Below w.heap.size w W) => hold_any (h.step hb) hg (hx.step hb) he hE hs hc ha hz
  have hrun := (run_or hwf.kc hwf.nc hs hc (fun y hy => (hwf.ok y hy).1) ha hz).1 hb hd
  have hroom := (addE_ok he).2.2.2.2
  have hsi : siOf s = x.si ∧ (msgOf s).st = x.ou := by
    obtain ⟨u, r, hur, _, h1, h2⟩ := run_head hrun
    obtain ⟨i, hi⟩ := List.mem_iff_getElem?.1 hc
    have h3 := chain_same i s u x.c0 hs.ch (by rw [hur]; rfl) hi
    exact ⟨h2.trans h3.1.symm, h1.trans h3.2.symm⟩
  have hda := msgOf_ne hrun fun y hy => (hwf.ok y hy).2.1
  have hoc : octC (without s (x.c0 :: j.ch)) + (msgOf s).da.length = octC (x.c0 :: j.ch) := run_oct hrun hwf.kc hwf.nc
  have hput : octC (x.c0 :: j.ch) = octC j.ch + x.bs.length := by
    have := put_oct (j := j) (c := x.c0)
    have e : x.c0.da.length = x.bs.length := rfl
    rw [e] at this
    unfold Jn.oct at this
    have t2 : octC (x.c0 :: j.ch) + octS j.st + octM j.rd = octC j.ch + octS j.st + octM j.rd + x.bs.length := this
    omega
  have hroom' : j.oct + x.bs.length ≤ 65536 := hroom
  have hwl : Good { j with ch := without s (x.c0 :: j.ch) } := ⟨hwf.less _, ⟨hg.ne.s, hg.ne.r⟩, by
    show octC (without s (x.c0 :: j.ch)) + octS j.st + octM j.rd ≤ 65536
    unfold Jn.oct at hroom'
    omega⟩
  have hjo : (j.oct : Int) + x.bs.length = ((({ j with ch := without s (x.c0 :: j.ch) } : Jn).oct : Nat) : Int) + (msgOf s).da.length := by
    show _ = ((octC (without s (x.c0 :: j.ch)) + octS j.st + octM j.rd : Nat) : Int) + _
    unfold Jn.oct
    omega
  have hfew : (x.c0 :: j.ch).length ≤ 65536 := by
    have h1 := few_ch (x.c0 :: j.ch) fun y hy => (hwf.ok y hy).2.1
    unfold Jn.oct at hroom'
    omega
  have hoct : ∀ y ∈ x.c0 :: j.ch, y.da.length ≤ 65536 := fun y hy => by
    have h1 := octC_mem hy
    unfold Jn.oct at hroom'
    omega
  have KW := keep fun W G' o (hj : JA W G' { j with ch := x.c0 :: j.ch } o) => whole_yes hj hwf.kc hwf.nc hfew hoct hrun hda ha hz
  have KP := keep fun W G' (y : MX) (hj : JA W G' { j with ch := without s (x.c0 :: j.ch) } ((j.oct : Int) + x.bs.length)) (hy : MV W y ∧ InF_jo G'.F y.da.1) (hm : y.msg = msgOf s) => place_any (x := y) (k := x.si) (by
      have h5 : y.bs = (msgOf s).da := congrArg Msg.da hm
      rw [h5, ← hjo]
      exact hj) hwl hy (by
      have h5 : y.st = (msgOf s).st := congrArg Msg.st hm
      rw [h5, hsi.2]
      exact ⟨hx.ou.1, (addE_ok he).2.2.1.2⟩) hx.si.1 hx.si.2 (by
      have h5 : y.bs = (msgOf s).da := congrArg Msg.da hm
      rw [h5]
      exact hda) (by
      have h5 : y.bs = (msgOf s).da := congrArg Msg.da hm
      rw [h5]
      have h6 : (({ j with ch := without s (x.c0 :: j.ch) } : Jn).oct : Int) + (msgOf s).da.length ≤ 65536 := by rw [← hjo]; omega
      omega)
  have HF := keep (show AddR j x.c0 0 (comes { j with ch := without s (x.c0 :: j.ch) } (msgOf s) x.si) from ⟨he.symm, fun h0 => absurd rfl h0, fun _ => by
    have := Came.all s hrun hc
    rw [hsi.1] at this
    exact this⟩)
  have HE9 := keep fun far (hE : Ends (x.c0 :: j.ch) far) => show Ends (comes { j with ch := without s (x.c0 :: j.ch) } (msgOf s) x.si).ch far from by
    rw [(comes_wf hwl.wf (by rw [hsi.2]; exact ⟨hx.ou.1, (addE_ok he).2.2.1.2⟩) ⟨hx.si.1, hx.si.2⟩).2.2.2]
    exact ends_take hwf.kc hwf.nc hE hs
  have HWO := keep (show ∀ i, G.O i → i < w.heap.size from h.olt)
  clear hr he hf hwf hs hc ha hz hx hg hE h hb hd hrun hroom hsi hda hoc hput hroom' hwl hjo hfew hoct
  obtain ⟨b, kk, sb, n, v, pb, pc, far, wm, gs, rs, O, F⟩ := G
  obtain ⟨xk, xf, xa, xb, xo, xs, xp, ⟨x1, x2, x3⟩, ⟨x4, x5, x6⟩, ⟨x7, x8, x9⟩, ⟨x10, x11, x12⟩, ⟨x13, x14, x15⟩, xps, xbs⟩ := x
  dsimp only [CX.cells, MX.zero, MX.cells] at *
  go_enter Tryz.func80, Tryz.ntmps80
  go_wp2_with (first
    | (go_at_call 114; refine KR.out.mono ?_; rintro e w2 ⟨rfl, hb2⟩
       have q2 := (show KB w2 w.heap.size ⟨xk, xf, xa, xb, xo, xs, xp, (x1, x2, x3), (x4, x5, x6), (x7, x8, x9), (x10, x11, x12), (x13, x14, x15), xps, xbs⟩ from (hb2.block w.heap.size (by simp)).trans HB0.out).at_
       try dsimp only [At12, Nat.zero_add] at q2
       obtain ⟨d0, d1, d2, d3, d4, d5, d6, d7, d8, d9, d10, d11⟩ := q2
       have kb2 := keep (show KB w2 w.heap.size ⟨xk, xf, xa, xb, xo, xs, xp, (x1, x2, x3), (x4, x5, x6), (x7, x8, x9), (x10, x11, x12), (x13, x14, x15), xps, xbs⟩ from (hb2.block w.heap.size (by simp)).trans HB0.out)
       replace hb2 := keep hb2)
    | (go_at_call 115; refine (KH.out _ (up L0.out hb2.out)).mono ?_; rintro e w3 ⟨rfl, G3, hj3, hE3, hl3⟩
       have eb3 : G3.b = b := hl3.b
       have KW3 := KW.out w3 G3 _ hj3
       rw [eb3] at KW3
       replace KW3 := keep KW3
       clear d0 d1 d2 d3 d4 d5 d6 d7 d8 d9 d10 d11
       replace hj3 := keep hj3; replace hE3 := keep hE3; replace hl3 := keep hl3; clear eb3)
    | (go_at_call 116; refine KW3.out.mono ?_
       rintro e w4 ⟨⟨ys, yu, yp, ⟨y1, y2, y3⟩, yb⟩, he4, hm4, G4, hj4, hl4, hf4, hmv4, hin4⟩
       obtain rfl : e = .returned (.tuple #[.agg #[.int .u16 ys, .bool yu, .int .u32 yp, .slice y1 y2 y3], .bool true]) := he4
       have eb4 : G4.b = b := hl4.b.trans hl3.out.b
       have hn0 : ¬ O w.heap.size := fun hc => Nat.lt_irrefl _ (HWO.out _ hc)
       have hs2 : w.heap.size < w2.heap.size := kb2.out.lt
       have kb3 : KB w3 w.heap.size ⟨xk, xf, xa, xb, xo, xs, xp, (x1, x2, x3), (x4, x5, x6), (x7, x8, x9), (x10, x11, x12), (x13, x14, x15), xps, xbs⟩ := (hl3.out.new hs2 hn0).trans kb2.out
       have q4 := (show KB w4 w.heap.size ⟨xk, xf, xa, xb, xo, xs, xp, (x1, x2, x3), (x4, x5, x6), (x7, x8, x9), (x10, x11, x12), (x13, x14, x15), xps, xbs⟩ from (hl4.new kb3.lt (hl3.out.notO hs2 hn0)).trans kb3).at_.2.2.2.2.2.1
       dsimp only at q4
       have hs4 : w.heap.size < w4.heap.size := Nat.lt_of_lt_of_le kb3.lt hl4.part.size
       have KP4 := KP.out (w4.alloc (.cells #[.int .u16 ys, .bool yu, .int .u32 yp, .slice y1 y2 y3] 33)) G4 ⟨ys, yu, yp, (y1, y2, y3), yb⟩ (hj4.step (below_lay w4 _)) ⟨hmv4.step (below_lay w4 _), hin4⟩ hm4
       rw [eb4] at KP4
       replace KP4 := keep KP4
       replace hj4 := keep hj4; replace hl4 := keep hl4; replace hf4 := keep hf4
       have HMS := keep hm4
       clear hm4 hmv4 hin4 eb4 hn0 hs2 kb3)
    | (go_at_call 117; refine KP4.out.mono ?_; rintro e w5 ⟨rfl, G5, hj5, hl5, hf5⟩; replace hj5 := keep hj5; replace hl5 := keep hl5; replace hf5 := keep hf5))
  go_ret
  refine ⟨0, _, G5, rfl, HF.out, ?_, HE9.out _ ?_, ((((Later.below (up L0.out hb2.out)).trans hl3.out).trans hl4.out).trans (Later.below (below_lay w4 _))).trans hl5.out⟩
  · have e : (⟨ys, yu, yp, (y1, y2, y3), yb⟩ : MX).msg = msgOf s := HMS.out
    have h9 := hj5.out
    rw [e] at h9
    exact h9
  · rw [hf5.out, hf4.out]
    exact hE3.out
theorem Add_any {w : World} {G : Gh} {j : Jn} (h : JA w G j (j.oct : Int)) (hg : Good j) (hE : Ends j.ch G.far) {x : CX} (hx : CV w x) :
    Calls Tryz.prog 80 #[.pointer (some ⟨G.b, 0, none⟩), .agg x.cells.toArray] w (AddP w G j x) := by
  by_cases he : addE j x.ch = 0
  · have he' : addE j x.c0 = 0 := he
    have hwf := put_wf hg.wf (c := x.c0) ⟨hx.a.1, hx.a.2, hx.si.1, hx.si.2⟩ he'
    have hl : (x.c0 :: j.ch).length < 4294967296 := by
      have h1 := hg.ch
      simp only [List.length_cons]
      omega
    obtain ⟨s, hs, hc⟩ := mx_ex hwf.kc hwf.nc hl (x := x.c0) List.mem_cons_self
    obtain ⟨a, z, ha, hz, _, _⟩ := hs.ends
    by_cases hd : a.fl / 2 % 2 = 1 ∧ z.fl % 2 = 1
    · exact Add_all h hg hE hx he' hs hc ha hz hd.1 hd.2
    · exact Add_part h hg hE hx he' hs hc ha hz hd
  · exact Add_err h hg hE hx he
structure JG (w : World) (G : Gh) (j : Jn) : Prop where
  ja : JA w G j (j.oct : Int)
  good : Good j
  ends : Ends j.ch G.far
theorem AddP.good {w w' : World} {G : Gh} {j : Jn} {x : CX} {e : Ending} (hx : CV w x) (hg : Good j) (h : AddP w G j x e w') : ∃ (r : Int) (j' : Jn) (G' : Gh), e = .returned (.int .i64 r) ∧ AddR j x.c0 r j' ∧ JG w' G' j' ∧ Later w G w' G' := by
  obtain ⟨r, j', G', h1, h2, h3, h4, h5⟩ := h
  have hw := add_wf hg.wf (c := x.c0) ⟨hx.a.1, hx.a.2, hx.si.1, hx.si.2⟩ h2
  exact ⟨r, j', G', h1, h2, ⟨h3, ⟨hw.1, hg.ne.add hg.wf h2, hw.2.2.1 hg.le⟩, h4⟩, h5⟩
end
section
open Go.RowKit Go.Maps
end
section
open Go.RowKit Go.Maps
end
section
open Go.RowKit Go.Maps
def skC (x : Int × Int) : List Value := [.int .u16 x.1, .int .u16 x.2]
def KS (w : World) (A : Option Addr) (m c : Nat) (l : List (Int × Int)) : Prop := m = l.length ∧ m ≤ c ∧ SR w A (flatF skC l) ∧ ∀ x ∈ l, 0 ≤ x.1 ∧ x.1 < 65536 ∧ 0 ≤ x.2 ∧ x.2 < 65536
theorem JG.step {w w' : World} {G : Gh} {j : Jn} (h : JG w G j) (hb : Below w.heap.size w w') : JG w' G j := ⟨h.ja.step hb, h.good, h.ends⟩
end
section
open Go.RowKit Go.Maps
end
section
open Go.RowKit Go.Maps
def MSl (w : World) (A : Option Addr) (m c : Nat) (l : List MX) : Prop := m = l.length ∧ m ≤ c ∧ SR w A (flatF MX.cells l)
theorem MX.len4 (x : MX) : x.cells.length = 4 := rfl
theorem MSl.kept {S : Nat → Prop} {w w' : World} {A : Option Addr} {n c : Nat} {l : List MX} (h : MSl w A n c l) (hp : Part S w w') (hA : ∀ a, A = some a → ¬ S a.block) : MSl w' A n c l := ⟨h.1, h.2.1, hp.sr h.2.2 hA⟩
theorem MSl.at_ {w : World} {A : Option Addr} {n c : Nat} {l : List MX} (h : MSl w A n c l) {j : Nat} (hj : j < n) :
    ∃ b o x, A = some ⟨b, o, none⟩ ∧ b < w.heap.size ∧ (w.cell? ⟨b, o + j * 4, none⟩ = some (.int .u16 x.st) ∧ w.cell? ⟨b, o + j * 4 + 1, none⟩ = some (.bool x.un) ∧ w.cell? ⟨b, o + j * 4 + 2, none⟩ = some (.int .u32 x.pp) ∧ w.cell? ⟨b, o + j * 4 + 3, none⟩ = some (.slice x.da.1 x.da.2.1 x.da.2.2)) ∧ l[j]? = some x := by
  obtain ⟨h1, _, h3⟩ := h
  have hl : j < l.length := by omega
  have hg := flatF_get (f := MX.cells) MX.len4 l j l[j] (List.getElem?_eq_getElem hl)
  obtain ⟨b, o, e, hlt, hc⟩ := h3 (by intro h0; have := flatF_len (f := MX.cells) MX.len4 l; rw [h0] at this; simp at this; omega)
  have key : ∀ i v, i < 4 → (l[j]).cells[i]? = some v → w.cell? ⟨b, o + j * 4 + i, none⟩ = some v := fun i v hi hv => by
    rw [Nat.add_assoc]
    exact hc _ _ ((hg i hi).trans hv)
  exact ⟨b, o, l[j], e, hlt, ⟨key 0 _ (by decide) rfl, key 1 _ (by decide) rfl, key 2 _ (by decide) rfl, key 3 _ (by decide) rfl⟩, List.getElem?_eq_getElem hl⟩
theorem JA.takeV {w : World} {G : Gh} {j : Jn} {o : Int} (h : JA w G j o) :
    JA (w.setCell ⟨G.b, 2, none⟩ (.slice none 0 0)) { G with v := .slice none 0 0, rs := [], O := fun i => G.O i ∧ ¬ G.v.ownBlock = some i } { j with rd := [] } o ∧ Part (fun i => i = G.b) w (w.setCell ⟨G.b, 2, none⟩ (.slice none 0 0)) := by
  have hp := part_set_jo w G.b 2 (.slice none 0 0)
  have hb := h.only_b
  have hF := h.notF h.ob
  obtain ⟨cs, hc⟩ := h.sb_cells
  have hsa := h.sa.kept hp hF (fun e => hb.sb e.symm) (fun i hi => hb.wm i hi)
  have hpa := h.pa.kept hp hF (fun e => hb.k e.symm) (fun n p e => hb.p n p e)
  refine ⟨⟨heap_setCell_same w G.b 2 _ _ _ h.blk, ⟨h.ob, fun e => hb.v _ e rfl⟩, h.n, ⟨hpa.map, ⟨h.pa.ok, fun e => ?_⟩, fun n p e => ?_, hpa.has, hpa.inj⟩, ⟨hsa.row, hsa.maps, ⟨h.sa.osb, fun e => ?_⟩, fun i hi => ⟨h.sa.ow i hi, fun e => ?_⟩, hsa.inj, hsa.msg, hsa.vs⟩, ⟨World.ownsRow_nil _ _ _ _, fun g e => (by cases e), rfl, fun x hx => (by cases hx)⟩, h.km, fun i hi => h.dis i hi.1, fun i hi => Nat.lt_of_lt_of_le (h.olt i hi.1) hp.size, fun i hi => Nat.lt_of_lt_of_le (h.flt i hi) hp.size⟩, hp⟩
  · obtain ⟨ds, fr, hd⟩ := h.v_cells e
    exact map_cells h.pa.map.block hd rfl
  · obtain ⟨a, bcd⟩ := hpa.op n p e
    refine ⟨⟨a, fun e' => ?_⟩, bcd⟩
    obtain ⟨ds, fr, hd⟩ := h.v_cells e'
    obtain ⟨ds', hd'⟩ := h.p_cells e
    exact cells_cells_jo hd hd' (by decide) rfl
  · obtain ⟨ds, fr, hd⟩ := h.v_cells e
    exact cells_cells_jo hd hc (by decide) rfl
  · obtain ⟨ds, fr, hd⟩ := h.v_cells e
    exact map_cells (h.sa.maps i hi).block hd rfl
theorem JA.vrow {w : World} {G : Gh} {j : Jn} {o : Int} (h : JA w G j o) : ∃ A c, G.v = .slice A G.rs.length c ∧ MSl w A G.rs.length c G.rs ∧ ∀ a, A = some a → G.v.ownBlock = some a.block := by
  obtain ⟨A, c, hv, hle, hs⟩ := own_shape2' h.ra.row
  refine ⟨A, c, hv, ⟨rfl, hle, hs⟩, fun a e => ?_⟩
  rw [hv, e]
  rfl
def TakeP_jo (w : World) (G : Gh) (j : Jn) (e : Ending) (w' : World) : Prop :=
  ∃ A m c l G', e = .returned (.slice A m c) ∧ MSl w' A m c l ∧ (∀ x ∈ l, MV w' x ∧ InF_jo G'.F x.da.1) ∧ l.map MX.msg = j.rd ∧ (∀ a, A = some a → ¬ G'.O a.block ∧ a.block < w'.heap.size ∧ G.O a.block) ∧ JG w' G' (takeJ j) ∧ Later w G w' G'
theorem octM_take {l : List Msg} {t : Nat} {m : Msg} (h : l[t]? = some m) : octM (l.take (t + 1)) = octM (l.take t) + m.da.length := by
  rw [List.take_add_one, h]
  exact octM_app _ _
theorem octM_le (l : List Msg) (t : Nat) : octM (l.take t) ≤ octM l := by
  have h : octM (l.take t) + octM (l.drop t) = octM l := by
    unfold octM
    rw [← List.sum_append, ← List.map_append, List.take_append_drop]
  omega
set_option maxRecDepth 1000000 in
set_option maxHeartbeats 4000000 in
theorem Take_any_jo {w : World} {G : Gh} {j : Jn} (h : JG w G j) :
    Calls Tryz.prog 29 #[.pointer (some ⟨G.b, 0, none⟩)] w (TakeP_jo w G j) := by
  obtain ⟨A, c, hv, hms, hown⟩ := h.ja.vrow
  have hfew : G.rs.length ≤ 65536 := by
    have h1 := h.good.rd
    have h2 := congrArg List.length h.ja.ra.is
    rw [List.length_map] at h2
    omega
  have HT := keep h.ja.takeV
  have HH := keep h
  have HMS := keep hms
  have HOW := keep hown
  have HVS := keep h.ja.ra.vs
  have c2 := h.ja.c2
  have fz := h.ja.fz 2
  have HB := keep h.ja.only_b.v
  clear h hms hown
  obtain ⟨b, k, sb, N, v, pb, pc, far, wm, gs, rs, O, F⟩ := G
  dsimp only at *
  subst hv
  obtain ⟨m, hm⟩ : ∃ q, rs.length = q := ⟨_, rfl⟩
  have HM := keep hm
  rw [hm] at c2 hfew
  clear hm
  go_enter Tryz.func29, Tryz.ntmps29
  go_wp2
  go_loopw [17] (fun iv wr => ∃ (t : Nat), iv = .int .i64 (t : Int) ∧ t ≤ m ∧ Hid (JA wr { b := b, k := k, sb := sb, n := N, v := .slice none 0 0, pb := pb, pc := pc, far := far, wm := wm, gs := gs, rs := [], O := fun i => O i ∧ ¬ (Value.slice A rs.length c).ownBlock = some i, F := F } { j with rd := [] } ((j.oct : Int) - octM (j.rd.take t)) ∧ Part (fun i => i = b) w wr)) (fun iv _ => m - (intOf iv).toNat)
  case atStart => exact ⟨0, rfl, Nat.zero_le _, keep ⟨by
    rw [List.take_zero]
    show JA _ _ _ ((j.oct : Int) - (0 : Nat))
    rw [show (j.oct : Int) - (0 : Nat) = j.oct by omega]
    exact HT.out.1, HT.out.2⟩⟩
  case round =>
    clear c2 fz
    obtain ⟨t, rfl, ht, HR⟩ := hrel
    have hAb : ∀ a, A = some a → ¬ a.block = b := fun a e => HB.out a.block (HOW.out a e)
    by_cases hlt : t < m
    · have hlt' : (t : Int) < (m : Int) := by omega
      have hwt : IntKind.i64.wrap ((t : Int) + 1) = (t : Int) + 1 := wrap_small (by omega) (by omega)
      obtain ⟨g, og, x, eA, hgl, ⟨d0, d1, d2, d3⟩, hx⟩ := (HMS.out.kept HR.out.2 hAb).at_ (show t < rs.length from by have := HM.out; omega)
      have hxv := (HVS.out x (List.mem_of_getElem? hx)).1
      have hjx : j.rd[t]? = some x.msg := by
        rw [← HH.out.ja.ra.is]
        show (rs.map MX.msg)[t]? = _
        rw [List.getElem?_map, hx]
        rfl
      have hoc := octM_take hjx
      have hle := octM_le j.rd (t + 1)
      have hln := hxv.bs.len
      have hln2 : x.msg.da.length = x.bs.length := rfl
      have hto := HH.out.good.le
      have hos : (j.oct : Int) - octM (j.rd.take (t + 1)) = (j.oct : Int) - octM (j.rd.take t) - (x.da.2.1 : Int) := by omega
      have hrng : octM j.rd ≤ j.oct := by unfold Jn.oct; omega
      have hws : IntKind.i64.wrap ((j.oct : Int) - octM (j.rd.take t) - (x.da.2.1 : Int)) = (j.oct : Int) - octM (j.rd.take t) - (x.da.2.1 : Int) := wrap_small (by omega) (by omega)
      have J1 := HR.out.1.step (below_lay wr (.cells x.cells.toArray 33))
      have M1 := (show MB (wr.alloc (.cells x.cells.toArray 33)) wr.heap.size x from heap_alloc_new wr _).all.1
      have P1 := HR.out.2.alloc (.cells x.cells.toArray 33)
      have c3 := J1.c3
      have fz := J1.fz 3
      have HOS := keep hos
      have LT := keep hlt
      subst eA
      clear hxv hjx hoc hle hln hln2 hto hos hrng hx hlt hAb
      obtain ⟨xs, xu, xp, ⟨x1, x2, x3⟩, xb⟩ := x
      obtain ⟨m0, m1, m2, m3⟩ := M1
      have HJ1 := keep (And.intro J1 P1)
      clear J1 P1
      dsimp only [MX.cells] at *
      generalize (j.oct : Int) - octM (j.rd.take t) = oc at *
      go_wp2
      generalize World.alloc _ _ = W8 at HJ1 c3 fz m0 m1 m2 m3 ⊢
      refine wp_region_still_tail 10 (by kernel_rfl) (by kernel_rfl) ?_
      simp only [List.take_succ_cons, List.take_zero, List.drop_succ_cons, List.drop_zero]
      repeat still_step
      refine wpStill_nil ?_
      go_wp2
      go_roundw
      case rel =>
        have J4 := (HJ1.out.1.step (Below.refl _ _).drew).setO (oc - (x2 : Int))
        exact ⟨t + 1, by go_num, LT.out, keep ⟨by rw [HOS.out]; exact J4.1, HJ1.out.2.drew.trans J4.2 fun i hi => .inl hi⟩⟩
      case measure => (have := LT.out; simp [intOf]; omega)
    · obtain rfl : t = m := by omega
      have hlt' : ¬ (t : Int) < (t : Int) := by omega
      clear hlt
      have HAb := keep hAb
      go_wp2
      go_ret
      have hms := HMS.out.kept HR.out.2 HAb.out
      have hrd : j.rd.take t = j.rd := by
        refine List.take_of_length_le ?_
        have h2 := congrArg List.length HH.out.ja.ra.is
        rw [List.length_map] at h2
        have h3 : rs.length = j.rd.length := h2
        have := HM.out
        omega
      have htk := take_wf HH.out.good.wf
      refine ⟨A, t, c, rs, { b := b, k := k, sb := sb, n := N, v := .slice none 0 0, pb := pb, pc := pc, far := far, wm := wm, gs := gs, rs := [], O := fun i => O i ∧ ¬ (Value.slice A rs.length c).ownBlock = some i, F := F }, rfl, by rw [← HM.out]; rw [HM.out] at hms ⊢; exact hms, fun x hx => ?_, HH.out.ja.ra.is, fun a e => ⟨fun hc => hc.2 (HOW.out a e), ?_, HH.out.ja.ra.own _ (HOW.out a e)⟩, ⟨?_, ⟨htk.1, HH.out.good.ne.take, by have := HH.out.good.le; omega⟩, HH.out.ends⟩, ⟨rfl, rfl, rfl, rfl, rfl, HR.out.2.mono fun i hi => by rw [hi]; exact HH.out.ja.ob, fun i hi => .inl hi.1, fun i hi => .inl hi⟩⟩
      · exact MV.kept (HVS.out x hx) HR.out.2 fun i hi e => HH.out.ja.dis b HH.out.ja.ob (by rw [← e]; exact hi)
      · have h1 := HH.out.ja.olt a.block (HH.out.ja.ra.own _ (HOW.out a e))
        exact Nat.lt_of_lt_of_le h1 HR.out.2.size
      · have h9 := HR.out.1
        rw [hrd] at h9
        have e : ((takeJ j).oct : Int) = (j.oct : Int) - octM j.rd := by omega
        rw [e]
        exact h9
end
end Go.Proofs.YtnlkdlnmffibhaaGreat
