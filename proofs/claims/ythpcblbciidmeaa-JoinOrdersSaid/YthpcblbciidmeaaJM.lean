/- The message of a run. -/
import Derived.Test.YthpcblbciidmeaaJL
namespace Go.Proofs.Ythpcblbciidmeaa
open Go.RowKit Go.Maps
set_option linter.unusedVariables false

/-- Two pieces' flags, and their places. -/
theorem JA.piece {w : World} {G : Gh} {j : Jn} {o : Int} (h : JA w G j o) {x : Ch} (hx : x ∈ j.ch) : ∃ p, G.pb x.a = some p ∧ w.cell? ⟨p, 1, none⟩ = some (.int .u8 x.fl) ∧ 0 ≤ x.fl ∧ x.fl < 256 ∧ p < w.heap.size := by
  obtain ⟨p, hp, hc⟩ := h.pa.has x hx
  obtain ⟨_, hP, _⟩ := h.pa.op _ _ hp
  have := hP.at_.1.2.1
  rw [show (G.pc x.a).fl = x.fl from congrArg Ch.fl hc] at this
  have hq := hP.cv.fl
  rw [show (G.pc x.a).fl = x.fl from congrArg Ch.fl hc] at hq
  exact ⟨p, hp, this, hq.1, hq.2, (Array.getElem?_eq_some_iff.1 hP.blk).1⟩
set_option maxRecDepth 1000000 in
set_option maxHeartbeats 4000000 in
theorem whole_not {w : World} {G : Gh} {j : Jn} {o : Int} (h : JA w G j o) {a z : Ch} (ha : a ∈ j.ch) (hz : z ∈ j.ch) (haR : 0 ≤ a.a ∧ a.a < 4294967296) (hzR : 0 ≤ z.a ∧ z.a < 4294967296) (hno : ¬ (a.fl / 2 % 2 = 1 ∧ z.fl % 2 = 1)) :
    Calls Try.prog 21 #[.pointer (some ⟨G.b, 0, none⟩), .int .u32 a.a, .int .u32 z.a] w fun e w' => e = .returned (.tuple #[.agg MX.zero.cells.toArray, .bool false]) ∧ Below w.heap.size w w' := by
  have L0 := below_lay w (.cells MX.zero.cells.toArray 44)
  have J0 := h.step L0
  obtain ⟨p, hp, fp, f0, f1, hpl⟩ := J0.piece ha
  obtain ⟨q, hq, fq, g0, g1, hql⟩ := J0.piece hz
  have HR := rel_map J0 _ rfl rfl
  have c0 := HR.1
  have LA := HR.2 a.a haR.1 haR.2
  have LZ := HR.2 z.a hzR.1 hzR.2
  rw [pgV_some hp] at LA
  rw [pgV_some hq] at LZ
  dsimp only [Option.getD] at LA LZ
  have ea := (and_flag ⟨f0, f1⟩).2.1
  have ez := (and_flag ⟨g0, g1⟩).1
  have R0 := keep (show MB (w.alloc (.cells MX.zero.cells.toArray 44)) w.heap.size MX.zero from heap_alloc_new w _)
  obtain ⟨⟨r0, r1, r2, r3⟩, rf0, rf1, rf2, rf3⟩ := R0.out.all
  have HL := keep L0
  obtain ⟨fa, hfa⟩ : ∃ f, a.fl = f := ⟨_, rfl⟩
  obtain ⟨fz, hfz⟩ : ∃ f, z.fl = f := ⟨_, rfl⟩
  rw [hfa] at fp ea hno
  rw [hfz] at fq ez hno
  generalize a.a = na at *
  generalize z.a = nz at *
  clear h J0 HR ha hz haR hzR hp hq f0 f1 g0 g1 hfa hfz L0
  obtain ⟨b, k, sb, N, v, pb, pc, far, wm, gs, rs, O, F⟩ := G
  dsimp only [MX.zero, MX.cells] at *
  by_cases hb : fa / 2 % 2 = 1
  · have he : ¬ fz % 2 = 1 := fun he => hno ⟨hb, he⟩
    rw [if_pos hb] at ea
    rw [if_neg he] at ez
    clear hb he hno
    go_enter Try.func21, Try.ntmps21
    go_wp2_with fail
    exact bodyPost_ret (ret_msg_ok rfl _ _ w.heap.size MX.zero rfl R0.out) rfl ⟨rfl, HL.out⟩
  · rw [if_neg hb] at ea
    clear hb hno
    go_enter Try.func21, Try.ntmps21
    go_wp2_with fail
    exact bodyPost_ret (ret_msg_ok rfl _ _ w.heap.size MX.zero rfl R0.out) rfl ⟨rfl, HL.out⟩
def WholeP (w : World) (G : Gh) (j : Jn) (o : Int) (s : List Ch) (e : Ending) (w' : World) : Prop :=
  ∃ x : MX, e = .returned (.tuple #[.agg x.cells.toArray, .bool true]) ∧ x.msg = msgOf s ∧ ∃ G', JA w' G' { j with ch := without s j.ch } o ∧ Later w G w' G' ∧ G'.far = G.far ∧ MV w' x ∧ InF G'.F x.da.1
set_option maxRecDepth 1000000 in
set_option maxHeartbeats 4000000 in
theorem whole_yes {w : World} {G : Gh} {j : Jn} {o : Int} (h : JA w G j o) (hk : KeysC j.ch) (hn : NumC j.ch) (hfew : j.ch.length ≤ 65536) (hoct : ∀ x ∈ j.ch, x.da.length ≤ 65536) {s : List Ch} (hs : Run j.ch s) (hne : (msgOf s).da ≠ []) {a z : Ch} (ha : s[0]? = some a) (hz : s.getLast? = some z) :
    Calls Try.prog 21 #[.pointer (some ⟨G.b, 0, none⟩), .int .u32 a.a, .int .u32 z.a] w (WholeP w G j o s) := by
  have hmx := hs.mx
  obtain ⟨hdist, hlen1, hlenl, hnum⟩ := hmx.dist hk hn (by omega) ha hz
  have ham := hs.mem a (List.mem_of_getElem? ha)
  have hzm := hs.mem z (List.mem_of_getLast? hz)
  have haR := hn a ham
  have hzR := hn z hzm
  have hab : a.fl / 2 % 2 = 1 := by
    obtain ⟨u, hu, hb, _⟩ := whole_first hs.wh
    rw [ha] at hu
    injection hu with hu
    rw [hu]; exact hb
  have hze : z.fl % 2 = 1 := by
    obtain ⟨u, hu, he⟩ := whole_last hs.wh
    rw [hz] at hu
    injection hu with hu
    rw [hu]; exact he
  have L0 := below_lay w (.cells MX.zero.cells.toArray 44)
  have J0 := h.step L0
  obtain ⟨p, hp, fp, f0, f1, hpl⟩ := J0.piece ham
  obtain ⟨q, hq, fq, g0, g1, hql⟩ := J0.piece hzm
  have HR := rel_map J0 _ rfl rfl
  have c0 := HR.1
  have LA := HR.2 a.a haR.1 haR.2
  have LZ := HR.2 z.a hzR.1 hzR.2
  rw [pgV_some hp] at LA
  rw [pgV_some hq] at LZ
  dsimp only [Option.getD] at LA LZ
  have ea := (and_flag ⟨f0, f1⟩).2.1
  have ez := (and_flag ⟨g0, g1⟩).1
  rw [if_pos hab] at ea
  rw [if_pos hze] at ez
  have R0 := (show MB (w.alloc (.cells MX.zero.cells.toArray 44)) w.heap.size MX.zero from heap_alloc_new w _)
  have W0 : WR w G j o s 0 none 0 G [] (w.alloc (.cells MX.zero.cells.toArray 44)) := ⟨by rw [List.take_zero, without_zero]; exact J0, Later.below L0, rfl, rfl, rfl, World.ownsRow_nil _ _ _ _, fun _ hx => (by cases hx), rfl, R0⟩
  have HW0 := keep W0
  have HO := keep h.olt
  have HF := keep h.flt
  have HD := keep h.dis
  have HK := keep hk
  have HS := keep hs
  have HNE := keep hne
  have HNum := keep hnum
  have HND := keep (hs.nodup hk hn)
  have HFew := keep hfew
  have HOct := keep hoct
  obtain ⟨N, hN⟩ : ∃ N, s.length = N := ⟨_, rfl⟩
  have HN := keep hN
  obtain ⟨na, hna⟩ : ∃ q, a.a = q := ⟨_, rfl⟩
  obtain ⟨nz, hnz⟩ : ∃ q, z.a = q := ⟨_, rfl⟩
  rw [hna] at hdist haR LA
  rw [hnz] at hdist hzR LZ
  rw [hna, hnz]
  obtain ⟨dd, hdd⟩ : ∃ q, dist32 na nz = q := ⟨_, rfl⟩
  have hcnt : IntKind.u32.wrap (dd + 1) = (N : Int) := by
    rw [wrap_u32, ← hdd]
    unfold dist32 dist
    omega
  have KD := Dist_any na nz
  rw [hdd] at KD
  replace KD := keep KD
  have HNA := keep hna
  have HAR := keep haR
  have HNB := keep (show N ≤ 65536 ∧ 1 ≤ N from by omega)
  obtain ⟨fa, hfa⟩ : ∃ f, a.fl = f := ⟨_, rfl⟩
  obtain ⟨fz, hfz⟩ : ∃ f, z.fl = f := ⟨_, rfl⟩
  rw [hfa] at fp ea
  rw [hfz] at fq ez
  have HHH := keep h
  clear h J0 HR ha hz haR hzR hp hq f0 f1 g0 g1 hfa hfz L0 W0 R0 hdist hlen1 hlenl hnum ham hzm hab hze hmx hk hn hfew hoct hs hne hN hna hnz hdd
  obtain ⟨b, k, sb, NN, v, pb, pc, far, wm, gs, rs, O, F⟩ := G
  dsimp only [MX.zero, MX.cells] at *
  obtain ⟨i0, hi0, hz0, hz1, hz2⟩ := info_parts chunk_info9
  go_enter Try.func21, Try.ntmps21
  go_wp2_with (go_at_call 29; refine (KD.out _).mono ?_; rintro e w' ⟨rfl, rfl⟩)
  go_loopw [8, 41] (fun lv iv wr => ∃ (t : Nat) (A : Option Addr) (c : Nat) (Gt : Gh) (lst : List CX), lv = .slice A t c ∧ iv = .int .u32 (t : Int) ∧ t ≤ N ∧ Hid (WR w ⟨b, k, sb, NN, v, pb, pc, far, wm, gs, rs, O, F⟩ j o s t A c Gt lst wr)) (fun _ iv _ => N - (intOf iv).toNat)
  case atStart => exact ⟨0, none, 0, _, [], rfl, rfl, Nat.zero_le _, HW0⟩
  case round =>
    clear c0 LA LZ fp fq hpl hql
    obtain ⟨t, A, c, Gt, lst, rfl, rfl, ht, HW⟩ := hrel
    by_cases hlt : t < N
    · obtain ⟨x, hx⟩ : ∃ x, s[t]? = some x := ⟨s[t]'(by rw [HN.out]; exact hlt), List.getElem?_eq_getElem _⟩
      obtain ⟨p, hp, hpc, hat, hpk, hpl⟩ := HW.out.next HK.out HND.out HS.out.mem hx
      have hxa : IntKind.u32.wrap (na + (t : Int)) = x.a := by
        rw [wrap_u32, ← HNA.out]
        exact (HNum.out t x hx).symm
      have hxr : 0 ≤ x.a ∧ x.a < 4294967296 := by rw [← hxa, wrap_u32]; omega
      have hlt' : (t : Int) < (N : Int) := by omega
      have hwt : IntKind.u32.wrap ((t : Int) + 1) = (t : Int) + 1 := by
        have := HNB.out
        rw [wrap_u32]
        omega
      have eb : Hid (Gt.b = b) := HW.out.la.b
      have HR := rel_map HW.out.ja _ rfl rfl
      have c0 := HR.1
      have LX := HR.2 x.a hxr.1 hxr.2
      rw [pgV_some hp] at LX
      rw [eb.out] at c0
      dsimp only [Option.getD] at LX
      obtain ⟨y, hy⟩ : ∃ y, Gt.pc x.a = y := ⟨_, rfl⟩
      obtain ⟨nx, hnx⟩ : ∃ q, x.a = q := ⟨_, rfl⟩
      rw [hy] at hat hpk hpc
      rw [hnx] at hxa LX hxr
      have HT := keep (show t + 1 ≤ N from hlt)
      have HX := keep hx
      have HP := keep hp
      have HPC := keep hpc
      have HPK := keep hpk
      have HY := keep hy
      have HNX := keep hnx
      have HXR := keep hxr
      have HKM := keep (show w.heap.size + 1 ≤ wr.heap.size from HW.out.r.lt)
      clear hx hp hpc hpk hy hnx hxr HR hlt ht
      have hne : b < wr.heap.size := by have := HW.out.ja.olt _ HW.out.ja.ob; rw [eb.out] at this; exact this
      have ek : Hid (Gt.k = k) := HW.out.la.k
      rw [ek.out] at c0 LX
      obtain ⟨yk, yf, ya, yb, yo, ys, yp, ⟨y1, y2, y3⟩, ⟨y4, y5, y6⟩, ⟨y7, y8, y9⟩, ⟨y10, y11, y12⟩, ⟨y13, y14, y15⟩, yps, ybs⟩ := y
      dsimp only [At12, Nat.zero_add, CX.cells] at hat
      obtain ⟨d0, d1, d2, d3, d4, d5, d6, d7, d8, d9, d10, d11⟩ := hat
      go_wp2_with (first
        | (at_builtin
           refine wpl_appendK (by decide) rfl (.tmp 44) (.tmp 56) 48 rfl (w.heap.size + 1) 34 i0 _ Try.underlying48 hi0 hz0 hz1 rfl _ t (flatF CX.cells lst) rfl (HW.out.row.alloc _) (some ⟨wr.heap.size, 0, none⟩) 1 1 [.int .u8 yk, .int .u8 yf, .int .u32 ya, .int .u32 yb, .int .u16 yo, .int .u16 ys, .int .u32 yp, .slice y1 y2 y3, .slice y4 y5 y6, .slice y7 y8 y9, .slice y10 y11 y12, .slice y13 y14 y15] rfl rfl (SR.row (heap_alloc_new wr _)) (CX.one ⟨yk, yf, ya, yb, yo, ys, yp, ⟨y1, y2, y3⟩, ⟨y4, y5, y6⟩, ⟨y7, y8, y9⟩, ⟨y10, y11, y12⟩, ⟨y13, y14, y15⟩, yps, ybs⟩) (by have := HNB.out; have := HT.out; unfold maxLen; omega) (by rw [hz2]; have := HNB.out; have := HT.out; omega) (Nat.le_trans HKM.out (below_lay wr _).size) ?_
           intro A3 c3 w3 ho3 hb3 hg3
           have Q3 := HW.out.app HO.out HF.out hg3.out
           have e0 := (rel_map Q3.1 _ rfl rfl).1
           rw [eb.out, ek.out] at e0
           have HM3 := keep (show MapV w3 26 .u32 k _ (pgV Gt.pb) from by rw [← ek.out]; exact Q3.1.pa.map)
           clear c0 d0 d1 d2 d3 d4 d5 d6 d7 d8 d9 d10 d11 LX hpl Q3 hb3
           replace hg3 := keep hg3.out
           replace ho3 := keep ho3.out)
        | (at_delete
           refine wpl_del _ rfl _ _ 60 rfl Try.underlying26 Try.underlying60 rfl HM3.out rfl (wf32 HXR.out.1 HXR.out.2) ?_
           intro w4 hm4 hg4 hs4
           have W4 := keep (HW.out.del HK.out HO.out HF.out HD.out HX.out HP.out (by rw [HY.out]; exact HPC.out) (by rw [HY.out]; exact HPK.out) hg3.out (by rw [HY.out]; exact ho3.out) (by rw [ek.out, HNX.out]; exact hm4) (by rw [ek.out]; exact hg4))
           clear hm4 hg4 hs4))
      go_roundw
      case rel => exact ⟨t + 1, A3, c3, _, _, rfl, by go_num, HT.out, W4⟩
      case measure => (have := HT.out; simp [intOf]; omega)
    · obtain rfl : t = N := by omega
      have hlt' : ¬ (t : Int) < (t : Int) := by omega
      have hst : s.take t = s := List.take_of_length_le (by rw [HN.out]; exact Nat.le_refl _)
      have hmap : lst.map CX.ch = s := by rw [HW.out.is, hst]
      have KW := Whole_any A t c lst wr (CS.of_own HW.out.row fun x hx => (HW.out.vs x hx).cv) (by have := HNB.out; omega) (fun x hx => by
        have h1 : x.ch ∈ s := by rw [← hmap]; exact List.mem_map.2 ⟨x, hx, rfl⟩
        have h2 := HOct.out _ (HS.out.mem _ h1)
        have h3 : x.bs.length ≤ 65536 := h2
        omega)
      rw [hmap, show wholeO s = some (msgOf s) from by unfold wholeO; rw [if_pos HS.out.wh]] at KW
      replace KW := keep KW
      have HST := keep hst
      have hws : w.heap.size < wr.heap.size := HW.out.r.lt
      clear hst hmap hlt ht
      go_wp2_with (go_at_call 30; refine KW.out.mono ?_
                   rintro e w5 ⟨⟨xs, xu, xp, ⟨x1, x2, x3⟩, xb⟩, he, hmv, hmsg, hb5, hnew⟩
                   obtain rfl : e = .returned (.tuple #[.agg #[.int .u16 xs, .bool xu, .int .u32 xp, .slice x1 x2 x3], .bool true]) := he
                   have R5 := (show MB w5 w.heap.size MX.zero from (hb5.block _ hws).trans HW.out.r)
                   obtain ⟨⟨r0, r1, r2, r3⟩, rf0, rf1, rf2, rf3⟩ := R5.all
                   try dsimp only [MX.zero] at r0 r1 r2 r3
                   replace R5 := keep R5
                   have hws5 := Nat.lt_of_lt_of_le hws hb5.size
                   replace hb5 := keep hb5
                   replace hmv := keep hmv
                   replace hmsg := keep hmsg
                   replace hnew := keep hnew)
      have FB : Hid (InF (fun i => wr.heap.size ≤ i ∧ i < w5.heap.size) x1) := keep fun a e => ⟨hnew.out a e, by
        have hxb : xb ≠ [] := by
          have := congrArg Msg.da hmsg.out
          have h2 : xb = (msgOf s).da := this
          rw [h2]
          exact HNE.out
        obtain ⟨g, og, e', hlt, _⟩ := hmv.out.bs.br (fun h0 => by
          have := congrArg List.length h0
          rw [bc_length] at this
          exact hxb (List.eq_nil_of_length_eq_zero this))
        have e : x1 = some a := e
        have e' : x1 = some ⟨g, og, none⟩ := e'
        rw [e] at e'
        injection e' with e'
        rw [e']
        exact hlt⟩
      have PZ : Hid (Part (fun i => i = w.heap.size) w5 ((((w5.setCell ⟨w.heap.size, 0, none⟩ (.int .u16 xs)).setCell ⟨w.heap.size, 1, none⟩ (.bool xu)).setCell ⟨w.heap.size, 2, none⟩ (.int .u32 xp)).setCell ⟨w.heap.size, 3, none⟩ (.slice x1 x2 x3))) :=
        keep (((((Part.refl (fun i => i = w.heap.size) w5).setCell (p := ⟨w.heap.size, 0, none⟩) (.inl rfl) _).setCell (p := ⟨w.heap.size, 1, none⟩) (.inl rfl) _).setCell (p := ⟨w.heap.size, 2, none⟩) (.inl rfl) _).setCell (p := ⟨w.heap.size, 3, none⟩) (.inl rfl) _)
      have J5 := (HW.out.ja.step hb5.out).addF (P := fun i => wr.heap.size ≤ i ∧ i < w5.heap.size) fun i hi => ⟨fun ho => by
        rw [HW.out.oo] at ho
        have := HO.out i ho
        omega, hi.2⟩
      have J6 := J5.apart PZ.out (fun i hi e => by
        have hi : Gt.O i := hi
        rw [HW.out.oo] at hi
        have := HO.out i hi
        omega) (fun i hi e => by
        rcases hi with hi | hi
        · rw [HW.out.ff] at hi
          have := HF.out i hi
          omega
        · have := hi.1
          omega)
      rw [HST.out] at J6
      refine bodyPost_ret (ret_msg_ok rfl _ _ w.heap.size ⟨xs, xu, xp, (x1, x2, x3), xb⟩ rfl (MB.laid R5.out ⟨xs, xu, xp, (x1, x2, x3), xb⟩)) rfl ⟨⟨xs, xu, xp, (x1, x2, x3), xb⟩, rfl, hmsg.out, _, J6, ?_, HW.out.fr, ?_, ?_⟩
      · have hl := HW.out.la
        refine ⟨hl.b, hl.k, hl.sb, hl.n, hl.wm, (hl.part.trans (Part.of_below (fun _ => False) hb5.out) fun i hi => hi.elim).trans PZ.out fun i hi => .inr (by rw [hi]; exact Nat.le_refl _), fun i hi => hl.o i hi, fun i hi => ?_⟩
        rcases hi with hi | hi
        · exact hl.f i hi
        · exact .inr (Nat.le_trans (Nat.le_of_lt hws) hi.1)
      · exact ⟨hmv.out.st, hmv.out.pp, PZ.out.bs (F := fun i => wr.heap.size ≤ i) (fun i hi e => by omega) hmv.out.bs hnew.out⟩
      · exact fun a e => .inr (FB.out a e)
end Go.Proofs.Ythpcblbciidmeaa
