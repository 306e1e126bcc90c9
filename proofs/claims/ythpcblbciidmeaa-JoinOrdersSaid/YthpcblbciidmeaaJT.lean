/- Pieces up to a number are dropped. -/
import Derived.Maps.RangeWalk
import Derived.Test.YthpcblbciidmeaaJS
namespace Go.Proofs.Ythpcblbciidmeaa
open Go.RowKit Go.Maps
set_option linter.unusedVariables false

/-- What is left under way. -/
def dropJ (j : Jn) (n : Int) (left : Int → Bool) : Jn := { j with ch := j.ch.filter fun x => !le32 x.a n || left x.a }
theorem less32_le (a n : Int) (h : a ≠ n) (h0 : 0 ≤ a ∧ a < 4294967296) (h1 : 0 ≤ n ∧ n < 4294967296) : less32 a n = le32 a n := by
  unfold less32 lessI dist le32
  exact decide_eq_decide.2 (by omega)
theorem le32_self (a : Int) : le32 a a = true := by unfold le32; rw [Int.sub_self]; rfl
theorem octC_less {l : List Ch} (hk : KeysC l) {y : Ch} (hy : y ∈ l) : octC (l.filter fun x => decide (x.a ≠ y.a)) + y.da.length = octC l := by
  induction l with
  | nil => cases hy
  | cons z r ih =>
    obtain ⟨h1, h2⟩ := List.pairwise_cons.1 hk
    have hc : ∀ l, octC (z :: l) = z.da.length + octC l := fun l => by unfold octC; simp
    rw [hc]
    by_cases e : z.a = y.a
    · have : z = y := hk.one List.mem_cons_self hy e
      subst this
      rw [List.filter_cons_of_neg (by simp), List.filter_eq_self.2 fun x hx => by simpa using fun e' => h1 x hx e'.symm]
      omega
    · rw [List.filter_cons_of_pos (by simpa using e), hc]
      rcases List.mem_cons.1 hy with rfl | hy
      · exact absurd rfl e
      · have := ih h2 hy
        omega
theorem drop_start {j : Jn} {n : Int} {left : Int → Bool} (h : ∀ x ∈ j.ch, left x.a = true) : dropJ j n left = j := by
  unfold dropJ
  rw [List.filter_eq_self.2 fun x hx => by rw [h x hx]; simp]
theorem drop_done {j : Jn} {n : Int} {left : Int → Bool} (h : ∀ x, left x = false) : dropJ j n left = { j with ch := j.ch.filter fun x => !le32 x.a n } := by
  unfold dropJ
  simp [h]
theorem drop_stay {j : Jn} {n : Int} {left : Int → Bool} {a : Int} (h : le32 a n = false) : dropJ j n (fun z => left z && !decide (z = a)) = dropJ j n left := by
  unfold dropJ
  congr 1
  refine List.filter_congr fun x _ => ?_
  by_cases e : x.a = a
  · rw [e, h]; simp
  · simp [e]
theorem drop_go {j : Jn} {n : Int} {left : Int → Bool} {a : Int} (h : le32 a n = true) : (dropJ j n (fun z => left z && !decide (z = a))).ch = (dropJ j n left).ch.filter fun x => decide (x.a ≠ a) := by
  unfold dropJ
  show j.ch.filter _ = (j.ch.filter _).filter _
  rw [List.filter_filter]
  refine List.filter_congr fun x _ => ?_
  by_cases e : x.a = a
  · rw [e, h]; simp
  · simp [e]
structure DR (w : World) (G : Gh) (j : Jn) (n : Int) (left : Int → Bool) (cnt : Nat) (Gt : Gh) (wr : World) : Prop where
  ja : JA wr Gt (dropJ j n left) ((dropJ j n left).oct : Int)
  la : Later w G wr Gt
  oo : Gt.O = G.O
  ff : Gt.F = G.F
  fr : Gt.far = G.far
  rg : RngV wr 26 .u32 G.k w.heap.size (dropJ j n left).ch.length (pgV Gt.pb) left cnt
theorem Good.less {j : Jn} (h : Good j) (f : Ch → Bool) : Good { j with ch := j.ch.filter f } := ⟨h.wf.less f, ⟨h.ne.s, h.ne.r⟩, by
  have h1 := octC_filter j.ch f
  have h2 := h.le
  unfold Jn.oct at h2 ⊢
  show octC (j.ch.filter f) + octS j.st + octM j.rd ≤ 65536
  omega⟩
theorem grown_of_part {w w' : World} {g : Nat} (h : Part (fun i => i = g) w w') : w.grownBy w' (some g) := ⟨h.os, h.tape, h.output, h.size, fun k hk hne => h.block k hk fun e => hne (by rw [e])⟩
/-- One more is dropped: behind the delete. -/
theorem DR.next {w : World} {G : Gh} {j : Jn} {n : Int} {left : Int → Bool} {cnt : Nat} {Gt : Gh} {wr w2 w3 : World} (h : DR w G j n left cnt Gt wr) (hk : KeysC j.ch) {x : Int} (hle : le32 x n = true) (J2 : JA w2 Gt (dropJ j n left) ((dropJ j n left).oct : Int)) {p : Nat} (hp : Gt.pb x = some p)
    {c2 cnt2 : Nat} {left2 : Int → Bool} (hl2 : left2 = fun z => left z && !decide (z = x)) (hr : RngV w3 26 .u32 G.k w.heap.size ((dropJ j n left).ch.length - if (pgV Gt.pb x).isSome = true then 1 else 0) (delV (pgV Gt.pb) x) left2 cnt2) (hg : w2.grownBy w3 (some G.k)) :
    JA w3 { Gt with pb := fun y => if y = x then none else Gt.pb y } (dropJ j n left2) ((dropJ j n left).oct : Int) ∧ Part (fun i => i = G.k) w2 w3 ∧ RngV w3 26 .u32 G.k w.heap.size (dropJ j n left2).ch.length (pgV fun y => if y = x then none else Gt.pb y) left2 cnt2 ∧ (((dropJ j n left2).oct : Nat) : Int) = ((dropJ j n left).oct : Int) - (Gt.pc x).da.2.1 := by
  subst hl2
  have ek : Gt.k = G.k := h.la.k
  obtain ⟨_, hP, hPl, hPa⟩ := J2.pa.op x p hp
  have hkd : KeysC (dropJ j n left).ch := by unfold dropJ; exact hk.filter _
  have hd := drop_go (j := j) (left := left) hle
  have hsome : (pgV Gt.pb x).isSome = true := by rw [pgV_some hp]; rfl
  have hlen : (dropJ j n fun z => left z && !decide (z = x)).ch.length = (dropJ j n left).ch.length - if (pgV Gt.pb x).isSome = true then 1 else 0 := by
    rw [hd, hsome, if_pos rfl]
    have := filter_len hkd (n := x) ⟨_, hPl, hPa⟩
    omega
  have hD := J2.delPiece (n := x) (l := (dropJ j n fun z => left z && !decide (z = x)).ch) (fun y => by
    rw [hd, List.mem_filter]
    simp) hlen (by rw [ek]; exact hr.map) (by rw [ek]; exact hg)
  have hD2 := hD.2
  rw [ek] at hD2
  refine ⟨hD.1, hD2, ?_, ?_⟩
  · rw [hlen]
    have e2 : (pgV fun y => if y = x then none else Gt.pb y) = delV (pgV Gt.pb) x := by
      funext y
      by_cases e : y = x <;> simp [pgV, delV, e]
    rw [e2]
    exact hr
  · have h1 := octC_less hkd hPl
    have e : (Gt.pc x).ch.a = x := hPa
    rw [e, ← hd] at h1
    have h2 := hP.cv.bs.len
    have h3 : (Gt.pc x).ch.da.length = (Gt.pc x).bs.length := rfl
    show ((octC (dropJ j n fun z => left z && !decide (z = x)).ch + octS j.st + octM j.rd : Nat) : Int) = ((octC (dropJ j n left).ch + octS j.st + octM j.rd : Nat) : Int) - _
    omega
set_option maxRecDepth 1000000 in
set_option maxHeartbeats 4000000 in
theorem drop_any {w : World} {G : Gh} {j : Jn} (h : JG w G j) {n : Int} (n0 : 0 ≤ n) (n1 : n < 4294967296) :
    Calls Try.prog 23 #[.pointer (some ⟨G.b, 0, none⟩), .int .u32 n] w fun e w' => e = .returned (.tuple #[]) ∧ ∃ G', JG w' G' { j with ch := j.ch.filter fun x => !le32 x.a n } ∧ Later w G w' G' := by
  have c0 := h.ja.c0
  have HM := h.ja.pa.map
  have HH := keep h
  have HO := keep h.ja.olt
  have HF := keep h.ja.flt
  have HN := keep (And.intro n0 n1)
  have HD0 := keep fun (w1 : World) (hr : RngV w1 26 .u32 G.k w.heap.size j.ch.length (pgV G.pb) (fun x => (pgV G.pb x).isSome) j.ch.length) (hg : w.grownBy w1 none) => show ∃ left, DR w G j n left j.ch.length G w1 from by
    have hall : ∀ x ∈ j.ch, (pgV G.pb x.a).isSome = true := fun x hx => by
      obtain ⟨p, hp, _⟩ := h.ja.pa.has x hx
      rw [pgV_some hp]
      rfl
    have hp : Part (fun _ => False) w w1 := Part.of_grown hg fun i hi => by cases hi
    refine ⟨fun x => (pgV G.pb x).isSome, ?_, ⟨rfl, rfl, rfl, rfl, rfl, hp.mono fun _ hc => hc.elim, fun i hi => .inl hi, fun i hi => .inl hi⟩, rfl, rfl, rfl, ?_⟩
    · rw [drop_start hall]
      exact h.ja.apart hp (fun _ _ hc => hc) (fun _ _ hc => hc)
    · rw [drop_start hall]
      exact hr
  clear h n0 n1
  obtain ⟨b, k, sb, N, v, pb, pc, far, wm, gs, rs, O, F⟩ := G
  dsimp only at *
  go_enter Try.func23, Try.ntmps23
  go_wp2_with (at_range; refine wpl_range _ rfl _ 60 rfl Try.underlying26 Try.underlying60 rfl HM ?_; intro w1 hr1 hg1 hs1)
  go_frame
  obtain ⟨left0, HD1⟩ := HD0.out w1 hr1 hg1
  replace HD1 := keep HD1
  clear hr1 hg1 c0 HM
  go_loopw [] (fun wr => ∃ (left : Int → Bool) (cnt : Nat) (Gt : Gh), Hid (DR w ⟨b, k, sb, N, v, pb, pc, far, wm, gs, rs, O, F⟩ j n left cnt Gt wr)) (fun wr => wr.rangeLeft k w.heap.size)
  case atStart => exact ⟨_, _, _, HD1⟩
  case round =>
    obtain ⟨left, cnt, Gt, HR⟩ := hrel
    have hrg := HR.out.rg
    dsimp only at hrg
    go_wp2_with (at_next; refine wpl_next _ rfl _ rfl Try.underlying26 rfl hrg ?_ ?_)
    · intro _ hl0
      have e9 := drop_done (j := j) (n := n) hl0
      have J9 := HR.out.ja
      rw [e9] at J9
      have G9 := HH.out.good.less fun x => !le32 x.a n
      have hl9 : (j.ch.filter fun x => !le32 x.a n).length < 4294967296 := Nat.lt_of_le_of_lt G9.ch (by decide)
      have eb : Gt.b = b := HR.out.la.b
      obtain ⟨m1, hm1⟩ : ∃ q, IntKind.u32.wrap (n + 1) = q := ⟨_, rfl⟩
      obtain ⟨m2, hm2⟩ : ∃ q, IntKind.u32.wrap (n + 2147483648) = q := ⟨_, rfl⟩
      have em1 : m1 = (n + 1) % 4294967296 := by rw [← hm1, wrap_u32]
      have em2 : m2 = (n + 2147483648) % 4294967296 := by rw [← hm2, wrap_u32]
      have K1 := keep (mend_any J9 G9.wf.kc G9.wf.nc hl9 (n := m1) (by omega) (by omega))
      rw [eb] at K1
      have K2 := keep fun far W o (hj : JA W { Gt with far := far } { j with ch := j.ch.filter fun x => !le32 x.a n } o) => mend_any hj G9.wf.kc G9.wf.nc hl9 (n := m2) (by omega) (by omega)
      have HF9 := keep fun far1 far2 (h1 : ∀ t, Mx (j.ch.filter fun x => !le32 x.a n) t → OKf Gt.far t → OKf far1 t) (h2 : ∀ t, Mx (j.ch.filter fun x => !le32 x.a n) t → (∃ x ∈ t, x.a = m1) → OKf far1 t) (h3 : ∀ t, Mx (j.ch.filter fun x => !le32 x.a n) t → OKf far1 t → OKf far2 t) (h4 : ∀ t, Mx (j.ch.filter fun x => !le32 x.a n) t → (∃ x ∈ t, x.a = m2) → OKf far2 t) => show Ends (j.ch.filter fun x => !le32 x.a n) far2 from fun t ht => by
        rcases mx_drop HH.out.good.wf.nc HN.out ht with h5 | h5 | h5
        · exact h3 t ht (h1 t ht (by rw [HR.out.fr]; exact HH.out.ends t h5))
        · exact h3 t ht (h2 t ht (by rw [em1]; exact h5))
        · exact h4 t ht (by rw [em2]; exact h5)
      have HG9 := keep G9
      have EB := keep eb
      clear hrg e9 J9 hl9 em1 em2 hl0 G9 eb
      go_wp2_with (first
        | (go_at_call_of 34 (Value.int .u32 m1)
           refine K1.out.mono ?_
           rintro e w4 ⟨rfl, far1, hj4, hp4, h41, h42⟩
           have K3 := K2.out far1 w4 _ hj4
           rw [show ({ Gt with far := far1 } : Gh).b = b from EB.out] at K3
           replace K3 := keep K3
           have H4 := keep (And.intro hp4 (And.intro h41 h42))
           clear hj4 hp4 h41 h42)
        | (go_at_call_of 34 (Value.int .u32 m2)
           refine K3.out.mono ?_
           rintro e w5 ⟨rfl, far2, hj5, hp5, h51, h52⟩
           have H5 := keep (And.intro hj5 (And.intro hp5 (And.intro h51 h52)))
           clear hj5 hp5 h51 h52))
      go_end0
      refine ⟨rfl, { Gt with far := far2 }, ⟨by
        have h9 := H5.out.1
        rw [← EB.out] at h9
        exact h9, HG9.out, HF9.out _ _ H4.out.2.1 H4.out.2.2 H5.out.2.2.1 H5.out.2.2.2⟩, ?_⟩
      have hl := HR.out.la
      have ho := HR.out.oo
      refine ⟨hl.b, hl.k, hl.sb, hl.n, hl.wm, (hl.part.trans H4.out.1 fun i hi => .inl ?_).trans H5.out.2.1 fun i hi => .inl ?_, hl.o, hl.f⟩
      · rw [← ho]; exact hi
      · rw [← ho]; exact hi
    · intro x v9 w2 cnt1 hwx hlx hgx hrg2 hlt2 hg2 hs2 hen
      have hx := of_wf32 hwx
      obtain ⟨p, hp, rfl⟩ : ∃ p, Gt.pb x = some p ∧ v9 = .pointer (some ⟨p, 0, none⟩) := by
        unfold pgV at hgx
        cases hc : Gt.pb x with
        | none => rw [hc] at hgx; cases hgx
        | some p => rw [hc] at hgx; exact ⟨p, rfl, by injection hgx with h; exact h.symm⟩
      have hp2 : Part (fun i => i = w.heap.size) wr w2 := Part.of_grown hg2 fun i hi => by simpa using hi.symm
      have J2 := HR.out.ja.apart hp2 (fun i hi hc => by rw [HR.out.oo] at hi; have := HO.out i hi; omega) (fun i hi hc => by rw [HR.out.ff] at hi; have := HF.out i hi; omega)
      have hl := HR.out.la
      have L2 := keep (show Later w ⟨b, k, sb, N, v, pb, pc, far, wm, gs, rs, O, F⟩ w2 Gt from ⟨hl.b, hl.k, hl.sb, hl.n, hl.wm, hl.part.trans hp2 fun i hi => .inr (Nat.le_of_eq hi.symm), hl.o, hl.f⟩)
      have eb : Gt.b = b := hl.b
      have ek : Gt.k = k := hl.k
      have HP2 := keep hp
      have HXR := keep hx
      have HLT := keep (show w2.rangeLeft k w.heap.size < wr.rangeLeft k w.heap.size from by rw [hrg2.left_eq, hrg.left_eq]; exact hlt2)
      have HLQ := keep (show cnt1 < wr.rangeLeft k w.heap.size from by rw [hrg.left_eq]; exact hlt2)
      cases hle : le32 x n
      · have hne : x ≠ n := fun e => by rw [e, le32_self] at hle; cases hle
        have hxe : (x == n) = false := by simpa using hne
        have KL := Less_any x n
        rw [less32_le x n hne hx HN.out, hle] at KL
        replace KL := keep KL
        have HJ2 := keep (show DR w ⟨b, k, sb, N, v, pb, pc, far, wm, gs, rs, O, F⟩ j n (fun z => left z && !decide (z = x)) cnt1 Gt w2 from ⟨by rw [drop_stay hle]; exact J2, L2.out, HR.out.oo, HR.out.ff, HR.out.fr, by rw [drop_stay hle]; exact hrg2⟩)
        clear hrg hrg2 J2 hl hp2 hne hle hx hp eb ek hwx hlx hgx hg2 hs2
        go_wp2_with (go_at_call 33; refine (KL.out _).mono ?_; rintro e w' ⟨rfl, rfl⟩)
        go_roundw
        case rel => exact ⟨_, _, _, HJ2⟩
        case measure => exact HLT.out
      · have hcs : (x == n) = true ∨ ((x == n) = false ∧ Hid (∀ w, Calls Try.prog 33 #[.int .u32 x, .int .u32 n] w fun e w' => e = .returned (.bool true) ∧ w = w')) := by
          by_cases hne : x = n
          · exact .inl (by simpa using hne)
          · refine .inr ⟨by simpa using hne, keep ?_⟩
            have KL := Less_any x n
            rw [less32_le x n hne hx HN.out, hle] at KL
            exact KL
        have HLE := keep hle
        obtain ⟨hO', hP, hPl, hPa⟩ := J2.pa.op x p hp
        have a11 := hP.at_.1.2.2.2.2.2.2.2.2.2.2.2
        have hda0 : p ≠ w2.heap.size := fun e => by have := J2.olt _ hO'; omega
        have hpk : p ≠ k := by rw [← ek]; exact (map_cells J2.pa.map.block hP.blk).symm
        obtain ⟨da, hda⟩ : ∃ q, (Gt.pc x).da = q := ⟨_, rfl⟩
        rw [hda] at a11
        have HDA := keep hda
        have c0 := J2.c0
        rw [eb, ek] at c0
        replace J2 := keep J2
        have EBK := keep (And.intro eb ek)
        have HRG := keep hrg2
        have HPL := keep (show p < w2.heap.size from J2.out.olt _ hO')
        obtain ⟨q1, q2, q3⟩ := da
        dsimp only [Nat.zero_add] at a11
        clear hrg hrg2 hl hp2 hle hx hp eb ek hwx hlx hgx hg2 hs2 hO' hP hPl hPa hda
        rcases hcs with hxe | ⟨hxe, KL⟩
        all_goals
          go_wp2_with (first
            | (go_at_call 33; refine (KL.out _).mono ?_; rintro e w' ⟨rfl, rfl⟩)
            | (at_delete
               refine wpl_del_r _ rfl _ _ 60 rfl Try.underlying26 Try.underlying60 rfl HRG.out rfl (wf32 HXR.out.1 HXR.out.2) ?_
               intro w3 cnt3 hrg3 hle3 hg3 hs3
               have Q3 := HR.out.next HH.out.good.wf.kc HLE.out J2.out HP2.out (c2 := 0) (by funext z; cases hz : left z <;> by_cases e : z = x <;> simp [e]) hrg3 hg3
               have hb3 := Q3.1.c3
               have fz3 := Q3.1.fz 3
               have a3 := (World.cell?_of_block (a := ⟨p, 11, none⟩) (Q3.2.1.block p HPL.out hpk)).trans a11
               rw [HDA.out] at Q3
               rw [show ({ Gt with pb := fun y => if y = x then none else Gt.pb y } : Gh).b = b from EBK.out.1] at hb3 fz3
               have HL3 := keep (show cnt3 < wr.rangeLeft k w.heap.size from Nat.lt_of_le_of_lt hle3 HLQ.out)
               replace Q3 := keep Q3
               clear hrg3 hle3 hg3 hs3 c0 a11))
        all_goals
          have hos : IntKind.i64.wrap (((dropJ j n left).oct : Int) - (q2 : Int)) = ((dropJ j n left).oct : Int) - (q2 : Int) := by
            have h1 := Q3.out.2.2.2
            have h2 : (0 : Int) ≤ (((dropJ j n fun z => left z && !decide (z = x)).oct : Nat) : Int) := by omega
            have h3 : ((dropJ j n left).oct : Int) ≤ 65536 := by
              have := (HH.out.good.less fun y => !le32 y.a n || left y.a).le
              have h4 : (dropJ j n left).oct ≤ 65536 := this
              omega
            exact wrap_small (by omega) (by omega)
          have HOS := keep Q3.out.2.2.2
          generalize ((dropJ j n left).oct : Int) = oc at *
          refine wp_region_still_tail 13 (by kernel_rfl) (by kernel_rfl) ?_
          simp only [List.take_succ_cons, List.take_zero, List.drop_succ_cons, List.drop_zero]
          repeat still_step
          refine wpStill_nil ?_
          go_wp2
          go_roundw
          case rel =>
            have hb9 : b < w.heap.size := HO.out b (by have := HR.out.ja.ob; rw [HR.out.oo, EBK.out.1] at this; exact this)
            have J4 := Q3.out.1.setO (oc - (q2 : Int))
            have J5 := J4.1.step (Below.refl _ _).drew
            rw [show ({ Gt with pb := fun y => if y = x then none else Gt.pb y } : Gh).b = b from EBK.out.1] at J4
            have P4 : Part (fun i => i = b) w3 (w3.setCell ⟨b, 3, none⟩ (.int .i64 (oc - (q2 : Int)))).drew := J4.2.drew
            refine ⟨_, cnt3, { Gt with pb := fun y => if y = x then none else Gt.pb y }, keep ⟨?_, ?_, HR.out.oo, HR.out.ff, HR.out.fr, Q3.out.2.2.1.kept (grown_of_part P4) (fun e => ?_) (fun e => ?_)⟩⟩
            · rw [HOS.out, ← EBK.out.1]
              exact J5
            · have hl := L2.out
              refine ⟨hl.b, hl.k, hl.sb, hl.n, hl.wm, (hl.part.trans Q3.out.2.1 fun i hi => .inl ?_).trans P4 fun i hi => .inl ?_, hl.o, hl.f⟩
              · have := HR.out.ja.pa.ok
                rw [HR.out.oo, EBK.out.2] at this
                rw [hi]
                exact this
              · have := HR.out.ja.ob
                rw [HR.out.oo, EBK.out.1] at this
                rw [hi]
                exact this
            · have h1 := HR.out.ja.only_b.k
              rw [EBK.out.1, EBK.out.2] at h1
              injection e with e
              exact h1 e.symm
            · injection e with e
              exact absurd e (Nat.ne_of_gt hb9)
          case measure =>
            have hb9 : b < w.heap.size := HO.out b (by have := HR.out.ja.ob; rw [HR.out.oo, EBK.out.1] at this; exact this)
            have J4 := Q3.out.1.setO (oc - (q2 : Int))
            rw [show ({ Gt with pb := fun y => if y = x then none else Gt.pb y } : Gh).b = b from EBK.out.1] at J4
            have P4 : Part (fun i => i = b) w3 (w3.setCell ⟨b, 3, none⟩ (.int .i64 (oc - (q2 : Int)))).drew := J4.2.drew
            have hr := Q3.out.2.2.1.kept (grown_of_part P4) (fun e => by
              have h1 := HR.out.ja.only_b.k
              rw [EBK.out.1, EBK.out.2] at h1
              injection e with e
              exact h1 e.symm) (fun e => by
              injection e with e
              exact absurd e (Nat.ne_of_gt hb9))
            have h2 := hr.left_eq
            rw [h2]
            exact HL3.out
end Go.Proofs.Ythpcblbciidmeaa
