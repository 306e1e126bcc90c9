/- Package audio: Hear, Pull. -/
import Derived.Test.YtacmfoljbjdcjaaU9
import Derived.Laws.ResultCell
namespace Go.Proofs.Ytacmfoljbjdcjaa
open Go.RowKit Go.Maps
set_option linter.unusedVariables false
set_option linter.unusedSimpArgs false

theorem FA.more {lo : Nat} {ow : Ow} {R : Gf} {W : World} (h1 : FA lo ow R W) : FA lo ow { R with u := R.u + 1 } W := ⟨h1.hd, h1.ob, h1.rw, h1.oj, fun n m hm => by
    obtain ⟨a1, a2, a3, a4⟩ := h1.ms n m hm
    exact ⟨a1, a2, a3, by show m.lost ≤ R.u + 1; omega⟩, h1.ok, h1.lo, h1.np, h1.rm⟩
def moreM (M : Fm) : Fm := { M with u := M.u + 1 }
def hearE (M : Fm) (p : Int) (kd : Int) (n : Nat) : Int := if hasB M p = false then 1 else if fE kd n ≠ 0 then fE kd n else if (M.at p).isSome = true then 0 else 11
def hearM (M : Fm) (p : Int) (y : Pk) : Fm := if hearE M p y.kd y.bs.length = 0 then handTo (moreM M) p.toNat y M.np else M
def hearN (M : Fm) (p : Int) (y : Pk) : Nat := if hearE M p y.kd y.bs.length = 0 then handN (moreM M) p.toNat y M.np else 0
section
variable {lo : Nat} {ow : Ow} {R : Gf} {W : World}
set_option maxHeartbeats 4000000 in
set_option maxRecDepth 1000000 in
theorem Hear_any (h : FA lo ow R W) (p : Int) (ym : Bool) (yk yq yt yo : Int) {A : Option Addr} {n c : Nat} {bs : List UInt8} (hd : BS W A n c bs) (hu : R.u ≤ 100000) :
    Calls Try.prog 19 #[ptr R.b, .int .i64 p, .agg #[.bool ym, .int .u8 yk, .int .u16 yq, .int .u32 yt, .int .u32 yo, .slice A n c]] W fun e w' => e = .returned (.tuple #[.int .i64 (hearN R.fm p ⟨ym, yk, yq, yt, yo, bs⟩ : Nat), .int .i64 (hearE R.fm p yk n)]) ∧ FP lo ow W R.b R.r (hearM R.fm p ⟨ym, yk, yq, yt, yo, bs⟩) w' := by
  have b1 := below_lay W (.cells #[.bool ym, .int .u8 yk, .int .u16 yq, .int .u32 yt, .int .u32 yo, .slice A n c] 26)
  have h1 := h.step b1
  have K := keep (has_any h1 p)
  obtain ⟨d0, d1⟩ := h1.c0
  have hnl := hd.len
  have HS := keep (show ∀ w', Below W.heap.size W w' → FP lo ow W R.b R.r R.fm w' from fun w' hb => FP.of h.fl hb)
  have HB1 := keep b1
  have bad : hearE R.fm p yk n ≠ 0 → hearN R.fm p ⟨ym, yk, yq, yt, yo, bs⟩ = 0 ∧ hearM R.fm p ⟨ym, yk, yq, yt, yo, bs⟩ = R.fm := fun hb => by
    unfold hearN hearM
    dsimp only
    rw [← hnl, if_neg hb, if_neg hb]
    exact ⟨rfl, rfl⟩
  cases hb : hasB R.fm p with
  | false =>
    have e1 : hearE R.fm p yk n = 1 := by unfold hearE; rw [if_pos hb]
    obtain ⟨e2, e3⟩ := bad (by rw [e1]; decide)
    rw [e2, e3, e1]
    rw [hb] at K
    clear h h1 hd hu b1 d0 d1 hnl bad e1 e2 e3 hb
    unfold ptr at K ⊢
    go_enter Try.func19, Try.ntmps19
    go_wp2_with (go_at_call 36; refine K.out.mono ?_; rintro e w2 ⟨rfl, rfl⟩)
    go_ret2
    exact ⟨rfl, HS.out _ HB1.out⟩
  | true =>
    rw [hb] at K
    have q0 : ¬ hasB R.fm p = false := by rw [hb]; decide
    have KF := keep fun w => fault_any ym yk yq yt yo A n c w
    obtain ⟨k, hk⟩ : ∃ k, fE yk n = k := ⟨_, rfl⟩
    rw [hk] at KF
    by_cases hk0 : k = 0
    case neg =>
      have e1 : hearE R.fm p yk n = k := by unfold hearE; rw [if_neg q0, hk, if_pos hk0]
      obtain ⟨e2, e3⟩ := bad (by rw [e1]; exact hk0)
      rw [e2, e3, e1]
      have hkn : (k == 0) = false := by simpa using hk0
      clear h h1 hd hu b1 d0 d1 hnl bad e1 e2 e3 hb q0 hk
      unfold ptr at K ⊢
      go_enter Try.func19, Try.ntmps19
      go_wp2_with (first | (go_at_call 36; refine K.out.mono ?_; rintro e w2 ⟨rfl, rfl⟩) | (go_at_call 24; refine (KF.out _).mono ?_; rintro e w2 ⟨rfl, hb2⟩; have HB2 := keep (HB1.out.trans (hb2.mono HB1.out.size)); clear hb2))
      go_ret2
      exact ⟨rfl, HS.out _ HB2.out⟩
    case pos =>
      subst hk0
      obtain ⟨nn, rfl, hn, hat, _, _⟩ := h.pa_has hb
      have hfm := R.at_fm (nn : Int)
      have hnI : (nn : Int) < (R.np : Int) := by omega
      have HD1 := keep (show ∀ w, Below (W.alloc (.cells #[.bool ym, .int .u8 yk, .int .u16 yq, .int .u32 yt, .int .u32 yo, .slice A n c] 26)).heap.size (W.alloc (.cells #[.bool ym, .int .u8 yk, .int .u16 yq, .int .u32 yt, .int .u32 yo, .slice A n c] 26)) w → w.cell? ⟨R.b, 1, none⟩ = some (.slice (some ⟨R.r, 0, none⟩) R.np R.np) ∧ w.cell? ⟨R.r, nn, none⟩ = some (R.pa (nn : Int)) ∧ w.heap[W.heap.size]? = some (.cells #[.bool ym, .int .u8 yk, .int .u16 yq, .int .u32 yt, .int .u32 yo, .slice A n c] 26) from fun w hb => by
        have h2 := h1.step hb
        obtain ⟨_, c1⟩ := h2.c0
        obtain ⟨n9, e9, _, _, c2, _⟩ := h2.pa_has (p := (nn : Int)) (by assumption)
        obtain rfl : nn = n9 := by omega
        exact ⟨c1, c2, (hb.block _ (by simp)).trans (heap_alloc_new W _)⟩)
      have hfl := hk
      cases hm : R.at (nn : Int) with
      | none =>
        rw [hm] at hfm
        have e1 : hearE R.fm (nn : Int) yk n = 11 := by unfold hearE; rw [if_neg q0, hk, if_neg (by decide), if_neg (by rw [hfm]; decide)]
        obtain ⟨e2, e3⟩ := bad (by rw [e1]; decide)
        rw [e2, e3, e1]
        unfold Gf.pa at HD1
        rw [hm] at HD1
        dsimp only at HD1
        clear h h1 hd hu b1 d0 d1 hnl bad e1 e2 e3 hb q0 hk hfl hfm hat hm
        unfold ptr at K ⊢
        go_enter Try.func19, Try.ntmps19
        go_wp2_with (first | (go_at_call 36; refine K.out.mono ?_; rintro e w2 ⟨rfl, rfl⟩) | (go_at_call 24; refine (KF.out _).mono ?_; rintro e w2 ⟨rfl, hb2⟩; have HB2 := keep (HB1.out.trans (hb2.mono HB1.out.size)); obtain ⟨c1, c2, _⟩ := HD1.out w2 hb2; clear hb2))
        go_ret2
        exact ⟨rfl, HS.out _ HB2.out⟩
      | some m =>
        rw [hm] at hfm
        have e1 : hearE R.fm (nn : Int) yk n = 0 := by unfold hearE; rw [if_neg q0, hk, if_neg (by decide), if_pos (by rw [hfm]; rfl)]
        have e2 : hearN R.fm (nn : Int) ⟨ym, yk, yq, yt, yo, bs⟩ = handN (moreM R.fm) nn ⟨ym, yk, yq, yt, yo, bs⟩ R.np := by unfold hearN; dsimp only; rw [← hnl, if_pos e1]; rfl
        have e3 : hearM R.fm (nn : Int) ⟨ym, yk, yq, yt, yo, bs⟩ = handTo (moreM R.fm) nn ⟨ym, yk, yq, yt, yo, bs⟩ R.np := by unfold hearM; dsimp only; rw [← hnl, if_pos e1]; rfl
        rw [e2, e3, e1]
        unfold Gf.pa at HD1
        rw [hm] at HD1
        dsimp only at HD1
        have hn1188 : n ≤ 1188 := by
          unfold fE at hk
          split at hk
          · cases hk
          · split at hk
            · cases hk
            · omega
        have HH := keep (And.intro h (And.intro hd (And.intro hu (And.intro hn1188 (And.intro hn hnl)))))
        have KC := keep fun w (hb : Below W.heap.size W w) => bclone_any A n c bs w (hd.step hb) (by omega)
        have HBo := keep (show ow W.heap.size = none from h.ok.free (Nat.le_refl _))
        clear h h1 hd hu b1 d0 d1 hnl bad e1 e2 e3 hb q0 hk hfl hfm hat hm hn hn1188 HS
        unfold ptr at K HD1 ⊢
        go_enter Try.func19, Try.ntmps19
        go_wp2_with (first | (go_at_call 36; refine K.out.mono ?_; rintro e w2 ⟨rfl, rfl⟩) | (go_at_call 24; refine (KF.out _).mono ?_; rintro e w2 ⟨rfl, hb2⟩; have HB2 := keep (HB1.out.trans (hb2.mono HB1.out.size)); have HR2 := keep (HD1.out w2 hb2); obtain ⟨c1, c2, c3⟩ := HR2.out; have c9 := upd_cell c3 5 _ rfl; clear hb2 c3))
        refine (KC.out _ HB2.out).mono ?_
        rintro e w3 ⟨A5, n5, c5, rfl, hbs, hb3, hbl, _⟩
        have g3 : w3.heap[W.heap.size]? = some (.cells #[.bool ym, .int .u8 yk, .int .u16 yq, .int .u32 yt, .int .u32 yo, .slice A n c] 26) := (hb3.block _ (Array.getElem?_eq_some_iff.1 HR2.out.2.2).1).trans HR2.out.2.2
        have hHB := (Array.getElem?_eq_some_iff.1 HR2.out.2.2).1
        have g4 := heap_setCell_same w3 W.heap.size 5 _ _ (.slice A5 n5 c5) g3
        have hb23 := HB2.out.trans (hb3.mono HB2.out.size)
        obtain ⟨r1, r2⟩ := HH.out.1.dat hb23 (A := A5) (fun a ha => ⟨Nat.le_trans HB2.out.size (hbl a ha).1, (hbl a ha).2⟩)
        have hp4 : Part (fun i => i = W.heap.size) w3 (w3.setCell ⟨W.heap.size, 5, none⟩ (.slice A5 n5 c5)) := part_one w3 W.heap.size 5 _ rfl
        have hto : owD ow A5 W.heap.size = none := by
          cases hA : A5 with
          | none => exact HBo.out
          | some a => exact (put_other (by have := (hbl a hA).1; omega)).trans HBo.out
        have r4 := (r1.beside hp4 (fun i hi => by rw [hi]; exact hto)).more
        have hiv : IV (owD ow A5) (w3.setCell ⟨W.heap.size, 5, none⟩ (.slice A5 n5 c5)) ⟨ym, yk, yq, yt, yo, (A5, n5, c5), bs⟩ := ⟨bs_part hbs hp4 (fun a ha e => by have := (hbl a ha).1; omega), fun a ha => ⟨by obtain rfl : A5 = some a := ha; exact put_same, Nat.lt_of_lt_of_le (hbl a ha).2 hp4.size⟩, by show bs.length ≤ 1188; have := HH.out.2.2.2.1; have := HH.out.2.2.2.2.2; omega⟩
        have HPa := keep (show Part (All ow) W (w3.setCell ⟨W.heap.size, 5, none⟩ (.slice A5 n5 c5)) from (Part.of_below (All ow) hb23).trans hp4 fun i hi => .inr (by omega))
        have KH := keep ((hand_any r4 HH.out.2.2.2.2.1 hiv (fun n m hm => by have := (HH.out.1.ms n m hm).2.2.2; show m.lost + 1 ≤ R.u + 1; omega) (by show R.u + 1 ≤ 100001; have := HH.out.2.2.1; omega)).mono fun e w' ⟨x1, x2⟩ => (⟨x1, FP.then r2 HPa.out x2⟩ : _ ∧ FP lo ow W R.b R.r _ w'))
        have u0 := upd_cell g4 0 _ rfl
        have u1 := upd_cell g4 1 _ rfl
        have u2 := upd_cell g4 2 _ rfl
        have u3 := upd_cell g4 3 _ rfl
        have u4 := upd_cell g4 4 _ rfl
        have u5 := upd_cell g4 5 _ rfl
        have v5 := upd_fz g3 5
        have v6 := upd_cell g3 5 _ rfl
        have HGO := keep g4
        dsimp only [Pv.pk] at KH
        unfold ptr at KH
        clear g3 g4 hb23 hHB r1 r2 r4 hp4 hto hiv hbs hb3 hbl HPa c1 c2 c9 KF KC K HD1
        go_wp2_with (go_at_call 38; refine KH.out.mono ?_; rintro e w7 ⟨rfl, hR7⟩; have HR7 := keep hR7; clear hR7)
        go_ret2
        exact ⟨rfl, HR7.out⟩
end
/-- The block g holds a packet. -/
def IB (w : World) (g : Nat) (x : Pv) : Prop := w.heap[g]? = some (.cells x.cells.toArray 26 (0, 0))
section
variable {w W : World} {g : Nat} {x : Pv}
theorem IB.c0 (h : IB w g x) : w.cell? ⟨g, 0, none⟩ = some (.bool x.mr) ∧ w.cell? ⟨g, 1, none⟩ = some (.int .u8 x.kd) ∧ w.cell? ⟨g, 2, none⟩ = some (.int .u16 x.sq) ∧ w.cell? ⟨g, 3, none⟩ = some (.int .u32 x.st) ∧ w.cell? ⟨g, 4, none⟩ = some (.int .u32 x.so) ∧ w.cell? ⟨g, 5, none⟩ = some (.slice x.da.1 x.da.2.1 x.da.2.2) :=
  ⟨upd_cell h 0 _ rfl, upd_cell h 1 _ rfl, upd_cell h 2 _ rfl, upd_cell h 3 _ rfl, upd_cell h 4 _ rfl, upd_cell h 5 _ rfl⟩
theorem IB.fz (h : IB w g x) : w.frozen? ⟨g, 0, none⟩ = false ∧ w.frozen? ⟨g, 1, none⟩ = false ∧ w.frozen? ⟨g, 2, none⟩ = false ∧ w.frozen? ⟨g, 3, none⟩ = false ∧ w.frozen? ⟨g, 4, none⟩ = false ∧ w.frozen? ⟨g, 5, none⟩ = false := ⟨upd_fz h 0, upd_fz h 1, upd_fz h 2, upd_fz h 3, upd_fz h 4, upd_fz h 5⟩
theorem IB.lt (h : IB w g x) : g < w.heap.size := (Array.getElem?_eq_some_iff.1 h).1
theorem IB.put0 (h : IB w g x) (v : Bool) : IB (w.setCell ⟨g, 0, none⟩ (.bool v)) g { x with mr := v } := heap_setCell_same w g 0 _ _ _ h
theorem IB.put1 (h : IB w g x) (v : Int) : IB (w.setCell ⟨g, 1, none⟩ (.int .u8 v)) g { x with kd := v } := heap_setCell_same w g 1 _ _ _ h
theorem IB.put2 (h : IB w g x) (v : Int) : IB (w.setCell ⟨g, 2, none⟩ (.int .u16 v)) g { x with sq := v } := heap_setCell_same w g 2 _ _ _ h
theorem IB.put3 (h : IB w g x) (v : Int) : IB (w.setCell ⟨g, 3, none⟩ (.int .u32 v)) g { x with st := v } := heap_setCell_same w g 3 _ _ _ h
theorem IB.put4 (h : IB w g x) (v : Int) : IB (w.setCell ⟨g, 4, none⟩ (.int .u32 v)) g { x with so := v } := heap_setCell_same w g 4 _ _ _ h
theorem IB.put5 (h : IB w g x) (v : Option Addr × Nat × Nat) : IB (w.setCell ⟨g, 5, none⟩ (.slice v.1 v.2.1 v.2.2)) g { x with da := v } := heap_setCell_same w g 5 _ _ _ h
theorem IB.laid6 {x : Pv} (h : IB w g x) (y : Pv) : IB ((((((w.setCell ⟨g, 0, none⟩ (.bool y.mr)).setCell ⟨g, 1, none⟩ (.int .u8 y.kd)).setCell ⟨g, 2, none⟩ (.int .u16 y.sq)).setCell ⟨g, 3, none⟩ (.int .u32 y.st)).setCell ⟨g, 4, none⟩ (.int .u32 y.so)).setCell ⟨g, 5, none⟩ (.slice y.da.1 y.da.2.1 y.da.2.2)) g y :=
  (((((h.put0 y.mr).put1 y.kd).put2 y.sq).put3 y.st).put4 y.so).put5 y.da
theorem IB.of (h : IB w g x) (hb : W.heap[g]? = w.heap[g]?) : IB W g x := hb.trans h
end
theorem part6 {S : Nat → Prop} (w : World) (g : Nat) (hg : S g) (x0 x1 x2 x3 x4 x5 : Value) : Part S w ((((((w.setCell ⟨g, 0, none⟩ x0).setCell ⟨g, 1, none⟩ x1).setCell ⟨g, 2, none⟩ x2).setCell ⟨g, 3, none⟩ x3).setCell ⟨g, 4, none⟩ x4).setCell ⟨g, 5, none⟩ x5) := by
  have t : ∀ {a b c : World}, Part S a b → Part S b c → Part S a c := fun p q => p.trans q fun i hi => .inl hi
  exact t (t (t (t (t (part_one w g 0 x0 hg) (part_one _ g 1 x1 hg)) (part_one _ g 2 x2 hg)) (part_one _ g 3 x3 hg)) (part_one _ g 4 x4 hg)) (part_one _ g 5 x5 hg)
theorem ret_pkt {fn : Func} {p u : Tmp} (hr : fn.results = #[.cell p 26, .tmp u]) (tmps : Array Value) (w : World) (g : Nat) (x : Pv) (hp : tmps.getD p undef = .pointer (some ⟨g, 0, none⟩)) (h : IB w g x) :
    (results fn tmps).run Try.prog w = .ok (.tuple #[.agg x.cells.toArray, tmps.getD u undef]) w := by
  rw [results_cell_tmp hr, hp]
  have := run_loadVar_row w g _ 26 x.cells.toArray (0, 0) _ h Try.underlying26 rfl (by first | kernel_rfl | rfl)
  simp [asAddr, this]
def pkZ : Pk := ⟨false, 0, 0, 0, 0, []⟩
def pullM (M : Fm) (p : Int) : Fm := match M.at p with
  | some x => { M with P := putN M.P p.toNat (some { x with ws := x.ws.drop 1 }) }
  | none => M
def pullI (M : Fm) (p : Int) : Pk := match M.at p with
  | some x => x.ws.headD pkZ
  | none => pkZ
def pullB (M : Fm) (p : Int) : Bool := match M.at p with
  | some x => !x.ws.isEmpty
  | none => false
/-- A packet in new memory is told; none of the forwarder's blocks is among it. -/
def PullP (lo : Nat) (ow : Ow) (w : World) (b r : Nat) (M : Fm) (y : Pk) (ok : Bool) (e : Ending) (w' : World) : Prop := ∃ A n c ow', e = .returned (.tuple #[.agg #[.bool y.mr, .int .u8 y.kd, .int .u16 y.sq, .int .u32 y.st, .int .u32 y.so, .slice A n c], .bool ok]) ∧ BS w' A n c y.bs ∧ w'.ownsRow w.heap.size 5 1 (.slice A n c) n (bc y.bs) ∧
  FL lo ow' b r M w' ∧ Ext w ow ow' ∧ Part (All ow) w w' ∧ ∀ a, A = some a → ow' a.block = none
theorem LA.ir {lo n : Nat} {ow : Ow} {m : Gl} {W : World} (h : LA lo ow n m W) (hne : m.ws ≠ []) : ∃ g, m.v.1 = some ⟨g, 0, none⟩ ∧ IR g m.v.2.2 m.ws W ∧ m.v.2.1 = m.ws.length ∧ lo ≤ g ∧ m.v.2.2 ≤ maxLen := by
  have hv := h.vlen
  rcases h.wt.2 with ⟨h0, h1⟩ | ⟨g, cap, cur, hw, _⟩
  · exact absurd (List.length_eq_zero_iff.1 h1) hne
  · unfold Gl.sl at hw
    injection hw with e1 e2 e3
    have h2 := h.wt
    unfold Gl.sl at h2
    rw [e1, hv] at h2
    obtain ⟨r1, r2, r3, r4, r5⟩ := IR.of_own h2
    exact ⟨g, e1, r1, hv, r5, r4⟩
section
variable {lo : Nat} {ow : Ow} {R : Gf} {W : World}
set_option maxHeartbeats 8000000 in
set_option maxRecDepth 1000000 in
theorem Pull_any (h : FA lo ow R W) (p : Int) :
    Calls Try.prog 20 #[ptr R.b, .int .i64 p] W fun e w' => PullP lo ow W R.b R.r (pullM R.fm p) (pullI R.fm p) (pullB R.fm p) e w' := by
  have hB1 := below_lay W (.cells #[.bool false, .int .u8 0, .int .u16 0, .int .u32 0, .int .u32 0, .slice none 0 0] 26)
  have h1 := h.step hB1
  have K := keep (listener_any h1 p)
  unfold Gf.pa at K
  have hat := R.at_fm p
  have HZ := keep (show IB (W.alloc (.cells #[.bool false, .int .u8 0, .int .u16 0, .int .u32 0, .int .u32 0, .slice none 0 0] 26)) W.heap.size pvZ from heap_alloc_new W _)
  obtain ⟨f0, f1, f2, f3z, f4, f5⟩ := HZ.out.fz
  obtain ⟨z0, z1, z2, z3, z4, z5⟩ := HZ.out.c0
  have hno : (∀ x, R.fm.at p = some x → x.ws = []) → pullI R.fm p = pkZ ∧ pullB R.fm p = false ∧ pullM R.fm p = R.fm := fun hw => by
    unfold pullI pullB pullM
    cases hm : R.fm.at p with
    | none => exact ⟨rfl, rfl, rfl⟩
    | some x =>
      have h0 := hw x hm
      dsimp only
      rw [h0]
      refine ⟨rfl, rfl, ?_⟩
      have : putN R.fm.P p.toNat (some { x with ws := List.drop 1 [] }) = R.fm.P := putN_self (by
        unfold Fm.at at hm
        split at hm
        · rw [hm]
          congr 1
          cases x
          dsimp only at h0 ⊢
          rw [h0]
          rfl
        · cases hm)
      rw [this]
  have HNo := keep (show ∀ w', Below W.heap.size W w' → (∀ x, R.fm.at p = some x → x.ws = []) → PullP lo ow W R.b R.r (pullM R.fm p) (pullI R.fm p) (pullB R.fm p) (.returned (.tuple #[.agg pvZ.cells.toArray, .bool false])) w' from fun w' hb hw => by
    obtain ⟨e1, e2, e3⟩ := hno hw
    rw [e1, e2, e3]
    exact ⟨none, 0, 0, ow, rfl, BS.nil _, ⟨rfl, .inl ⟨rfl, rfl⟩⟩, h.fl.step hb, Ext.refl W ow, Part.of_below _ hb, fun a ha => (by cases ha)⟩)
  cases hm : R.at p with
  | none =>
    rw [hm] at K hat
    dsimp only at K
    have HN := keep (HNo.out _ hB1 (fun x hx => by rw [hat] at hx; cases hx))
    clear h h1 hat hm hno HNo hB1 z0 z1 z2 z3 z4 z5
    unfold ptr at K ⊢
    go_enter Try.func20, Try.ntmps20
    go_wp2_with (go_at_call 39; refine K.out.mono ?_; rintro e w2 ⟨rfl, rfl⟩)
    exact bodyPost_ret (ret_pkt (p := 4) (u := 5) rfl _ _ W.heap.size pvZ rfl HZ.out) rfl HN.out
  | some m =>
    obtain ⟨a1, a2, a3, a4, a5, a6⟩ := h.at_ms hm
    rw [hm] at K hat
    dsimp only [Option.map] at K hat
    have q1 := a3.step hB1
    have hvl := a3.vlen
    have hwl := a3.wl
    by_cases hw : m.ws = []
    · have d1 : (W.alloc (.cells #[.bool false, .int .u8 0, .int .u16 0, .int .u32 0, .int .u32 0, .slice none 0 0] 26)).cell? ⟨m.b, 64, none⟩ = some (.slice m.v.1 0 m.v.2.2) := by
        have := q1.c64.1
        unfold Gl.sl at this
        rw [hvl, hw] at this
        exact this
      have HN := keep (HNo.out _ hB1 (fun x hx => by rw [hat] at hx; injection hx with hx; rw [← hx]; unfold Gl.lm; dsimp only; rw [hw]; rfl))
      clear h h1 hat hm hno HNo hB1 z0 z1 z2 z3 z4 z5 a1 a2 a3 a4 a5 a6 q1 hvl hwl hw
      unfold ptr at K ⊢
      go_enter Try.func20, Try.ntmps20
      go_wp2_with (go_at_call 39; refine K.out.mono ?_; rintro e w2 ⟨rfl, rfl⟩)
      exact bodyPost_ret (ret_pkt (p := 4) (u := 5) rfl _ _ W.heap.size pvZ rfl HZ.out) rfl HN.out
    · obtain ⟨y, r, hyr⟩ : ∃ y r, m.ws = y :: r := by
        cases hq : m.ws with
        | nil => exact absurd hq hw
        | cons y r => exact ⟨y, r, rfl⟩
      obtain ⟨g, hg, hir, hgn, hgl, hgm⟩ := q1.ir hw
      have hgo : ow g = some (.wt p.toNat) := a3.ov ⟨g, 0, none⟩ hg
      have hy0 : m.ws[0]? = some y := by rw [hyr]; rfl
      obtain ⟨g0, g1, g2, g3, g4, g5⟩ := hir.at_ hy0
      have hyv := a3.iv y (by rw [hyr]; exact List.mem_cons_self ..)
      obtain ⟨n1, hn1⟩ : ∃ n1, m.v.2.1 = n1 + 1 := ⟨r.length, by rw [hvl, hyr]; rfl⟩
      have hptw : m.lm.ws = y.pk :: r.map Pv.pk := by unfold Gl.lm; dsimp only; rw [hyr]; rfl
      have eI : pullI R.fm p = y.pk := by unfold pullI; rw [hat]; dsimp only; rw [hptw]; rfl
      have eB : pullB R.fm p = true := by unfold pullB; rw [hat]; dsimp only; rw [hptw]; rfl
      have eM : pullM R.fm p = { R.fm with P := putN R.fm.P p.toNat (some { m.lm with ws := r.map Pv.pk }) } := by unfold pullM; rw [hat]; dsimp only; rw [hptw]; rfl
      rw [eI, eB, eM]
      obtain ⟨ym, yk, yq, ys, yo, ⟨y1, y2, y3⟩, yb⟩ := y
      dsimp only [Pv.pk] at g0 g1 g2 g3 g4 g5 hyv ⊢
      rw [Nat.zero_mul] at g0
      rw [Nat.zero_mul, Nat.zero_add] at g1 g2 g3 g4 g5
      have b2 := below_lay (W.alloc (.cells #[.bool false, .int .u8 0, .int .u16 0, .int .u32 0, .int .u32 0, .slice none 0 0] 26)) (.cells #[.bool ym, .int .u8 yk, .int .u16 yq, .int .u32 ys, .int .u32 yo, .slice y1 y2 y3] 26)
      have b3 := hB1.trans (b2.mono hB1.size)
      have s1_ : (W.alloc (.cells #[.bool false, .int .u8 0, .int .u16 0, .int .u32 0, .int .u32 0, .slice none 0 0] 26)).heap.size = W.heap.size + 1 := by simp
      have q2 := a3.step b3
      have o2 := h.ok.step b3.size
      have ir2 := hir.of (b2.block g hir.lt)
      have KD := Delete_one g m.v.2.1 m.v.2.2 0 m.ws ((W.alloc (.cells #[.bool false, .int .u8 0, .int .u16 0, .int .u32 0, .int .u32 0, .slice none 0 0] 26)).alloc (.cells #[.bool ym, .int .u8 yk, .int .u16 yq, .int .u32 ys, .int .u32 yo, .slice y1 y2 y3] 26)) ir2 hgn (by omega) (by omega)
      have HD2 := keep (show ∀ w3, IR g m.v.2.2 (m.ws.eraseIdx 0) w3 → Part (fun k => k = g) ((W.alloc (.cells #[.bool false, .int .u8 0, .int .u16 0, .int .u32 0, .int .u32 0, .slice none 0 0] 26)).alloc (.cells #[.bool ym, .int .u8 yk, .int .u16 yq, .int .u32 ys, .int .u32 yo, .slice y1 y2 y3] 26)) w3 → (w3.cell? ⟨m.b, 64, none⟩ = some (.slice (some ⟨g, 0, none⟩) m.v.2.1 m.v.2.2) ∧ w3.frozen? ⟨m.b, 64, none⟩ = false) ∧ IB (w3.setCell ⟨m.b, 64, none⟩ (.slice (some ⟨g, 0, none⟩) n1 m.v.2.2)) W.heap.size pvZ ∧ IB (w3.setCell ⟨m.b, 64, none⟩ (.slice (some ⟨g, 0, none⟩) n1 m.v.2.2)) (W.heap.size + 1) ⟨ym, yk, yq, ys, yo, (y1, y2, y3), yb⟩ ∧ BS (w3.setCell ⟨m.b, 64, none⟩ (.slice (some ⟨g, 0, none⟩) n1 m.v.2.2)) y1 y2 y3 yb ∧ ∃ ow', (ow' W.heap.size = none ∧ ow' (W.heap.size + 1) = none) ∧ FL lo ow' R.b R.r { R.fm with P := putN R.fm.P p.toNat (some { m.lm with ws := r.map Pv.pk }) } (w3.setCell ⟨m.b, 64, none⟩ (.slice (some ⟨g, 0, none⟩) n1 m.v.2.2)) ∧ Ext W ow ow' ∧ Part (All ow) W (w3.setCell ⟨m.b, 64, none⟩ (.slice (some ⟨g, 0, none⟩) n1 m.v.2.2)) from fun w3 hr hpt => by
        have hbw : ow W.heap.size = none := h.ok.free (Nat.le_refl _)
        have hbw1 : ow (W.heap.size + 1) = none := h.ok.free (Nat.le_succ _)
        have hel : (m.ws.eraseIdx 0).length = n1 := by rw [hyr]; show r.length = n1; have := congrArg List.length hyr; simp at this; omega
        obtain ⟨s1, s2, s3, s4⟩ := q2.wait o2 (W1 := w3) (A := some ⟨g, 0, none⟩) (k := n1) (c := m.v.2.2) (ws := m.ws.eraseIdx 0) hel.symm (hpt.mono fun k hk => ⟨_, hg, hk⟩) (hr.own hel.symm hgl hgm) (fun a ha => .inl (hg.trans ha)) (fun z hz => q2.iv z (List.mem_of_mem_eraseIdx hz)) (by omega)
        obtain ⟨cur, hc1, hc2⟩ := q2.hd
        have hb3 : w3.heap[m.b]? = some (.cells cur 83 (0, 0)) := (hpt.block m.b q2.lt (tag_ne q2.ob hgo (by simp))).trans hc1
        have hsl : m.sl = .slice (some ⟨g, 0, none⟩) m.v.2.1 m.v.2.2 := by unfold Gl.sl; rw [hg]
        have hsz : W.heap.size + 1 < ((W.alloc (.cells #[.bool false, .int .u8 0, .int .u16 0, .int .u32 0, .int .u32 0, .slice none 0 0] 26)).alloc (.cells #[.bool ym, .int .u8 yk, .int .u16 yq, .int .u32 ys, .int .u32 yo, .slice y1 y2 y3] 26)).heap.size := Nat.lt_of_lt_of_le (Nat.lt_succ_self _) (Nat.le_of_eq (show W.heap.size + 2 = ((W.alloc (.cells #[.bool false, .int .u8 0, .int .u16 0, .int .u32 0, .int .u32 0, .slice none 0 0] 26)).alloc (.cells #[.bool ym, .int .u8 yk, .int .u16 yq, .int .u32 ys, .int .u32 yo, .slice y1 y2 y3] 26)).heap.size by simp))
        have hZ2 : ((W.alloc (.cells #[.bool false, .int .u8 0, .int .u16 0, .int .u32 0, .int .u32 0, .slice none 0 0] 26)).alloc (.cells #[.bool ym, .int .u8 yk, .int .u16 yq, .int .u32 ys, .int .u32 yo, .slice y1 y2 y3] 26)).heap[W.heap.size]? = some (.cells #[.bool false, .int .u8 0, .int .u16 0, .int .u32 0, .int .u32 0, .slice none 0 0] 26 (0, 0)) := (b2.block W.heap.size (by omega)).trans HZ.out
        have hY2 : ((W.alloc (.cells #[.bool false, .int .u8 0, .int .u16 0, .int .u32 0, .int .u32 0, .slice none 0 0] 26)).alloc (.cells #[.bool ym, .int .u8 yk, .int .u16 yq, .int .u32 ys, .int .u32 yo, .slice y1 y2 y3] 26)).heap[W.heap.size + 1]? = some (.cells #[.bool ym, .int .u8 yk, .int .u16 yq, .int .u32 ys, .int .u32 yo, .slice y1 y2 y3] 26 (0, 0)) := by
          have := heap_alloc_new (W.alloc (.cells #[.bool false, .int .u8 0, .int .u16 0, .int .u32 0, .int .u32 0, .slice none 0 0] 26)) (.cells #[.bool ym, .int .u8 yk, .int .u16 yq, .int .u32 ys, .int .u32 yo, .slice y1 y2 y3] 26)
          rw [s1_] at this
          exact this
        have nof : ∀ {k : Nat}, ow k = none → ¬ Of ow p.toNat k := fun hk ⟨t, ht, _⟩ => by rw [hk] at ht; cases ht
        have hp5 : Part (Of ow p.toNat) W (w3.setCell ⟨m.b, 64, none⟩ (.slice (some ⟨g, 0, none⟩) n1 m.v.2.2)) := (Part.of_below (Of ow p.toNat) b3).trans s4 fun i hi => .inl hi
        have hext : Ext W ow (owA ow p.toNat (some ⟨g, 0, none⟩)) := fun k hk => s3 k (Nat.lt_of_lt_of_le hk b3.size)
        have hel2 : (m.ws.eraseIdx 0).map Pv.pk = r.map Pv.pk := by rw [hyr]; rfl
        obtain ⟨z1, z2⟩ := h.turn a2 s1 s2 hext hp5 rfl (by unfold Gl.lm; dsimp only; rw [List.length_map]; omega) a6
        have hpe : Gl.lm { m with v := (some ⟨g, 0, none⟩, n1, m.v.2.2), ws := m.ws.eraseIdx 0 } = { m.lm with ws := r.map Pv.pk } := by unfold Gl.lm; dsimp only; rw [hel2]
        rw [hpe] at z1
        have hgl2 : g < W.heap.size := h.ok.hi g _ hgo
        have hq1 : Part (fun k => k = m.b) w3 (w3.setCell ⟨m.b, 64, none⟩ (.slice (some ⟨g, 0, none⟩) n1 m.v.2.2)) := part_one w3 m.b 64 _ rfl
        have hmb := a3.lt
        have keepZ : ∀ k, k < ((W.alloc (.cells #[.bool false, .int .u8 0, .int .u16 0, .int .u32 0, .int .u32 0, .slice none 0 0] 26)).alloc (.cells #[.bool ym, .int .u8 yk, .int .u16 yq, .int .u32 ys, .int .u32 yo, .slice y1 y2 y3] 26)).heap.size → W.heap.size ≤ k → (w3.setCell ⟨m.b, 64, none⟩ (.slice (some ⟨g, 0, none⟩) n1 m.v.2.2)).heap[k]? = ((W.alloc (.cells #[.bool false, .int .u8 0, .int .u16 0, .int .u32 0, .int .u32 0, .slice none 0 0] 26)).alloc (.cells #[.bool ym, .int .u8 yk, .int .u16 yq, .int .u32 ys, .int .u32 yo, .slice y1 y2 y3] 26)).heap[k]? := fun k hk hk2 => (hq1.block k (Nat.lt_of_lt_of_le hk hpt.size) (by omega)).trans (hpt.block k hk (by omega))
        refine ⟨⟨(upd_cell hb3 64 m.sl hc2.sl).trans (congrArg some hsl), upd_fz hb3 64⟩, (keepZ _ (by omega) (Nat.le_refl _)).trans hZ2, (keepZ _ hsz (Nat.le_succ _)).trans hY2, ?_, _, ⟨(put_other (by show W.heap.size ≠ g; omega)).trans hbw, (put_other (by show W.heap.size + 1 ≠ g; omega)).trans hbw1⟩, z1, hext, z2⟩
        exact bs_part (hyv.bs.step b3) (s4.mono (S' := fun k => ow k ≠ some .dat) (fun k hk => hk.nd)) (fun a ha hs => hs (hyv.ut a ha).1))
      have KD1 := keep (show Calls Try.prog 40 #[.slice (some ⟨g, 0, none⟩) m.v.2.1 m.v.2.2, .int .i64 0, .int .i64 1] ((W.alloc (.cells #[.bool false, .int .u8 0, .int .u16 0, .int .u32 0, .int .u32 0, .slice none 0 0] 26)).alloc (.cells #[.bool ym, .int .u8 yk, .int .u16 yq, .int .u32 ys, .int .u32 yo, .slice y1 y2 y3] 26)) fun e w' => e = .returned (.slice (some ⟨g, 0, none⟩) n1 m.v.2.2) ∧ IR g m.v.2.2 (m.ws.eraseIdx 0) w' ∧ Part (fun i => i = g) ((W.alloc (.cells #[.bool false, .int .u8 0, .int .u16 0, .int .u32 0, .int .u32 0, .slice none 0 0] 26)).alloc (.cells #[.bool ym, .int .u8 yk, .int .u16 yq, .int .u32 ys, .int .u32 yo, .slice y1 y2 y3] 26)) w' from by
        have := KD
        rw [hn1] at this ⊢
        exact this)
      have d1 : (W.alloc (.cells #[.bool false, .int .u8 0, .int .u16 0, .int .u32 0, .int .u32 0, .slice none 0 0] 26)).cell? ⟨m.b, 64, none⟩ = some (.slice (some ⟨g, 0, none⟩) m.v.2.1 m.v.2.2) := by
        have := q1.c64.1
        unfold Gl.sl at this
        rw [hg] at this
        exact this
      have d1' : ((W.alloc (.cells #[.bool false, .int .u8 0, .int .u16 0, .int .u32 0, .int .u32 0, .slice none 0 0] 26)).alloc (.cells #[.bool ym, .int .u8 yk, .int .u16 yq, .int .u32 ys, .int .u32 yo, .slice y1 y2 y3] 26)).cell? ⟨m.b, 64, none⟩ = some (.slice (some ⟨g, 0, none⟩) m.v.2.1 m.v.2.2) := by
        have := q2.c64.1
        unfold Gl.sl at this
        rw [hg] at this
        exact this
      have hcl := hyv.le
      have hln := hyv.bs.len
      dsimp only at hcl hln
      have HLN := keep (show y2 ≤ 100000 by omega)
      have hn1I : (0 : Int) < (m.v.2.1 : Int) := by omega
      have hn1E : ((m.v.2.1 : Int) == 0) = false := by simp; omega
      obtain ⟨vn, hvn⟩ : ∃ vn, m.v.2.1 = vn := ⟨_, rfl⟩
      rw [hvn] at HD2 KD1 d1 d1' hn1I hn1E
      have hRu := keep (And.intro h.fl hB1.size)
      clear h h1 hat hm hno HNo hB1 a1 a2 a3 a4 a5 a6 q1 q2 o2 ir2 b2 b3 hvl hwl hw hir hgn hgl hgm hgo hy0 hyv hn1 hptw eI eB eM KD hcl hln hvn hyr hg s1_
      obtain ⟨mb, hmb⟩ : ∃ mb, m.b = mb := ⟨_, rfl⟩
      obtain ⟨vc, hvc⟩ : ∃ vc, m.v.2.2 = vc := ⟨_, rfl⟩
      rw [hmb, hvc] at HD2
      rw [hmb, hvc] at d1 d1'
      rw [hvc] at KD1
      unfold ptr at K ⊢
      rw [hmb] at K
      clear hmb hvc
      go_enter Try.func20, Try.ntmps20
      go_wp2_with (first | (go_at_call 39; refine K.out.mono ?_; rintro e w2 ⟨rfl, rfl⟩))
      refine KD1.out.mono ?_
      rintro e w3 ⟨rfl, hr3, hp3⟩
      obtain ⟨⟨c3, f3⟩, hz, hy, hbs, ow', ⟨t1, t2⟩, hRL, hE, hP⟩ := HD2.out w3 hr3 hp3
      have HY := keep hy
      have HZ4 := keep hz
      have HBS := keep hbs
      have HTT := keep (And.intro t1 t2)
      have HRL := keep (And.intro hRL (And.intro hE hP))
      obtain ⟨y0, y1', y2', y3', y4', y5'⟩ := hy.c0
      dsimp only at y5'
      clear hr3 hp3 hz hy hbs t1 t2 hRL hE hP z0 z1 z2 z3 z4 z5 f0 f1 f2 f3z f4 f5 g0 g1 g2 g3 g4 g5 d1 d1' hn1I hn1E HD2 K KD1 y0 y1' y2' y3' y4' HZ
      go_wp2_with fail
      obtain ⟨W4, hW4⟩ : ∃ W4, w3.setCell ⟨mb, 64, none⟩ (.slice (some ⟨g, 0, none⟩) n1 vc) = W4 := ⟨_, rfl⟩
      rw [hW4] at HY HZ4 HBS HRL ⊢
      clear hW4 y5' c3 f3
      refine (bclone_any y1 y2 y3 yb W4 HBS.out HLN.out).mono ?_
      rintro e w5 ⟨A5, n5, c5, rfl, hbs5, hb5, hbl5, how5⟩
      have HY5 := keep (HY.out.of (hb5.block _ HY.out.lt))
      have HZ5 := keep (HZ4.out.of (hb5.block _ HZ4.out.lt))
      have HYP := keep (HY5.out.put5 (A5, n5, c5))
      dsimp only at HYP
      have ht : ∀ {a b c : World}, Part (fun k => k = W.heap.size ∨ k = W.heap.size + 1) a b → Part (fun k => k = W.heap.size ∨ k = W.heap.size + 1) b c → Part (fun k => k = W.heap.size ∨ k = W.heap.size + 1) a c := fun p q => p.trans q fun i hi => .inl hi
      have hq1 := part_one (S := fun k => k = W.heap.size ∨ k = W.heap.size + 1) w5 (W.heap.size + 1) 5 (.slice A5 n5 c5) (.inr rfl)
      have HZP := keep (HZ5.out.of (W := w5.setCell ⟨W.heap.size + 1, 5, none⟩ (.slice A5 n5 c5)) ((part_one (S := fun k => k = W.heap.size + 1) w5 (W.heap.size + 1) 5 (.slice A5 n5 c5) rfl).block _ HZ5.out.lt (by omega)))
      have HRES := keep (HZP.out.laid6 ⟨ym, yk, yq, ys, yo, (A5, n5, c5), yb⟩)
      have hq2 := ht hq1 (part6 (S := fun k => k = W.heap.size ∨ k = W.heap.size + 1) (w5.setCell ⟨W.heap.size + 1, 5, none⟩ (.slice A5 n5 c5)) W.heap.size (.inl rfl) (.bool ym) (.int .u8 yk) (.int .u16 yq) (.int .u32 ys) (.int .u32 yo) (.slice A5 n5 c5))
      have hq4 : Part (fun k => k = W.heap.size ∨ k = W.heap.size + 1) W4 _ := (Part.of_below _ hb5).trans hq2 fun i hi => .inl hi
      have hlt4 : W.heap.size + 1 < W4.heap.size := HY.out.lt
      have hdat : ∀ a, A5 = some a → ¬ (a.block = W.heap.size ∨ a.block = W.heap.size + 1) := fun a ha e => by have := (hbl5 a ha).1; omega
      have HFIN := keep (And.intro (bs_part hbs5 hq2 hdat) (And.intro (hq2.own how5 (fun k hk e => by
        cases hA : A5 with
        | none => rw [hA] at hk; cases hk
        | some a => rw [hA] at hk; injection hk with hk; exact hdat a hA (by rw [hk]; exact e))) (And.intro (HRL.out.1.beside hq4 (fun k hk => by rcases hk with rfl | rfl; exact HTT.out.1; exact HTT.out.2)) (And.intro HRL.out.2.1 (And.intro (HRL.out.2.2.trans hq4 (fun k hk => .inr (by omega))) (fun a (ha : A5 = some a) => (show ow' a.block = none from by obtain ⟨R9, hR9, _⟩ := HRL.out.1; exact hR9.ok.free (hbl5 a ha).1)))))))
      have HSZ := keep (show W.heap.size ≤ W4.heap.size by omega)
      obtain ⟨p0, p1, p2, p3, p4, p5⟩ := HYP.out.c0
      obtain ⟨k0, k1, k2, k3, k4, k5⟩ := HZP.out.fz
      obtain ⟨v0, v1, v2, v3, v4, v5⟩ := HZP.out.c0
      obtain ⟨_, _, _, _, _, j5⟩ := HY5.out.fz
      obtain ⟨_, _, _, _, _, i5⟩ := HY5.out.c0
      dsimp only at p0 p1 p2 p3 p4 p5 i5
      clear hbs5 hb5 hbl5 how5 hq1 hq2 hq4 hlt4 hdat ht
      go_wp2_with fail
      exact bodyPost_ret (ret_pkt (p := 4) (u := 5) rfl _ _ W.heap.size ⟨ym, yk, yq, ys, yo, (A5, n5, c5), yb⟩ rfl HRES.out) rfl ⟨A5, n5, c5, ow', rfl, HFIN.out.1, own_mono HFIN.out.2.1 HSZ.out, HFIN.out.2.2⟩
end
end Go.Proofs.Ytacmfoljbjdcjaa
