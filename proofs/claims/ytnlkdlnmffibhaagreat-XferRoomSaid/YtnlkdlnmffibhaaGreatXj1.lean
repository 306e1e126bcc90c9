/- XferRoom: the walk. -/
import Derived.Test.YtnlkdlnmffibhaaGreatXi2
namespace Go.Proofs.YtnlkdlnmffibhaaGreat
open Go.RowKit Go.Maps
set_option linter.unusedVariables false
set_option maxRecDepth 8000

theorem and127 (i : Int) : ∃ k : Nat, bits .and .i64 i 127 = (k : Int) ∧ k < 128 := by
  have h := and_i64 i 7 (by decide)
  refine ⟨(i % 128).toNat, ?_, by omega⟩
  rw [show ((2 ^ 7 - 1 : Nat) : Int) = 127 by decide] at h
  rw [h]
  omega
theorem start_600 : WS.start 600 = ⟨1800, 1073741824, 0, 600, false, 0⟩ := rfl
/-- What the first Tell takes: one. -/
theorem room_take {a : Int} {j : Nat} {q : Qm} (h : SnQ a 400 572 1 527 j q) (hj : 0 < j) (now : Int) : ∃ e r, q.es = e :: r ∧ Tk now q.es 0 600 [] (takeQ q now 600) 1 ∧ (takeQ q now 600) = (sendE now e :: r, [e.c]) := by
  obtain ⟨d, hT⟩ := take_new h.st now 600
  have hge := h.ge
  have hln := h.ln
  cases hes : q.es with
  | nil => rw [hes, List.length_nil] at hge; omega
  | cons e r =>
    rw [hes] at hT hln
    have he := hln e (List.mem_cons_self ..)
    have hd1 : d = 1 := by
      rcases d with _ | _ | d
      · have h1 := hT.full e rfl
        simp at h1
        omega
      · rfl
      · have h1 := hT.hd
        cases r with
        | nil => simp at h1
        | cons e2 r2 =>
          have h2 := hln e2 (List.mem_cons_of_mem _ (List.mem_cons_self ..))
          rcases hT.fit with h3 | h3
          · omega
          · simp at h3
            omega
    subst hd1
    refine ⟨e, r, rfl, hT, Prod.ext ?_ ?_⟩
    · rw [hT.o]; simp
    · rw [hT.c]; simp
theorem hlen_sendE {nw : Int} {e : En} {r : List En} : (e :: r).length = (sendE nw e :: r).length := rfl
/-- Of an End that has told one, and has no more room, Tell. -/
theorem tell_dry {w W : World} {g : Xg} {x : Xm} (h : OE w W g x) {nw : Int} {e1 : En} {r1 : List En} (hes : x.q.es = sendE nw e1 :: r1) (hpl : PlainQ x.q) (hr : ∀ e ∈ r1, e.st = 0) (hl : ∀ e ∈ e1 :: r1, 400 ≤ lenE e ∧ lenE e ≤ 572) (hws : x.ws = WS.start 600) (hwa : x.rs.wa = 3000) (hru : x.ru = true) (how : x.ow = false) (hpe : x.pe = 0) (hlim : x.q.es.length ≤ 1024) (now : Int) :
    Calls Tryz.prog 8 #[.pointer (some ⟨g.b, 0, none⟩), .int .i64 now] W fun e w' => ∃ A c, e = .returned (.slice A 0 c) ∧ Hid (Below w.heap.size w w' ∧ Xl W g w' g) := by
  have h1 := hl e1 (List.mem_cons_self ..)
  have hf : octs x.q.es [1] = lenE e1 := by
    rw [octs_eq, hes, show sendE nw e1 :: r1 = [sendE nw e1] ++ r1 from rfl, octsL_app, octsL_none (es := r1) (fun e he => by rw [hr e he]; decide), octsL_all (fun e he => by rw [List.mem_singleton.1 he]; show (1 : Int) ∈ [(1 : Int)]; decide)]
    simp [lenE, sendE]
  have hdry : takeQ x.q (bd now) 0 = (x.q.es, []) := take_dry _ _ _ _ rfl fun e he => by
    rw [hes] at he
    rcases List.mem_cons.1 he with rfl | he
    · show 0 < lenE e1
      omega
    · have := hl e (List.mem_cons_of_mem _ he)
      omega
  have hf2 : octs (tkQ x.q (bd now) 0).es [1] = lenE e1 := by
    show octs (takeQ x.q (bd now) 0).1 [1] = _
    rw [hdry]
    exact hf
  refine (xTell_calm h.a how hpl now hf (by omega) (by rw [hpe]; decide) (p := 0) (R := 0) (by rw [hpe]; omega) (by
    rw [hws, start_600]
    unfold WS.room
    rw [if_pos ⟨rfl, by omega, by decide⟩, if_neg (by omega)]
    dsimp only
    omega) (by decide) (by rw [hwa]; decide) hf2 (.inl hru) hlim).mono ?_
  rintro e w' ⟨A, n, c, ys, rfl, h3, h4⟩
  have h5 := h4.out.sr.2
  have h6 := congrArg List.length h4.out.ct
  rw [hdry, List.length_map, List.map_nil, List.length_nil] at h6
  obtain rfl : n = 0 := by omega
  exact ⟨A, c, rfl, keep ⟨(h.up h3.out.1 h3.out.2).be, h3.out.2⟩⟩
/-- One was told. -/
theorem one_row {W w2 w3 : World} {g : Xg} {x : Xm} (hx : XA W g x) {q : Qm} {nw R : Int} {A : Option Addr} {c : Nat} {ys : List CZ} (h : RowP W w2 q nw R A 1 c ys) (hl : Xl w2 g w3 g) {a : Int} {e1 : En} (ht : (takeQ q nw R).2 = [e1.c]) (ha : e1.c.a = a) : ∃ gg, A = some ⟨gg, 0, none⟩ ∧ gg < w3.heap.size ∧ w3.cell? ⟨gg, 2, none⟩ = some (.int .u32 a) := by
  have hct := h.ct
  rw [ht] at hct
  have hyl : ys.length = 1 := by have := congrArg List.length hct; simpa using this
  obtain ⟨y0, rfl⟩ := List.length_eq_one_iff.1 hyl
  have h7 : y0.ct = e1.c.ct := by simpa using hct
  have ha0 : y0.a = a := (congrArg Ct.a h7).trans ha
  have hrow := hl.part.own h.row fun i hi ho => by
    have h1 := (h.row.lt i hi).1
    have h2 := hx.olt ho
    omega
  obtain ⟨gg, hg, _, h1, _, cur, hcur⟩ := own_row_at hrow (by simp [flatF, CZ.cells])
  refine ⟨gg, hg, (Array.getElem?_eq_some_iff.1 hcur).1, ?_⟩
  rw [← ha0]
  exact h1 2 _ rfl
set_option maxHeartbeats 8000000 in
theorem xferRoom_walk (a : Int) (A : Option Addr) (n c : Nat) (zs : List Int) (now : Int) (w : World) (ha : (Lit.int .u32 a).wf = true) (hz : NS .i64 w A n c zs) (hn : (Lit.int .i64 now).wf = true) :
    Calls Tryz.prog 4 #[.int .u32 a, .slice A n c, .int .i64 now] w fun e w' => e = .returned (.bool true) ∧ Below w.heap.size w w' := by
  have KA := keep (awakeX w)
  have HZ := keep hz
  have HA := keep (wf32_i ha)
  clear hz ha hn
  by_cases hn0 : n = 0
  · subst hn0
    go_enter Tryz.func4, Tryz.ntmps4
    go_wp2_with (go_at_call 5; refine KA.out.mono ?_; rintro e w1 ⟨rfl, hb1⟩; replace hb1 := keep hb1)
    all_goals go_ret
    all_goals exact ⟨rfl, hb1.out⟩
  by_cases hbig : 40 < n
  · go_enter Tryz.func4, Tryz.ntmps4
    go_wp2_with (go_at_call 5; refine KA.out.mono ?_; rintro e w1 ⟨rfl, hb1⟩; replace hb1 := keep hb1)
    all_goals go_ret
    all_goals exact ⟨rfl, hb1.out⟩
  have hc1 : ((n : Int) == 0) = false := beq_false_of_ne (by omega)
  have hc2 : decide ((40 : Int) < (n : Int)) = false := decide_eq_false (by omega)
  have hn1 : ¬ (n : Int) = 0 := by omega
  have hn2 : ¬ (40 : Int) < (n : Int) := by omega
  have HN := keep (show 0 < n ∧ n ≤ 40 from by omega)
  clear hn0 hbig
  have KN := keep (fun W1 => xNew_any a 1 0 1 600 1 HA.out (by decide) (by decide) (by decide) (by decide) W1)
  unfold cfg at KN
  obtain ⟨i0, hi0, hz0, hz1, hz2⟩ := info_parts by_info_x
  go_enter Tryz.func4, Tryz.ntmps4
  go_wp2_with (first
    | (go_at_call 5; refine KA.out.mono ?_; rintro e w0 ⟨rfl, hb0⟩; replace hb0 := keep hb0)
    | (go_at_call 12; refine (KN.out _).mono ?_; rintro e w1 ⟨g, rfl, H1⟩))
  have I0 : Hid (S1 w g.b a 600 0 400 572 1 527 0 w1 g (x0 a 1 0 1 600 1)) := keep (s1_new ⟨H1.out.xa, fun i hi => Nat.le_trans hb0.out.size (H1.out.own i hi), hb0.out.trans (H1.out.be.mono hb0.out.size)⟩ HA.out Nat.one_pos)
  obtain ⟨b, hb⟩ : ∃ b, g.b = b := ⟨_, rfl⟩
  rw [hb] at I0 ⊢
  clear hb
  go_loopw [9] (fun i wr => ∃ (j : Nat) (g : Xg) (x : Xm), j ≤ n ∧ i = .int .i64 j ∧ Hid (S1 w b a 600 0 400 572 1 527 j wr g x)) (fun i _ => n - (intOf i).toNat)
  case atStart => exact ⟨0, _, _, Nat.zero_le _, rfl, I0⟩
  case round =>
    clear I0
    obtain ⟨j, g, x, hj, rfl, HR⟩ := hrel
    by_cases hlt : j < n
    · obtain ⟨b0, o0, z, hA, hbl, hcz, hzj, _⟩ := (HZ.out.step HR.out.oe.be).at_ hlt
      subst hA
      obtain ⟨k, hk, hk2⟩ := and127 z
      have hk0 : (0 : Int) ≤ (k : Int) := by omega
      have hk3 : (k : Int) < 128 := by omega
      have HK := keep hk2
      have KS := keep (fun W (hb : Below wr.heap.size wr W) gz (hg : W.heap[gz]? = some (Obj.cells (List.replicate (400 + k) (Value.int .u8 0)).toArray 5 (0, 0))) =>
        (HR.out.step hb).send (by decide) (by decide) (by have := HN.out.2; omega) (by decide) (bz_bs hg) (by unfold bz; rw [List.length_replicate]; omega) (by unfold bz; rw [List.length_replicate]; omega) (by unfold bz; rw [List.length_replicate, cnt_one (by omega) (by omega)]; exact Nat.le_refl 1) (by unfold bz; rw [List.length_replicate]; omega) (fun i hi => by
          unfold bz at hi ⊢
          rw [List.length_replicate, cnt_one (by omega) (by omega)] at hi
          obtain rfl : i = 0 := by omega
          rw [piece_one (by rw [List.length_replicate]; omega), List.length_replicate]
          omega) now)
      clear hzj hk2
      go_wp2_with (first
        | (at_make; refine wpl_make rfl _ _ 31 rfl 5 i0 (.int .u8 0) Tryz.underlying31 hi0 hz0 hz1 rfl (400 + k) _ rfl rfl (by omega) (by rw [hz2]; have := HK.out; omega) (by unfold maxLen; have := HK.out; omega) ?_
           intro w2 hg2 hb2 hs2
           have KS2 := keep (KS.out w2 hb2 _ hg2.out)
           clear hg2 hs2 hb2)
        | (go_at_call 7; refine KS2.out.mono ?_; rintro e w3 ⟨rfl, g', x', H3⟩))
      go_roundw
      case rel => exact ⟨j + 1, g', x', by omega, by go_num, H3⟩
      case measure => simp [intOf]; omega
    · obtain rfl : n = j := by omega
      have hle := HR.out.sq.le
      have hlim : x.q.es.length ≤ 1024 := by have := HN.out.2; omega
      obtain ⟨e1, r1, hes, hT, htq⟩ := room_take HR.out.sq HN.out.1 (bd now)
      have he1 := HR.out.sq.first HR.out.oe.a.nu HA.out hlim (i := 0) (e := e1) (by rw [hes]; rfl)
      have he2 : e1.c.a = a := by have := HA.out; omega
      have KT := keep (HR.out.tell now (by decide) hlim (R := 600) rfl (by decide) hT)
      have KT2 := keep (fun W x' (H : OE w W g x' ∧ Xl wr g W g ∧ x'.q = tkQ x.q (bd now) 600 ∧ x'.ws = WS.start 600 ∧ x'.rs.wa = 3000 ∧ x'.ru = decide (0 < 1) ∧ x'.ow = false ∧ x'.pe = 0) => by
        obtain ⟨h1, h2, h3, h4, h5, h6, h7, h8⟩ := H
        have hq : x'.q.es = sendE (bd now) e1 :: r1 := by rw [h3]; show (takeQ x.q (bd now) 600).1 = _; rw [htq]
        have hmg : x'.q.mg = x.q.mg := by rw [h3]; rfl
        have hmem : ∀ e ∈ e1 :: r1, e ∈ x.q.es := fun e he => by rw [hes]; exact he
        have hT2 := tell_dry h1 hq (fun e he => by
          rw [hq] at he
          rw [hmg]
          rcases List.mem_cons.1 he with rfl | he
          · exact ⟨HR.out.sq.pl e1 (hmem e1 (List.mem_cons_self ..)), .inr rfl⟩
          · exact ⟨HR.out.sq.pl e (hmem e (List.mem_cons_of_mem _ he)), .inl (HR.out.sq.st e (hmem e (List.mem_cons_of_mem _ he)))⟩) (fun e he => HR.out.sq.st e (hmem e (List.mem_cons_of_mem _ he))) (fun e he => HR.out.sq.ln e (hmem e he)) h4 h5 h6 h7 h8 (by rw [hq, ← hlen_sendE]; rw [← hes]; exact hlim) now
        rw [HR.out.b] at hT2
        exact hT2)
      have HT2 := keep (show (takeQ x.q (bd now) 600).2 = [e1.c] by rw [htq])
      have HE2 := keep he2
      clear hT htq hes he1 he2 hle hlim hlt hj
      go_wp2_with (first
        | (go_at_call 8
           first
           | (have _ := H2
              refine (KT2.out _ _ H2.out).mono ?_; rintro e w3 ⟨A3, c3, rfl, H3⟩
              obtain ⟨gg, rfl, hgl, hgc⟩ := one_row HR.out.oe.a HP2.out H3.out.2 HT2.out HE2.out)
           | (refine KT.out.mono ?_; rintro e w2 ⟨A2, c2, ys, x2, rfl, H2, HP2⟩)))
      all_goals go_ret
      all_goals exact ⟨by first | rfl | exact ret_bool (by simp), H3.out.1⟩
end Go.Proofs.YtnlkdlnmffibhaaGreat
