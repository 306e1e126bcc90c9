/- Package split: which chunk follows which; whether chunks are those of one message. -/
import Derived.Test.YthpcblbciidmeaaPc2
namespace Go.Proofs.Ythpcblbciidmeaa
open Go.RowKit
set_option linter.unusedVariables false

theorem wrap_u32 (x : Int) : IntKind.u32.wrap x = x % 4294967296 := by simp [IntKind.wrap, IntKind.signed, IntKind.bits]
theorem fol_bools (x y : Ch) : fol x y = ((x.kd == 0) && (y.kd == 0) && (y.a == IntKind.u32.wrap (x.a + 1)) && (x.ou == y.ou) && (x.si == y.si) && (x.pp == y.pp) && (decide (x.fl / 4 % 2 = 1) == decide (y.fl / 4 % 2 = 1)) && !decide (x.fl % 2 = 1) && !decide (y.fl / 2 % 2 = 1)) := by
  rw [Bool.eq_iff_iff]
  unfold fol
  rw [wrap_u32]
  have h7 : (decide (x.fl / 4 % 2 = 1) == decide (y.fl / 4 % 2 = 1)) = true ↔ x.fl / 4 % 2 = y.fl / 4 % 2 := by
    rw [beq_iff_eq, decide_eq_decide]
    omega
  have h8 : (!decide (x.fl % 2 = 1)) = true ↔ x.fl % 2 = 0 := by
    rw [Bool.not_eq_true', decide_eq_false_iff_not]
    omega
  have h9 : (!decide (y.fl / 2 % 2 = 1)) = true ↔ y.fl / 2 % 2 = 0 := by
    rw [Bool.not_eq_true', decide_eq_false_iff_not]
    omega
  rw [decide_eq_true_iff]
  simp only [Bool.and_eq_true, h7, h8, h9, beq_iff_eq]
  constructor
  · rintro ⟨a, b, c, d, e, f, g, h, i⟩
    exact ⟨⟨⟨⟨⟨⟨⟨⟨a, b⟩, c⟩, d⟩, e⟩, f⟩, g⟩, h⟩, i⟩
  · rintro ⟨⟨⟨⟨⟨⟨⟨⟨a, b⟩, c⟩, d⟩, e⟩, f⟩, g⟩, h⟩, i⟩
    exact ⟨a, b, c, d, e, f, g, h, i⟩
theorem Follows_any (x y : CX) (hx : CB x) (hy : CB y) (w : World) :
    Calls Try.prog 37 #[.agg x.cells.toArray, .agg y.cells.toArray] w fun e w' => e = .returned (.bool (fol x.ch y.ch)) ∧ Below w.heap.size w w' := by
  rw [fol_bools]
  exact Follows_cells _ _ _ _ _ _ _ _ _ _ _ rfl rfl rfl rfl rfl rfl rfl rfl (keep fun w => has4_at hx.fl w) (keep fun w => has4_at hy.fl w) (keep fun w => has1_at hx.fl w) (keep fun w => has2_at hy.fl w) w

set_option maxHeartbeats 1000000 in
theorem isWhole_none (A : Option Addr) (c : Nat) (w : World) : Calls Try.prog 39 #[.slice A 0 c] w fun e w' => e = .returned (.bool false) ∧ Below w.heap.size w w' := by
  go_enter Try.func39, Try.ntmps39
  go_wp2_with fail
  go_ret
  exact ⟨rfl, Below.refl _ _⟩
set_option maxHeartbeats 1000000 in
theorem isWhole_some (b o q c : Nat) (l : List CX) (w : World) (hbl : b < w.heap.size) (h : CS w (some ⟨b, o, none⟩) (q + 1) c l) (x y : CX) (hat : At12 w b o x) (hat' : At12 w b (o + q * 12) y) (bx : CB x) (hy' : CB y) (hx0 : l[0]? = some x) (hyq : l[q]? = some y) (hq : q ≤ 1000000) (r : Bool) (hr : r = whole (l.map CX.ch)) :
    Calls Try.prog 39 #[.slice (some ⟨b, o, none⟩) (q + 1) c] w fun e w' => e = .returned (.bool r) ∧ Below w.heap.size w w' := by
  have HC := keep h
  have HLn := keep h.1
  obtain ⟨t, ht⟩ : ∃ t, l = x :: t := by
    cases l with
    | nil => simp at hx0
    | cons z t => simp at hx0; exact ⟨t, by rw [hx0]⟩
  have hlast : (l.map CX.ch).getLast? = some y.ch := by
    rw [List.getLast?_eq_getElem?, List.length_map, ← h.1, List.getElem?_map, Nat.add_sub_cancel, hyq]
    rfl
  have hfst : (l.map CX.ch)[0]? = some x.ch := by rw [List.getElem?_map, hx0]; rfl
  have HW : Hid ((x.kd = 0 → x.fl / 2 % 2 = 1 → y.fl % 2 = 1 → chain (l.map CX.ch) = true → r = true) ∧ (∀ i u v, l[i]? = some u → l[i + 1]? = some v → fol u.ch v.ch = false → r = false) ∧ (¬ x.kd = 0 → r = false) ∧ (¬ x.fl / 2 % 2 = 1 → r = false) ∧ (¬ y.fl % 2 = 1 → r = false)) := by
    refine keep ⟨fun h1 h2 h3 h4 => ?_, fun i u v hu hv hf => ?_, fun h1 => ?_, fun h1 => ?_, fun h1 => ?_⟩
    · rw [hr]
      exact (whole_make hfst hlast h1 h2 h3 h4).1
    · rw [hr]
      exact whole_break (l := l.map CX.ch) (i := i) (x := u.ch) (y := v.ch) (by rw [List.getElem?_map, hu]; rfl) (by rw [List.getElem?_map, hv]; rfl) hf
    · rw [hr, ht, List.map_cons]
      unfold whole
      dsimp only
      rw [decide_eq_false (show ¬ x.ch.kd = 0 from h1)]
      rfl
    · rw [hr, ht, List.map_cons]
      exact whole_nobegin h1
    · rw [hr]
      exact whole_noend hlast h1
  clear hr hx0 hyq hlast hfst ht
  obtain ⟨hw2, hw1⟩ := wrap_in (q : Int) (by omega)
  have hz : ((q : Int) + 1 == 0) = false := by simp; omega
  have hn : 0 < (q : Int) + 1 := by omega
  have hqq : (q : Int) < (q : Int) + 1 := by omega
  have KB := fun w2 => has2_at (c0 := .int .u8 x.kd) (c2 := .int .u32 x.a) (c3 := .int .u32 x.b) (c4 := .int .u16 x.ou) (c5 := .int .u16 x.si) (c6 := .int .u32 x.pp) (c7 := .slice x.bl.1 x.bl.2.1 x.bl.2.2) (c8 := .slice x.du.1 x.du.2.1 x.du.2.2) (c9 := .slice x.sk.1 x.sk.2.1 x.sk.2.2) (c10 := .slice x.pr.1 x.pr.2.1 x.pr.2.2) (c11 := .slice x.da.1 x.da.2.1 x.da.2.2) bx.fl w2
  have KE := fun w2 => has1_at (c0 := .int .u8 y.kd) (c2 := .int .u32 y.a) (c3 := .int .u32 y.b) (c4 := .int .u16 y.ou) (c5 := .int .u16 y.si) (c6 := .int .u32 y.pp) (c7 := .slice y.bl.1 y.bl.2.1 y.bl.2.2) (c8 := .slice y.du.1 y.du.2.1 y.du.2.2) (c9 := .slice y.sk.1 y.sk.2.1 y.sk.2.2) (c10 := .slice y.pr.1 y.pr.2.1 y.pr.2.2) (c11 := .slice y.da.1 y.da.2.1 y.da.2.2) hy'.fl w2
  have HAT := keep hat
  have HAT' := keep hat'
  have HBL := keep hbl
  clear h bx hy'
  obtain ⟨xk, xf, xa, xb, xo, xs, xp, ⟨x1, x2, x3⟩, ⟨x4, x5, x6⟩, ⟨x7, x8, x9⟩, ⟨x10, x11, x12⟩, ⟨x13, x14, x15⟩, xps, xbs⟩ := x
  obtain ⟨yk, yf, ya, yb, yo, ys, yp, ⟨y1, y2, y3⟩, ⟨y4, y5, y6⟩, ⟨y7, y8, y9⟩, ⟨y10, y11, y12⟩, ⟨y13, y14, y15⟩, yps, ybs⟩ := y
  dsimp only [At12] at hat hat' HW KB KE
  obtain ⟨c0, c1, c2, c3, c4, c5, c6, c7, c8, c9, c10, c11⟩ := hat
  obtain ⟨d0, d1, d2, d3, d4, d5, d6, d7, d8, d9, d10, d11⟩ := hat'
  by_cases h1 : xk = 0
  case neg =>
    obtain rfl : r = false := HW.out.2.2.1 h1
    have h1' : (xk != 0) = true := by simp; omega
    clear h1 HW KB KE HAT HAT' d0 d1 d2 d3 d4 d5 d6 d7 d8 d9 d10 d11
    go_enter Try.func39, Try.ntmps39
    go_wp2_with fail
    go_ret
    exact ⟨rfl, Below.refl _ _⟩
  subst h1
  by_cases h2 : xf / 2 % 2 = 1
  case neg =>
    obtain rfl : r = false := HW.out.2.2.2.1 h2
    rw [decide_eq_false h2] at KB
    replace KB := keep KB
    clear h2 HW KE HAT HAT' d0 d1 d2 d3 d4 d5 d6 d7 d8 d9 d10 d11
    go_enter Try.func39, Try.ntmps39
    go_wp2_with (go_at_call 40; refine (KB.out _).mono ?_; rintro e w2 ⟨rfl, hb⟩; replace hb := keep hb)
    go_ret
    exact ⟨rfl, hb.out⟩
  rw [decide_eq_true h2] at KB
  by_cases h3 : yf % 2 = 1
  case neg =>
    obtain rfl : r = false := HW.out.2.2.2.2 h3
    rw [decide_eq_false h3] at KE
    replace KB := keep KB
    replace KE := keep KE
    clear h2 h3 HW
    go_enter Try.func39, Try.ntmps39
    go_wp2_with (first
      | (go_at_call 40; have _isold := HAT'; refine (KB.out _).mono ?_; rintro e w2 ⟨rfl, hb⟩
         clear d0 d1 d2 d3 d4 d5 d6 d7 d8 d9 d10 d11
         obtain ⟨d0, d1, d2, d3, d4, d5, d6, d7, d8, d9, d10, d11⟩ := HAT'.out.step hb HBL.out
         replace hb := keep hb
         clear HAT' _isold)
      | (go_at_call 40; refine (KE.out _).mono ?_; rintro e w3 ⟨rfl, hb3⟩; replace hb3 := keep hb3))
    go_ret
    exact ⟨rfl, up hb.out hb3.out⟩
  rw [decide_eq_true h3] at KE
  have HW1 := keep (HW.out.1 rfl h2 h3)
  have HW2 := keep HW.out.2.1
  replace KB := keep KB
  replace KE := keep KE
  clear h2 h3 HW
  go_enter Try.func39, Try.ntmps39
  go_wp2_with (first
    | (go_at_call 40; have _isold := HAT'; refine (KB.out _).mono ?_; rintro e w2 ⟨rfl, hb⟩
       clear d0 d1 d2 d3 d4 d5 d6 d7 d8 d9 d10 d11
       obtain ⟨d0, d1, d2, d3, d4, d5, d6, d7, d8, d9, d10, d11⟩ := HAT'.out.step hb HBL.out
       replace hb := keep hb
       clear HAT' _isold)
    | (go_at_call 40; refine (KE.out _).mono ?_; rintro e w3 ⟨rfl, hb3⟩; replace hb3 := keep (up hb.out hb3)))
  clear c0 c1 c2 c3 c4 c5 c6 c7 c8 c9 c10 c11 d0 d1 d2 d3 d4 d5 d6 d7 d8 d9 d10 d11 KB KE hb HAT
  go_loopw [34] (fun vi wr => ∃ j : Nat, j ≤ q ∧ vi = .int .i64 j ∧ Hid (Below w.heap.size w wr ∧ chain ((l.take (j + 1)).map CX.ch) = true)) (fun vi _ => q - (intOf vi).toNat)
  case atStart =>
    refine ⟨0, Nat.zero_le _, rfl, keep ⟨hb3.out, ?_⟩⟩
    cases l with
    | nil => rfl
    | cons z t => rfl
  case round =>
    obtain ⟨i, hi, rfl, HJ⟩ := hrel
    by_cases hlt : i < q
    · obtain ⟨j, hj⟩ : ∃ j, j = i + 1 := ⟨_, rfl⟩
      obtain ⟨b1, o1, v, hA, hblp, hatv, hlv, hvv⟩ := (HC.out.step HJ.out.1).at_ (j := i) (by clear hw1 hw2; omega)
      injection hA with hA
      injection hA with e1 e2
      subst e1 e2
      obtain ⟨b1, o1, u, hA, _, hatu, hlu, hvu⟩ := (HC.out.step HJ.out.1).at_ (j := j) (by clear hw1 hw2; omega)
      injection hA with hA
      injection hA with e1 e2
      subst e1 e2
      have hlt' : (i : Int) < (q : Int) := by clear hw1 hw2; omega
      have hji : (i : Int) + 1 = (j : Int) := by clear hw1 hw2; omega
      have hj1 : (i : Int) < (q : Int) + 1 := by clear hw1 hw2; omega
      have hj2 : (j : Int) < (q : Int) + 1 := by clear hw1 hw2; omega
      obtain ⟨hjw2, hjw1⟩ := wrap_in (j : Int) (by clear hw1 hw2; omega)
      obtain ⟨f, hf1⟩ : ∃ f, fol v.ch u.ch = f := ⟨_, rfl⟩
      have KF := fun w2 => Follows_any v u hvv.cb hvu.cb w2
      rw [hf1] at KF
      have HF := keep hf1
      have HCc := fun (hh : f = true) => show chain ((l.take (i + 1 + 1)).map CX.ch) = true from by
        have hc := HJ.out.2
        rw [List.map_take] at hc ⊢
        exact chain_take hc (by rw [Nat.add_sub_cancel, List.getElem?_map, hlv]; rfl) (by rw [List.getElem?_map, ← hj, hlu]; rfl) (Nat.succ_pos i) (HF.out.trans hh)
      have HPc := fun (hh : f = false) => HW2.out i v u hlv (by rw [← hj]; exact hlu) (HF.out.trans hh)
      replace HCc := keep HCc
      replace HPc := keep HPc
      have HB := keep HJ.out.1
      clear hf1 HF hlv hlu hvv hvu hj HJ
      obtain ⟨gk, gf, ga, gb, go, gs, gp, ⟨g1, g2, g3⟩, ⟨g4, g5, g6⟩, ⟨g7, g8, g9⟩, ⟨g10, g11, g12⟩, ⟨g13, g14, g15⟩, gps, gbs⟩ := u
      obtain ⟨vk, vf, va, vb, vo, vs, vp, ⟨v1, v2, v3⟩, ⟨v4, v5, v6⟩, ⟨v7, v8, v9⟩, ⟨v10, v11, v12⟩, ⟨v13, v14, v15⟩, vps, vbs⟩ := v
      dsimp only [At12] at hatu hatv
      obtain ⟨c0, c1, c2, c3, c4, c5, c6, c7, c8, c9, c10, c11⟩ := hatu
      obtain ⟨d0, d1, d2, d3, d4, d5, d6, d7, d8, d9, d10, d11⟩ := hatv
      dsimp only [CX.cells] at KF
      replace KF := keep KF
      go_wp2_with fail
      go_region_held3 (fun w' => (w'.cell? ⟨b, o + j * 12, none⟩ = some (.int .u8 gk) ∧ w'.cell? ⟨b, o + j * 12 + 1, none⟩ = some (.int .u8 gf) ∧ w'.cell? ⟨b, o + j * 12 + 2, none⟩ = some (.int .u32 ga) ∧ w'.cell? ⟨b, o + j * 12 + 3, none⟩ = some (.int .u32 gb) ∧ w'.cell? ⟨b, o + j * 12 + 4, none⟩ = some (.int .u16 go) ∧ w'.cell? ⟨b, o + j * 12 + 5, none⟩ = some (.int .u16 gs) ∧ w'.cell? ⟨b, o + j * 12 + 6, none⟩ = some (.int .u32 gp) ∧ w'.cell? ⟨b, o + j * 12 + 7, none⟩ = some (.slice g1 g2 g3) ∧ w'.cell? ⟨b, o + j * 12 + 8, none⟩ = some (.slice g4 g5 g6) ∧ w'.cell? ⟨b, o + j * 12 + 9, none⟩ = some (.slice g7 g8 g9) ∧ w'.cell? ⟨b, o + j * 12 + 10, none⟩ = some (.slice g10 g11 g12) ∧ w'.cell? ⟨b, o + j * 12 + 11, none⟩ = some (.slice g13 g14 g15)) ∧ (w'.cell? ⟨b, o + i * 12, none⟩ = some (.int .u8 vk) ∧ w'.cell? ⟨b, o + i * 12 + 1, none⟩ = some (.int .u8 vf) ∧ w'.cell? ⟨b, o + i * 12 + 2, none⟩ = some (.int .u32 va) ∧ w'.cell? ⟨b, o + i * 12 + 3, none⟩ = some (.int .u32 vb) ∧ w'.cell? ⟨b, o + i * 12 + 4, none⟩ = some (.int .u16 vo) ∧ w'.cell? ⟨b, o + i * 12 + 5, none⟩ = some (.int .u16 vs) ∧ w'.cell? ⟨b, o + i * 12 + 6, none⟩ = some (.int .u32 vp) ∧ w'.cell? ⟨b, o + i * 12 + 7, none⟩ = some (.slice v1 v2 v3) ∧ w'.cell? ⟨b, o + i * 12 + 8, none⟩ = some (.slice v4 v5 v6) ∧ w'.cell? ⟨b, o + i * 12 + 9, none⟩ = some (.slice v7 v8 v9) ∧ w'.cell? ⟨b, o + i * 12 + 10, none⟩ = some (.slice v10 v11 v12) ∧ w'.cell? ⟨b, o + i * 12 + 11, none⟩ = some (.slice v13 v14 v15)))
        (first | exact ⟨⟨c0, c1, c2, c3, c4, c5, c6, c7, c8, c9, c10, c11⟩, ⟨d0, d1, d2, d3, d4, d5, d6, d7, d8, d9, d10, d11⟩⟩ | exact q5)
        (first
        | (go_at_call 37; refine (KF.out _).mono ?_; rintro e w5 ⟨rfl, hb5⟩
           have hb5' := (Below.refl wr.heap.size wr).drew.trans hb5
           have q5 := And.intro (At12.step (x := ⟨gk, gf, ga, gb, go, gs, gp, (g1, g2, g3), (g4, g5, g6), (g7, g8, g9), (g10, g11, g12), (g13, g14, g15), gps, gbs⟩) ⟨c0, c1, c2, c3, c4, c5, c6, c7, c8, c9, c10, c11⟩ hb5' hblp) (At12.step (x := ⟨vk, vf, va, vb, vo, vs, vp, (v1, v2, v3), (v4, v5, v6), (v7, v8, v9), (v10, v11, v12), (v13, v14, v15), vps, vbs⟩) ⟨d0, d1, d2, d3, d4, d5, d6, d7, d8, d9, d10, d11⟩ hb5' hblp)
           have HB5 := keep (up HB.out hb5')
           clear hb5 hb5'))
      cases f
      · obtain rfl : r = false := HPc.out rfl
        go_wp2_with fail
        go_ret
        exact ⟨rfl, HB5.out⟩
      · go_wp2_with fail
        go_roundw
        case rel => exact ⟨i + 1, (by clear hw1 hw2 hjw1 hjw2; omega), by go_num, keep ⟨HB5.out, HCc.out rfl⟩⟩
        case measure => (simp [intOf]; clear hw1 hw2 hjw1 hjw2; omega)
    · obtain rfl : q = i := by clear hw1 hw2; omega
      have hc := HJ.out.2
      rw [List.take_of_length_le (by have := HLn.out; clear hw1 hw2; omega)] at hc
      obtain rfl : r = true := HW1.out hc
      clear hc
      go_wp2_with fail
      go_ret
      exact ⟨rfl, HJ.out.1⟩
/-- Are chunks those of one message, from its first one to its last one? -/
theorem isWhole_any (A : Option Addr) (n c : Nat) (l : List CX) (w : World) (h : CS w A n c l) (hn : n ≤ 1000000) :
    Calls Try.prog 39 #[.slice A n c] w fun e w' => e = .returned (.bool (whole (l.map CX.ch))) ∧ Below w.heap.size w w' := by
  cases n with
  | zero =>
    have : l = [] := List.eq_nil_of_length_eq_zero h.1.symm
    subst this
    exact isWhole_none A c w
  | succ q =>
    obtain ⟨b, o, x, rfl, hbl, hat, hlx, hvx⟩ := h.at_ (j := 0) (Nat.succ_pos q)
    obtain ⟨b', o', y, hA, _, hat', hly, hvy⟩ := h.at_ (j := q) (Nat.lt_succ_self q)
    injection hA with hA
    injection hA with e1 e2
    subst e1 e2
    rw [Nat.zero_mul, Nat.add_zero] at hat
    exact isWhole_some b o q c l w hbl h x y hat hat' hvx.cb hvy.cb hlx hly (by omega) _ rfl
end Go.Proofs.Ythpcblbciidmeaa
