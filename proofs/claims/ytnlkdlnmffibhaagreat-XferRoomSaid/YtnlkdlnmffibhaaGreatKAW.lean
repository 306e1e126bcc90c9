/- KAW of the stage: texts Pc3, Pj4, JF, JG, joined. -/
import Derived.Test.YtnlkdlnmffibhaaGreatKAV
import Derived.Test.YtnlkdlnmffibhaaGreatKAB
import Derived.Test.YtnlkdlnmffibhaaGreatKAT
import Derived.Deep.QuietTactic
import Derived.BigQuiet
set_option linter.unusedSimpArgs false
set_option linter.unusedVariables false
set_option maxRecDepth 8000
namespace Go.Proofs.YtnlkdlnmffibhaaGreat
section
open Go.RowKit
theorem fol_bools (x y : Ch) : fol x y = ((x.kd == 0) && (y.kd == 0) && (y.a == IntKind.u32.wrap (x.a + 1)) && (x.ou == y.ou) && (x.si == y.si) && (x.pp == y.pp) && (decide (x.fl / 4 % 2 = 1) == decide (y.fl / 4 % 2 = 1)) && !decide (x.fl % 2 = 1) && !decide (y.fl / 2 % 2 = 1)) := by
  rw [Bool.eq_iff_iff]
  unfold fol
  rw [wrap_u32]
  have h7 : (decide (x.fl / 4 % 2 = 1) == decide (y.fl / 4 % 2 = 1)) = true ↔ x.fl / 4 % 2 = y.fl / 4 % 2 := by
    rw [beq_iff_eq, decide_eq_decide]
    omega
  have h8 : (!decide (x.fl % 2 = 1)) = true ↔ x.fl % 2 = 0 := by
    rw [Bool.not_eq_true', decide_eq_false_iff_not]
    omega
  have h9 : (!decide (y.fl / 2 % 2 = 1)) = true ↔ y.fl / 2 % 2 = 0 := by
    rw [Bool.not_eq_true', decide_eq_false_iff_not]
    omega
  rw [decide_eq_true_iff]
  simp only [Bool.and_eq_true, h7, h8, h9, beq_iff_eq]
  constructor
  · rintro ⟨a, b, c, d, e, f, g, h, i⟩
    exact ⟨⟨⟨⟨⟨⟨⟨⟨a, b⟩, c⟩, d⟩, e⟩, f⟩, g⟩, h⟩, i⟩
  · rintro ⟨⟨⟨⟨⟨⟨⟨⟨a, b⟩, c⟩, d⟩, e⟩, f⟩, g⟩, h⟩, i⟩
    exact ⟨a, b, c, d, e, f, g, h, i⟩
theorem Follows_any (x y : CX) (hx : CB x) (hy : CB y) (w : World) :
    Calls Tryz.prog 151 #[.agg x.cells.toArray, .agg y.cells.toArray] w fun e w' => e = .returned (.bool (fol x.ch y.ch)) ∧ Below w.heap.size w w' := by
  rw [fol_bools]
  exact Follows_cells _ _ _ _ _ _ _ _ _ _ _ rfl rfl rfl rfl rfl rfl rfl rfl (keep fun w => has4_at hx.fl w) (keep fun w => has4_at hy.fl w) (keep fun w => has1_at hx.fl w) (keep fun w => has2_at hy.fl w) w
set_option maxHeartbeats 1000000 in
theorem isWhole_none (A : Option Addr) (c : Nat) (w : World) : Calls Tryz.prog 152 #[.slice A 0 c] w fun e w' => e = .returned (.bool false) ∧ Below w.heap.size w w' := by
  go_enter Tryz.func152, Tryz.ntmps152
  go_wp2_with fail
  go_ret
  exact ⟨rfl, Below.refl _ _⟩
set_option maxHeartbeats 1000000 in
theorem isWhole_some (b o q c : Nat) (l : List CX) (w : World) (hbl : b < w.heap.size) (h : CS w (some ⟨b, o, none⟩) (q + 1) c l) (x y : CX) (hat : At12 w b o x) (hat' : At12 w b (o + q * 12) y) (bx : CB x) (hy' : CB y) (hx0 : l[0]? = some x) (hyq : l[q]? = some y) (hq : q ≤ 1000000) (r : Bool) (hr : r = whole (l.map CX.ch)) :
    Calls Tryz.prog 152 #[.slice (some ⟨b, o, none⟩) (q + 1) c] w fun e w' => e = .returned (.bool r) ∧ Below w.heap.size w w' := by
  have HC := keep h
  have HLn := keep h.1
  obtain ⟨t, ht⟩ : ∃ t, l = x :: t := by
    cases l with
    | nil => simp at hx0
    | cons z t => simp at hx0; exact ⟨t, by rw [hx0]⟩
  have hlast : (l.map CX.ch).getLast? = some y.ch := by
    rw [List.getLast?_eq_getElem?, List.length_map, ← h.1, List.getElem?_map, Nat.add_sub_cancel, hyq]
    rfl
  have hfst : (l.map CX.ch)[0]? = some x.ch := by rw [List.getElem?_map, hx0]; rfl
  have HW : Hid ((x.kd = 0 → x.fl / 2 % 2 = 1 → y.fl % 2 = 1 → chain (l.map CX.ch) = true → r = true) ∧ (∀ i u v, l[i]? = some u → l[i + 1]? = some v → fol u.ch v.ch = false → r = false) ∧ (¬ x.kd = 0 → r = false) ∧ (¬ x.fl / 2 % 2 = 1 → r = false) ∧ (¬ y.fl % 2 = 1 → r = false)) := by
    refine keep ⟨fun h1 h2 h3 h4 => ?_, fun i u v hu hv hf => ?_, fun h1 => ?_, fun h1 => ?_, fun h1 => ?_⟩
    · rw [hr]
      exact (whole_make hfst hlast h1 h2 h3 h4).1
    · rw [hr]
      exact whole_break (l := l.map CX.ch) (i := i) (x := u.ch) (y := v.ch) (by rw [List.getElem?_map, hu]; rfl) (by rw [List.getElem?_map, hv]; rfl) hf
    · rw [hr, ht, List.map_cons]
      unfold whole
      dsimp only
      rw [decide_eq_false (show ¬ x.ch.kd = 0 from h1)]
      rfl
    · rw [hr, ht, List.map_cons]
      exact whole_nobegin h1
    · rw [hr]
      exact whole_noend hlast h1
  clear hr hx0 hyq hlast hfst ht
  obtain ⟨hw2, hw1⟩ := wrap_in (q : Int) (by omega)
  have hz : ((q : Int) + 1 == 0) = false := by simp; omega
  have hn : 0 < (q : Int) + 1 := by omega
  have hqq : (q : Int) < (q : Int) + 1 := by omega
  have KB := fun w2 => has2_at (c0 := .int .u8 x.kd) (c2 := .int .u32 x.a) (c3 := .int .u32 x.b) (c4 := .int .u16 x.ou) (c5 := .int .u16 x.si) (c6 := .int .u32 x.pp) (c7 := .slice x.bl.1 x.bl.2.1 x.bl.2.2) (c8 := .slice x.du.1 x.du.2.1 x.du.2.2) (c9 := .slice x.sk.1 x.sk.2.1 x.sk.2.2) (c10 := .slice x.pr.1 x.pr.2.1 x.pr.2.2) (c11 := .slice x.da.1 x.da.2.1 x.da.2.2) bx.fl w2
  have KE := fun w2 => has1_at (c0 := .int .u8 y.kd) (c2 := .int .u32 y.a) (c3 := .int .u32 y.b) (c4 := .int .u16 y.ou) (c5 := .int .u16 y.si) (c6 := .int .u32 y.pp) (c7 := .slice y.bl.1 y.bl.2.1 y.bl.2.2) (c8 := .slice y.du.1 y.du.2.1 y.du.2.2) (c9 := .slice y.sk.1 y.sk.2.1 y.sk.2.2) (c10 := .slice y.pr.1 y.pr.2.1 y.pr.2.2) (c11 := .slice y.da.1 y.da.2.1 y.da.2.2) hy'.fl w2
  have HAT := keep hat
  have HAT' := keep hat'
  have HBL := keep hbl
  clear h bx hy'
  obtain ⟨xk, xf, xa, xb, xo, xs, xp, ⟨x1, x2, x3⟩, ⟨x4, x5, x6⟩, ⟨x7, x8, x9⟩, ⟨x10, x11, x12⟩, ⟨x13, x14, x15⟩, xps, xbs⟩ := x
  obtain ⟨yk, yf, ya, yb, yo, ys, yp, ⟨y1, y2, y3⟩, ⟨y4, y5, y6⟩, ⟨y7, y8, y9⟩, ⟨y10, y11, y12⟩, ⟨y13, y14, y15⟩, yps, ybs⟩ := y
  dsimp only [At12] at hat hat' HW KB KE
  obtain ⟨c0, c1, c2, c3, c4, c5, c6, c7, c8, c9, c10, c11⟩ := hat
  obtain ⟨d0, d1, d2, d3, d4, d5, d6, d7, d8, d9, d10, d11⟩ := hat'
  by_cases h1 : xk = 0
  case neg =>
    obtain rfl : r = false := HW.out.2.2.1 h1
    have h1' : (xk != 0) = true := by simp; omega
    clear h1 HW KB KE HAT HAT' d0 d1 d2 d3 d4 d5 d6 d7 d8 d9 d10 d11
    go_enter Tryz.func152, Tryz.ntmps152
    go_wp2_with fail
    go_ret
    exact ⟨rfl, Below.refl _ _⟩
  subst h1
  by_cases h2 : xf / 2 % 2 = 1
  case neg =>
    obtain rfl : r = false := HW.out.2.2.2.1 h2
    rw [decide_eq_false h2] at KB
    replace KB := keep KB
    clear h2 HW KE HAT HAT' d0 d1 d2 d3 d4 d5 d6 d7 d8 d9 d10 d11
    go_enter Tryz.func152, Tryz.ntmps152
    go_wp2_with (go_at_call 153; refine (KB.out _).mono ?_; rintro e w2 ⟨rfl, hb⟩; replace hb := keep hb)
    go_ret
    exact ⟨rfl, hb.out⟩
  rw [decide_eq_true h2] at KB
  by_cases h3 : yf % 2 = 1
  case neg =>
    obtain rfl : r = false := HW.out.2.2.2.2 h3
    rw [decide_eq_false h3] at KE
    replace KB := keep KB
    replace KE := keep KE
    clear h2 h3 HW
    go_enter Tryz.func152, Tryz.ntmps152
    go_wp2_with (first
      | (go_at_call 153; have _isold := HAT'; refine (KB.out _).mono ?_; rintro e w2 ⟨rfl, hb⟩
         clear d0 d1 d2 d3 d4 d5 d6 d7 d8 d9 d10 d11
         obtain ⟨d0, d1, d2, d3, d4, d5, d6, d7, d8, d9, d10, d11⟩ := HAT'.out.step hb HBL.out
         replace hb := keep hb
         clear HAT' _isold)
      | (go_at_call 153; refine (KE.out _).mono ?_; rintro e w3 ⟨rfl, hb3⟩; replace hb3 := keep hb3))
    go_ret
    exact ⟨rfl, up hb.out hb3.out⟩
  rw [decide_eq_true h3] at KE
  have HW1 := keep (HW.out.1 rfl h2 h3)
  have HW2 := keep HW.out.2.1
  replace KB := keep KB
  replace KE := keep KE
  clear h2 h3 HW
  go_enter Tryz.func152, Tryz.ntmps152
  go_wp2_with (first
    | (go_at_call 153; have _isold := HAT'; refine (KB.out _).mono ?_; rintro e w2 ⟨rfl, hb⟩
       clear d0 d1 d2 d3 d4 d5 d6 d7 d8 d9 d10 d11
       obtain ⟨d0, d1, d2, d3, d4, d5, d6, d7, d8, d9, d10, d11⟩ := HAT'.out.step hb HBL.out
       replace hb := keep hb
       clear HAT' _isold)
    | (go_at_call 153; refine (KE.out _).mono ?_; rintro e w3 ⟨rfl, hb3⟩; replace hb3 := keep (up hb.out hb3)))
  clear c0 c1 c2 c3 c4 c5 c6 c7 c8 c9 c10 c11 d0 d1 d2 d3 d4 d5 d6 d7 d8 d9 d10 d11 KB KE hb HAT
  go_loopw [34] (fun vi wr => ∃ j : Nat, j ≤ q ∧ vi = .int .i64 j ∧ Hid (Below w.heap.size w wr ∧ chain ((l.take (j + 1)).map CX.ch) = true)) (fun vi _ => q - (intOf vi).toNat)
  case atStart =>
    refine ⟨0, Nat.zero_le _, rfl, keep ⟨hb3.out, ?_⟩⟩
    cases l with
    | nil => rfl
    | cons z t => rfl
  case round =>
    obtain ⟨i, hi, rfl, HJ⟩ := hrel
    by_cases hlt : i < q
    · obtain ⟨j, hj⟩ : ∃ j, j = i + 1 := ⟨_, rfl⟩
      obtain ⟨b1, o1, v, hA, hblp, hatv, hlv, hvv⟩ := (HC.out.step HJ.out.1).at_ (j := i) (by clear hw1 hw2; omega)
      injection hA with hA
      injection hA with e1 e2
      subst e1 e2
      obtain ⟨b1, o1, u, hA, _, hatu, hlu, hvu⟩ := (HC.out.step HJ.out.1).at_ (j := j) (by clear hw1 hw2; omega)
      injection hA with hA
      injection hA with e1 e2
      subst e1 e2
      have hlt' : (i : Int) < (q : Int) := by clear hw1 hw2; omega
      have hji : (i : Int) + 1 = (j : Int) := by clear hw1 hw2; omega
      have hj1 : (i : Int) < (q : Int) + 1 := by clear hw1 hw2; omega
      have hj2 : (j : Int) < (q : Int) + 1 := by clear hw1 hw2; omega
      obtain ⟨hjw2, hjw1⟩ := wrap_in (j : Int) (by clear hw1 hw2; omega)
      obtain ⟨f, hf1⟩ : ∃ f, fol v.ch u.ch = f := ⟨_, rfl⟩
      have KF := fun w2 => Follows_any v u hvv.cb hvu.cb w2
      rw [hf1] at KF
      have HF := keep hf1
      have HCc := fun (hh : f = true) => show chain ((l.take (i + 1 + 1)).map CX.ch) = true from by
        have hc := HJ.out.2
        rw [List.map_take] at hc ⊢
        exact chain_take hc (by rw [Nat.add_sub_cancel, List.getElem?_map, hlv]; rfl) (by rw [List.getElem?_map, ← hj, hlu]; rfl) (Nat.succ_pos i) (HF.out.trans hh)
      have HPc := fun (hh : f = false) => HW2.out i v u hlv (by rw [← hj]; exact hlu) (HF.out.trans hh)
      replace HCc := keep HCc
      replace HPc := keep HPc
      have HB := keep HJ.out.1
      clear hf1 HF hlv hlu hvv hvu hj HJ
      obtain ⟨gk, gf, ga, gb, go, gs, gp, ⟨g1, g2, g3⟩, ⟨g4, g5, g6⟩, ⟨g7, g8, g9⟩, ⟨g10, g11, g12⟩, ⟨g13, g14, g15⟩, gps, gbs⟩ := u
      obtain ⟨vk, vf, va, vb, vo, vs, vp, ⟨v1, v2, v3⟩, ⟨v4, v5, v6⟩, ⟨v7, v8, v9⟩, ⟨v10, v11, v12⟩, ⟨v13, v14, v15⟩, vps, vbs⟩ := v
      dsimp only [At12] at hatu hatv
      obtain ⟨c0, c1, c2, c3, c4, c5, c6, c7, c8, c9, c10, c11⟩ := hatu
      obtain ⟨d0, d1, d2, d3, d4, d5, d6, d7, d8, d9, d10, d11⟩ := hatv
      dsimp only [CX.cells] at KF
      replace KF := keep KF
      go_wp2_with fail
      go_region_held3 (fun w' => (w'.cell? ⟨b, o + j * 12, none⟩ = some (.int .u8 gk) ∧ w'.cell? ⟨b, o + j * 12 + 1, none⟩ = some (.int .u8 gf) ∧ w'.cell? ⟨b, o + j * 12 + 2, none⟩ = some (.int .u32 ga) ∧ w'.cell? ⟨b, o + j * 12 + 3, none⟩ = some (.int .u32 gb) ∧ w'.cell? ⟨b, o + j * 12 + 4, none⟩ = some (.int .u16 go) ∧ w'.cell? ⟨b, o + j * 12 + 5, none⟩ = some (.int .u16 gs) ∧ w'.cell? ⟨b, o + j * 12 + 6, none⟩ = some (.int .u32 gp) ∧ w'.cell? ⟨b, o + j * 12 + 7, none⟩ = some (.slice g1 g2 g3) ∧ w'.cell? ⟨b, o + j * 12 + 8, none⟩ = some (.slice g4 g5 g6) ∧ w'.cell? ⟨b, o + j * 12 + 9, none⟩ = some (.slice g7 g8 g9) ∧ w'.cell? ⟨b, o + j * 12 + 10, none⟩ = some (.slice g10 g11 g12) ∧ w'.cell? ⟨b, o + j * 12 + 11, none⟩ = some (.slice g13 g14 g15)) ∧ (w'.cell? ⟨b, o + i * 12, none⟩ = some (.int .u8 vk) ∧ w'.cell? ⟨b, o + i * 12 + 1, none⟩ = some (.int .u8 vf) ∧ w'.cell? ⟨b, o + i * 12 + 2, none⟩ = some (.int .u32 va) ∧ w'.cell? ⟨b, o + i * 12 + 3, none⟩ = some (.int .u32 vb) ∧ w'.cell? ⟨b, o + i * 12 + 4, none⟩ = some (.int .u16 vo) ∧ w'.cell? ⟨b, o + i * 12 + 5, none⟩ = some (.int .u16 vs) ∧ w'.cell? ⟨b, o + i * 12 + 6, none⟩ = some (.int .u32 vp) ∧ w'.cell? ⟨b, o + i * 12 + 7, none⟩ = some (.slice v1 v2 v3) ∧ w'.cell? ⟨b, o + i * 12 + 8, none⟩ = some (.slice v4 v5 v6) ∧ w'.cell? ⟨b, o + i * 12 + 9, none⟩ = some (.slice v7 v8 v9) ∧ w'.cell? ⟨b, o + i * 12 + 10, none⟩ = some (.slice v10 v11 v12) ∧ w'.cell? ⟨b, o + i * 12 + 11, none⟩ = some (.slice v13 v14 v15)))
        (first | exact ⟨⟨c0, c1, c2, c3, c4, c5, c6, c7, c8, c9, c10, c11⟩, ⟨d0, d1, d2, d3, d4, d5, d6, d7, d8, d9, d10, d11⟩⟩ | exact q5)
        (first
        | (go_at_call 151; refine (KF.out _).mono ?_; rintro e w5 ⟨rfl, hb5⟩
           have hb5' := (Below.refl wr.heap.size wr).drew.trans hb5
           have q5 := And.intro (At12.step (x := ⟨gk, gf, ga, gb, go, gs, gp, (g1, g2, g3), (g4, g5, g6), (g7, g8, g9), (g10, g11, g12), (g13, g14, g15), gps, gbs⟩) ⟨c0, c1, c2, c3, c4, c5, c6, c7, c8, c9, c10, c11⟩ hb5' hblp) (At12.step (x := ⟨vk, vf, va, vb, vo, vs, vp, (v1, v2, v3), (v4, v5, v6), (v7, v8, v9), (v10, v11, v12), (v13, v14, v15), vps, vbs⟩) ⟨d0, d1, d2, d3, d4, d5, d6, d7, d8, d9, d10, d11⟩ hb5' hblp)
           have HB5 := keep (up HB.out hb5')
           clear hb5 hb5'))
      cases f
      · obtain rfl : r = false := HPc.out rfl
        go_wp2_with fail
        go_ret
        exact ⟨rfl, HB5.out⟩
      · go_wp2_with fail
        go_roundw
        case rel => exact ⟨i + 1, (by clear hw1 hw2 hjw1 hjw2; omega), by go_num, keep ⟨HB5.out, HCc.out rfl⟩⟩
        case measure => (simp [intOf]; clear hw1 hw2 hjw1 hjw2; omega)
    · obtain rfl : q = i := by clear hw1 hw2; omega
      have hc := HJ.out.2
      rw [List.take_of_length_le (by have := HLn.out; clear hw1 hw2; omega)] at hc
      obtain rfl : r = true := HW1.out hc
      clear hc
      go_wp2_with fail
      go_ret
      exact ⟨rfl, HJ.out.1⟩
theorem isWhole_any (A : Option Addr) (n c : Nat) (l : List CX) (w : World) (h : CS w A n c l) (hn : n ≤ 1000000) :
    Calls Tryz.prog 152 #[.slice A n c] w fun e w' => e = .returned (.bool (whole (l.map CX.ch))) ∧ Below w.heap.size w w' := by
  cases n with
  | zero =>
    have : l = [] := List.eq_nil_of_length_eq_zero h.1.symm
    subst this
    exact isWhole_none A c w
  | succ q =>
    obtain ⟨b, o, x, rfl, hbl, hat, hlx, hvx⟩ := h.at_ (j := 0) (Nat.succ_pos q)
    obtain ⟨b', o', y, hA, _, hat', hly, hvy⟩ := h.at_ (j := q) (Nat.lt_succ_self q)
    injection hA with hA
    injection hA with e1 e2
    subst e1 e2
    rw [Nat.zero_mul, Nat.add_zero] at hat
    exact isWhole_some b o q c l w hbl h x y hat hat' hvx.cb hvy.cb hlx hly (by omega) _ rfl
end
section
open Go.RowKit
def TellN (w : World) (o : Option Msg) (e : Ending) (w' : World) : Prop :=
  ∃ x : MX, e = .returned (.tuple #[.agg x.cells.toArray, .bool o.isSome]) ∧ MV w' x ∧ x.msg = o.getD ⟨0, false, 0, []⟩ ∧ Below w.heap.size w w' ∧ ∀ a, x.da.1 = some a → w.heap.size ≤ a.block
theorem own_new {w : World} {base : Nat} {e : TypeId} {n m c : Nat} {A : Option Addr} {xs : List Value} (h : w.ownsRow base e 1 (.slice A n c) m xs) : ∀ a, A = some a → base ≤ a.block := by
  intro a ha
  subst ha
  exact (h.lt a.block rfl).1
set_option maxHeartbeats 1000000 in
theorem Whole_not (A : Option Addr) (n c : Nat) (l : List CX) (w : World) (h : CS w A n c l) (hn : n ≤ 1000000) (hq : whole (l.map CX.ch) = false) :
    Calls Tryz.prog 138 #[.slice A n c] w (TellN w none) := by
  have K1 := fun w2 (hb : Below w.heap.size w w2) => isWhole_any A n c l w2 (h.step hb) hn
  rw [hq] at K1
  replace K1 := keep K1
  have R0 := keep (show MB (w.alloc (.cells MX.zero.cells.toArray 33)) w.heap.size MX.zero from heap_alloc_new w _)
  clear h hn hq
  go_enter Tryz.func138, Tryz.ntmps138
  go_wp2_with (go_at_call 152; refine (K1.out _ (below_lay w _)).mono ?_; rintro e w2 ⟨rfl, hb⟩
               have R1 := show MB w2 w.heap.size MX.zero from (hb.block _ R0.out.lt).trans R0.out
               obtain ⟨⟨r0, r1, r2, r3⟩, rf0, rf1, rf2, rf3⟩ := R1.all
               dsimp only [MX.zero] at r0 r1 r2 r3
               replace R1 := keep R1
               have B1 := keep (up (below_lay w _) hb)
               clear hb)
  exact bodyPost_ret (ret_msg_ok rfl _ _ w.heap.size MX.zero rfl (MB.laid R1.out MX.zero)) rfl ⟨MX.zero, rfl, ⟨by decide, by decide, BS.nil _⟩, rfl, MB.below B1.out MX.zero, fun a ha => (by cases ha)⟩
theorem WJ.laid {w w5 : World} {g : Nat} {u : MX} (M : MB w5 g u) (R : MB w5 w.heap.size MX.zero) (B : Below w.heap.size w w5) (hg : w.heap.size < g) (st : Int) (un : Bool) (pp : Int) :
    WJ w g ⟨st, un, pp, (none, 0, 0), []⟩ ((((w5.setCell ⟨g, 0, none⟩ (.int .u16 st)).setCell ⟨g, 1, none⟩ (.bool un)).setCell ⟨g, 2, none⟩ (.int .u32 pp)).setCell ⟨g, 3, none⟩ (.slice none 0 0)) := by
  refine ⟨M.laid ⟨st, un, pp, (none, 0, 0), []⟩, ?_, World.ownsRow_nil _ _ _ _, ?_, hg, ?_⟩
  · have e : ∀ (W : World) (j : Nat) (v : Value), (W.setCell ⟨g, j, none⟩ v).heap[w.heap.size]? = W.heap[w.heap.size]? := fun W j v => heap_setCell_other W ⟨g, j, none⟩ w.heap.size v (Nat.ne_of_lt hg)
    unfold MB
    rw [e, e, e, e]
    exact R
  · exact (((B.setCell (p := ⟨g, 0, none⟩) (Nat.le_of_lt hg) _).setCell (p := ⟨g, 1, none⟩) (Nat.le_of_lt hg) _).setCell (p := ⟨g, 2, none⟩) (Nat.le_of_lt hg) _).setCell (p := ⟨g, 3, none⟩) (Nat.le_of_lt hg) _
  · have := M.lt
    simp
    omega
set_option maxHeartbeats 7000000 in
theorem Whole_yes (b o q c : Nat) (l : List CX) (w : World) (hbl : b < w.heap.size) (h : CS w (some ⟨b, o, none⟩) (q + 1) c l) (x : CX) (hat : At12 w b o x) (bx : CB x) (hq : q + 1 ≤ 1000000) (hD : ∀ x ∈ l, x.bs.length ≤ 70000) (hw : whole (l.map CX.ch) = true) :
    Calls Tryz.prog 138 #[.slice (some ⟨b, o, none⟩) (q + 1) c] w (TellN w (some ⟨x.ou, decide (x.fl / 4 % 2 = 1), x.pp, l.flatMap CX.bs⟩)) := by
  have HC := keep h
  have HD := keep hD
  have HLn := keep h.1
  have K1 := fun w2 (hb : Below w.heap.size w w2) => isWhole_any _ _ _ l w2 (h.step hb) hq
  rw [hw] at K1
  replace K1 := keep K1
  have R0 := keep (show MB (w.alloc (.cells MX.zero.cells.toArray 33)) w.heap.size MX.zero from heap_alloc_new w _)
  obtain ⟨i0, hi0, hz0, hz1, hz2⟩ := info_parts u8_info
  have hn : 0 < (q : Int) + 1 := by omega
  have K4 := fun w2 => has4_at (c0 := .int .u8 x.kd) (c2 := .int .u32 x.a) (c3 := .int .u32 x.b) (c4 := .int .u16 x.ou) (c5 := .int .u16 x.si) (c6 := .int .u32 x.pp) (c7 := .slice x.bl.1 x.bl.2.1 x.bl.2.2) (c8 := .slice x.du.1 x.du.2.1 x.du.2.2) (c9 := .slice x.sk.1 x.sk.2.1 x.sk.2.2) (c10 := .slice x.pr.1 x.pr.2.1 x.pr.2.2) (c11 := .slice x.da.1 x.da.2.1 x.da.2.2) bx.fl w2
  obtain ⟨un, hU⟩ : ∃ u, decide (x.fl / 4 % 2 = 1) = u := ⟨_, rfl⟩
  rw [hU] at K4 ⊢
  have BO := keep bx.ou
  have BP := keep bx.pp
  have HAT := keep hat
  have HBL := keep hbl
  have HQ := keep hq
  clear h hq hw hD hat bx hU hbl
  obtain ⟨xk, xf, xa, xb, xo, xs, xp, ⟨x1, x2, x3⟩, ⟨x4, x5, x6⟩, ⟨x7, x8, x9⟩, ⟨x10, x11, x12⟩, ⟨x13, x14, x15⟩, xps, xbs⟩ := x
  dsimp only at K4 BO BP ⊢
  replace K4 := keep K4
  go_enter Tryz.func138, Tryz.ntmps138
  go_wp2_with (go_at_call 152; refine (K1.out _ (below_lay w _)).mono ?_; rintro e w2 ⟨rfl, hb⟩
               have R1 := keep (show MB w2 w.heap.size MX.zero from (hb.block _ R0.out.lt).trans R0.out)
               have B1 := keep (up (below_lay w _) hb)
               have A1 := HAT.out.step B1.out HBL.out
               dsimp only [At12] at A1
               obtain ⟨c0, c1, c2, c3, c4, c5, c6, c7, c8, c9, c10, c11⟩ := A1
               have hb2 := Nat.lt_of_lt_of_le HBL.out B1.out.size
               have hne : w2.heap.size ≠ b := by omega
               clear hb)
  go_region_held3 (fun w' => w'.cell? ⟨b, o, none⟩ = some (.int .u8 xk) ∧ w'.cell? ⟨b, o + 1, none⟩ = some (.int .u8 xf) ∧ w'.cell? ⟨b, o + 2, none⟩ = some (.int .u32 xa) ∧ w'.cell? ⟨b, o + 3, none⟩ = some (.int .u32 xb) ∧ w'.cell? ⟨b, o + 4, none⟩ = some (.int .u16 xo) ∧ w'.cell? ⟨b, o + 5, none⟩ = some (.int .u16 xs) ∧ w'.cell? ⟨b, o + 6, none⟩ = some (.int .u32 xp) ∧ w'.cell? ⟨b, o + 7, none⟩ = some (.slice x1 x2 x3) ∧ w'.cell? ⟨b, o + 8, none⟩ = some (.slice x4 x5 x6) ∧ w'.cell? ⟨b, o + 9, none⟩ = some (.slice x7 x8 x9) ∧ w'.cell? ⟨b, o + 10, none⟩ = some (.slice x10 x11 x12) ∧ w'.cell? ⟨b, o + 11, none⟩ = some (.slice x13 x14 x15))
    (first | exact ⟨c0, c1, c2, c3, c4, c5, c6, c7, c8, c9, c10, c11⟩ | exact q5 | go_keep)
    (first
      | (go_at_call 153; refine (K4.out _).mono ?_; rintro e w5 ⟨rfl, hb5⟩
         have hb5' := (Below.refl w2.heap.size w2).drew.trans hb5
         have q5 := At12.step (x := ⟨xk, xf, xa, xb, xo, xs, xp, (x1, x2, x3), (x4, x5, x6), (x7, x8, x9), (x10, x11, x12), (x13, x14, x15), xps, xbs⟩) ⟨c0, c1, c2, c3, c4, c5, c6, c7, c8, c9, c10, c11⟩ hb5' hb2
         have B5 := keep (up B1.out hb5')
         have R5 := keep (show MB w5 w.heap.size MX.zero from (hb5'.block _ R1.out.lt).trans R1.out)
         dsimp only [At12] at q5
         have hne5 : w5.heap.size ≠ b := by have := hb5'.size; omega
         clear hb5 hb5')
      | (go_at_call 153; refine (K4.out _).mono ?_; rintro e w5 ⟨rfl, hb5⟩
         have lz := below_lay w2.drew (.cells MX.zero.cells.toArray 33)
         have M5 := keep (show MB w5 w2.heap.size MX.zero from (hb5.block w2.heap.size (by simp)).trans (heap_alloc_new w2.drew _))
         have hb5' := ((Below.refl w2.heap.size w2).drew.trans lz).trans (hb5.mono (by simp))
         have q5 := At12.step (x := ⟨xk, xf, xa, xb, xo, xs, xp, (x1, x2, x3), (x4, x5, x6), (x7, x8, x9), (x10, x11, x12), (x13, x14, x15), xps, xbs⟩) ⟨c0, c1, c2, c3, c4, c5, c6, c7, c8, c9, c10, c11⟩ hb5' hb2
         have B5 := keep (up B1.out hb5')
         have R5 := keep (show MB w5 w.heap.size MX.zero from (hb5'.block _ R1.out.lt).trans R1.out)
         dsimp only [At12] at q5
         obtain ⟨⟨m0, m1, m2, m3⟩, mf0, mf1, mf2, mf3⟩ := M5.out.all
         dsimp only [MX.zero] at m0 m1 m2 m3
         clear hb5 hb5' lz))
  all_goals first
    | (have lw := below_lay w5 (.cells [Value.int .u16 xo, .bool un, .int .u32 xp, .slice none 0 0].toArray 33)
       have J0 := keep (show WJ w w5.heap.size ⟨xo, un, xp, (none, 0, 0), []⟩ (w5.alloc (.cells #[Value.int .u16 xo, .bool un, .int .u32 xp, .slice none 0 0] 33)) from
         ⟨heap_alloc_new w5 _, (lw.block _ R5.out.lt).trans R5.out, World.ownsRow_nil _ _ _ _, B5.out.trans (lw.mono B5.out.size), R5.out.lt, by simp⟩)
       clear lw hne5
       generalize w5.alloc _ = W at J0 ⊢
       generalize w5.heap.size = g at J0 ⊢)
    | (have J0 := keep (WJ.laid M5.out R5.out B5.out R1.out.lt xo un xp)
       clear M5 m0 m1 m2 m3 mf0 mf1 mf2 mf3
       generalize World.setCell _ _ _ = W at J0 ⊢
       generalize w2.heap.size = g at J0 ⊢)
  all_goals
    clear q5 R5 B5 R1 B1 c0 c1 c2 c3 c4 c5 c6 c7 c8 c9 c10 c11 hne hb2 K1 K4 R0
    go_wp2_with fail
    go_loopw [26] (fun i wr => ∃ (j : Nat) (A : Option Addr) (N c' : Nat), i = .int .i64 j ∧ j ≤ q + 1 ∧ Hid (WJ w g ⟨xo, un, xp, (A, N, c'), (l.take j).flatMap CX.bs⟩ wr)) (fun i _ => q + 1 - (intOf i).toNat)
    case atStart => exact ⟨0, none, 0, 0, rfl, Nat.zero_le _, J0⟩
    case round =>
      obtain ⟨j, A, N, c', rfl, hj, HJ⟩ := hrel
      clear J0
      by_cases hlt : j < q + 1
      · obtain ⟨b', o', u, hA, hbl', hat, hlj, hv⟩ := (HC.out.step HJ.out.below).at_ hlt
        injection hA with hA
        injection hA with e1 e2
        subst e1 e2
        have lu := below_lay wr (.cells u.cells.toArray 41)
        have HV := keep (hv.step lu)
        have HLJ := keep hlj
        have HJ1 := keep (HJ.out.step lu)
        have HJQ := keep (show j + 1 ≤ q + 1 from hlt)
        have hlt' : (j : Int) < (q : Int) + 1 := by omega
        obtain ⟨hjw2, hjw1⟩ := wrap_in ((j : Int) + 1) (by have := HQ.out; omega)
        have HB9 : N + u.da.2.1 ≤ 80000000000 := by
          have e1 : (bc _).length = N * 1 := HJ.out.own.1
          rw [bc_length] at e1
          have e2 := flat_len_le HD.out j
          have e3 := HV.out.bs.len
          have e4 := HD.out _ (List.mem_of_getElem? HLJ.out)
          have e5 := HQ.out
          dsimp only at e1
          (clear hjw1 hjw2; omega)
        replace HB9 := keep HB9
        clear hv hlj lu hbl'
        obtain ⟨uk, uf, ua, ub, uo, us, uq, ⟨u1, u2, u3⟩, ⟨u4, u5, u6⟩, ⟨u7, u8, u9⟩, ⟨u10, u11, u12⟩, ⟨u13, u14, u15⟩, ups, ubs⟩ := u
        dsimp only [At12] at hat HB9
        dsimp only [CX.cells] at HJ1 HV
        obtain ⟨c0, c1, c2, c3, c4, c5, c6, c7, c8, c9, c10, c11⟩ := hat
        obtain ⟨⟨m0, m1, m2, m3⟩, mf0, mf1, mf2, mf3⟩ := HJ1.out.m.all
        dsimp only at m0 m1 m2 m3
        go_wp2_with (at_builtin; refine wpl_appendK (by decide) rfl (.tmp 31) (.tmp 33) 31 rfl (g + 1) 5 i0 (.int .u8 0) Tryz.underlying31 hi0 hz0 hz1 rfl _ N _ rfl HJ1.out.own u13 u14 u15 (bc ubs) rfl (by rw [Nat.mul_one, bc_length]; exact HV.out.bs.len) HV.out.bs.br.sr (bc_one ubs) (by have := HB9.out; unfold maxLen; (clear hjw1 hjw2; omega)) (by rw [hz2, Nat.mul_one]; have := HB9.out; (clear hjw1 hjw2; omega)) HJ1.out.sz ?_
                     intro A2 c2 w3 ho3 hb3 _
                     have HJ2 := keep (HJ1.out.app ho3.out hb3)
                     clear m0 m1 m2 m3 mf0 mf1 mf2 mf3
                     obtain ⟨⟨m0, m1, m2, m3⟩, mf0, mf1, mf2, mf3⟩ := (show MB w3 g _ from (hb3.block g (Nat.lt_succ_self g)).trans HJ1.out.m).all
                     dsimp only at m0 m1 m2 m3
                     clear ho3 hb3 HJ1)
        go_roundw
        case rel =>
          refine ⟨j + 1, A2, N + u14, c2, by go_num, HJQ.out, keep ?_⟩
          have := HJ2.out
          rw [show (l.take (j + 1)).flatMap CX.bs = (l.take j).flatMap CX.bs ++ ubs by rw [List.take_add_one, HLJ.out]; simp]
          exact this
        case measure => (have := HJQ.out; simp [intOf]; (clear hjw1 hjw2; omega))
      · obtain rfl : j = q + 1 := by omega
        obtain ⟨⟨m0, m1, m2, m3⟩, mf0, mf1, mf2, mf3⟩ := HJ.out.m.all
        obtain ⟨⟨r0, r1, r2, r3⟩, rf0, rf1, rf2, rf3⟩ := HJ.out.r.all
        dsimp only [MX.zero] at m0 m1 m2 m3 r0 r1 r2 r3
        have hll : l.take (q + 1) = l := List.take_of_length_le (by have := HLn.out; omega)
        go_wp2_with fail
        refine bodyPost_ret (ret_msg_ok rfl _ _ w.heap.size ⟨xo, un, xp, (A, N, c'), (l.take (q + 1)).flatMap CX.bs⟩ rfl (MB.laid HJ.out.r ⟨xo, un, xp, (A, N, c'), (l.take (q + 1)).flatMap CX.bs⟩)) rfl ⟨⟨xo, un, xp, (A, N, c'), (l.take (q + 1)).flatMap CX.bs⟩, rfl, ⟨BO.out, BP.out, MB.own HJ.out.own (Nat.lt_succ_of_lt HJ.out.gw) ⟨xo, un, xp, (A, N, c'), (l.take (q + 1)).flatMap CX.bs⟩⟩, ?_, MB.below HJ.out.below ⟨xo, un, xp, (A, N, c'), (l.take (q + 1)).flatMap CX.bs⟩, fun a ha => Nat.le_trans (by have := HJ.out.gw; omega) (own_new HJ.out.own a ha)⟩
        rw [hll]
        rfl
theorem Whole_any (A : Option Addr) (n c : Nat) (l : List CX) (w : World) (h : CS w A n c l) (hn : n ≤ 1000000) (hD : ∀ x ∈ l, x.bs.length ≤ 70000) :
    Calls Tryz.prog 138 #[.slice A n c] w (TellN w (wholeO (l.map CX.ch))) := by
  unfold wholeO
  by_cases hq : whole (l.map CX.ch) = true
  · rw [if_pos hq]
    cases n with
    | zero =>
      have : l = [] := List.eq_nil_of_length_eq_zero h.1.symm
      subst this
      cases hq
    | succ q =>
      obtain ⟨b, o, x, rfl, hbl, hat, hlx, hvx⟩ := h.at_ (j := 0) (Nat.succ_pos q)
      rw [Nat.zero_mul, Nat.add_zero] at hat
      have := Whole_yes b o q c l w hbl h x hat hvx.cb hn hD hq
      have e : msgOf (l.map CX.ch) = ⟨x.ou, decide (x.fl / 4 % 2 = 1), x.pp, l.flatMap CX.bs⟩ := by
        cases l with
        | nil => simp at hlx
        | cons z t =>
          simp at hlx
          subst hlx
          simp only [List.map_cons, msgOf, List.flatMap_cons, List.flatMap_map]
          rfl
      rw [e]
      exact this
  · rw [if_neg hq]
    exact Whole_not A n c l w h hn (by simpa using hq)
end
section
open Go.RowKit Go.Maps
theorem zero_pp (w : World) : (zeroValue 192).run Tryz.prog w = .ok (.pointer none) w := by kernel_rfl
theorem pgV_some {pb : Int → Option Nat} {n : Int} {p : Nat} (h : pb n = some p) : pgV pb n = some (.pointer (some ⟨p, 0, none⟩)) := by unfold pgV; rw [h]; rfl
theorem pgV_none {pb : Int → Option Nat} {n : Int} (h : pb n = none) : pgV pb n = none := by unfold pgV; rw [h]; rfl
theorem rel_map {w : World} {G : Gh} {j : Jn} {o : Int} (h : JA w G j o) (W : World) (h1 : W.heap[G.b]? = w.heap[G.b]?) (h2 : W.heap[G.k]? = w.heap[G.k]?) :
    W.cell? ⟨G.b, 0, none⟩ = some (.map (some G.k)) ∧
      ∀ n, 0 ≤ n → n < 4294967296 → (Instr.lookup 123 (.map (some G.k)) (.int .u32 n) false).run Tryz.prog W = .ok ((pgV G.pb n).getD (.pointer none)) W :=
  ⟨(World.cell?_of_block (a := ⟨G.b, 0, none⟩) h1).trans h.c0, fun n n0 n1 => (h.pa.map.same h2).look Tryz.underlying22 Tryz.underlying123 (zero_pp _) (wf32_jo n0 n1)⟩
def tog (l : List Ch) (n : Int) : Bool := l.any fun x => decide (x.a = n) && l.any fun y => fol x y
theorem tog_iff {l : List Ch} {n : Int} : tog l n = true ↔ ∃ x ∈ l, x.a = n ∧ ∃ y ∈ l, Fol x y := by
  unfold tog
  rw [List.any_eq_true]
  constructor
  · rintro ⟨x, hx, h⟩
    obtain ⟨h1, h2⟩ := Bool.and_eq_true_iff.1 h
    obtain ⟨y, hy, h3⟩ := List.any_eq_true.1 h2
    exact ⟨x, hx, of_decide_eq_true h1, y, hy, fol_iff.1 h3⟩
  · rintro ⟨x, hx, h1, y, hy, h3⟩
    exact ⟨x, hx, Bool.and_eq_true_iff.2 ⟨decide_eq_true h1, List.any_eq_true.2 ⟨y, hy, fol_iff.2 h3⟩⟩⟩
theorem PieceAt.at_ {w : World} {F : Nat → Prop} {p : Nat} {x : CX} {f : Int} (h : PieceAt w F p x f) : At12 w p 0 x ∧ w.cell? ⟨p, 12, none⟩ = some (.int .u32 f) ∧ w.frozen? ⟨p, 12, none⟩ = false := by
  have key : ∀ i v, (x.cells ++ [Value.int .u32 f]).toArray[i]? = some v → w.cell? ⟨p, i, none⟩ = some v := fun i v hv => by
    rw [cell_of_row _ _ _ _ _ _ h.blk]
    exact hv
  exact ⟨⟨key 0 _ rfl, key 1 _ rfl, key 2 _ rfl, key 3 _ rfl, key 4 _ rfl, key 5 _ rfl, key 6 _ rfl, key 7 _ rfl, key 8 _ rfl, key 9 _ rfl, key 10 _ rfl, key 11 _ rfl⟩, key 12 _ rfl, by simp [World.frozen?, h.blk]⟩
theorem tog_nil {l : List Ch} {n : Int} (h : ∀ x ∈ l, x.a ≠ n) : tog l n = false := by
  cases ht : tog l n with
  | false => rfl
  | true =>
    obtain ⟨x, hx, e, _⟩ := tog_iff.1 ht
    exact absurd e (h x hx)
theorem tog_no {l : List Ch} {n : Int} (h : ∀ y ∈ l, y.a ≠ (n + 1) % 4294967296) : tog l n = false := by
  cases ht : tog l n with
  | false => rfl
  | true =>
    obtain ⟨x, hx, e, y, hy, hf⟩ := tog_iff.1 ht
    exact absurd (by rw [hf.a, e]) (h y hy)
theorem tog_is {l : List Ch} (hk : KeysC l) {n : Int} {x y : Ch} (hx : x ∈ l) (hy : y ∈ l) (ex : x.a = n) (ey : y.a = (n + 1) % 4294967296) : tog l n = fol x y := by
  rw [Bool.eq_iff_iff, tog_iff]
  constructor
  · rintro ⟨u, hu, eu, v, hv, hf⟩
    have h1 := hk.one hu hx (eu.trans ex.symm)
    subst h1
    have h2 := hk.one hv hy (by rw [hf.a, eu, ey])
    subst h2
    exact fol_iff.2 hf
  · exact fun h => ⟨x, hx, ex, y, hy, fol_iff.1 h⟩
set_option maxRecDepth 1000000 in
set_option maxHeartbeats 4000000 in
theorem together_any {w : World} {G : Gh} {j : Jn} {o : Int} (h : JA w G j o) (hk : KeysC j.ch) {n : Int} (n0 : 0 ≤ n) (n1 : n < 4294967296) :
    Calls Tryz.prog 136 #[.pointer (some ⟨G.b, 0, none⟩), .int .u32 n] w fun e w' => e = .returned (.bool (tog j.ch n)) ∧ Below w.heap.size w w' := by
  obtain ⟨m, hm⟩ : ∃ m, IntKind.u32.wrap (n + 1) = m := ⟨_, rfl⟩
  have em : m = (n + 1) % 4294967296 := by rw [← hm, wrap_u32]
  have m0 : 0 ≤ m ∧ m < 4294967296 := by omega
  have HR := rel_map h
  have c0 := (HR w rfl rfl).1
  have L1 := fun W h1 h2 => (HR W h1 h2).2 n n0 n1
  have L2 := fun W h1 h2 => (HR W h1 h2).2 m m0.1 m0.2
  have hb := h.olt _ h.ob
  have hkl := h.olt _ h.pa.ok
  cases hn : G.pb n with
  | none =>
    have ht : tog j.ch n = false := tog_nil fun x hx e => by
      obtain ⟨p, hp, _⟩ := h.pa.has x hx
      rw [e, hn] at hp
      cases hp
    rw [pgV_none hn] at L1
    rw [ht]
    obtain ⟨q, hq⟩ : ∃ q, (pgV G.pb m).getD (.pointer none) = .pointer q := by
      cases hm' : G.pb m with
      | none => exact ⟨_, by rw [pgV_none hm']; rfl⟩
      | some p => exact ⟨_, by rw [pgV_some hm']; rfl⟩
    rw [hq] at L2
    dsimp only [Option.getD] at L1 L2
    have HS := keep fun W h1 h2 => And.intro (HR W h1 h2).1 (And.intro (L1 W h1 h2) (L2 W h1 h2))
    clear h hk HR L1 L2 hn ht hq em m0 n0 n1
    obtain ⟨b, k, sb, N, v, pb, pc, far, wm, gs, rs, O, F⟩ := G
    dsimp only at *
    go_enter Tryz.func136, Tryz.ntmps136
    go_wp2
    go_region_held3 (fun w' => w'.cell? ⟨b, 0, none⟩ = some (.map (some k)) ∧ (Instr.lookup 123 (.map (some k)) (.int .u32 n) false).run Tryz.prog w' = .ok (.pointer none) w' ∧ (Instr.lookup 123 (.map (some k)) (.int .u32 m) false).run Tryz.prog w' = .ok (.pointer q) w')
      (first | exact HS.out _ rfl rfl) (first | fail)
    all_goals go_wp2
    all_goals go_quiet (fail)
    all_goals go_wp2
    all_goals (go_ret; exact ⟨rfl, below_drewN (Below.refl _ w).drew _⟩)
  | some p =>
    rw [pgV_some hn] at L1
    obtain ⟨hO, hP, hPl, hPa⟩ := h.pa.op n p hn
    cases hm' : G.pb m with
    | none =>
      have ht : tog j.ch n = false := tog_no fun y hy e => by
        obtain ⟨p, hp, _⟩ := h.pa.has y hy
        rw [e, ← em, hm'] at hp
        cases hp
      rw [pgV_none hm'] at L2
      rw [ht]
      dsimp only [Option.getD] at L1 L2
      have HS := keep fun W h1 h2 => And.intro (HR W h1 h2).1 (And.intro (L1 W h1 h2) (L2 W h1 h2))
      clear h hk HR L1 L2 hn hm' ht em m0 n0 n1 hO hP hPl hPa
      obtain ⟨b, k, sb, N, v, pb, pc, far, wm, gs, rs, O, F⟩ := G
      dsimp only at *
      go_enter Tryz.func136, Tryz.ntmps136
      go_wp2
      go_region_held3 (fun w' => w'.cell? ⟨b, 0, none⟩ = some (.map (some k)) ∧ (Instr.lookup 123 (.map (some k)) (.int .u32 n) false).run Tryz.prog w' = .ok (.pointer (some ⟨p, 0, none⟩)) w' ∧ (Instr.lookup 123 (.map (some k)) (.int .u32 m) false).run Tryz.prog w' = .ok (.pointer none) w')
        (first | exact HS.out _ rfl rfl) (first | fail)
      all_goals go_wp2
      all_goals go_quiet (fail)
      all_goals go_wp2
      all_goals (go_ret; exact ⟨rfl, below_drewN (Below.refl _ w).drew _⟩)
    | some q =>
      obtain ⟨hO', hQ, hQl, hQa⟩ := h.pa.op m q hm'
      rw [pgV_some hm'] at L2
      have ht := tog_is hk hPl hQl hPa (hQa.trans em)
      rw [ht]
      dsimp only [Option.getD] at L1 L2
      have HS := keep fun W h1 h2 => And.intro (HR W h1 h2).1 (And.intro (L1 W h1 h2) (L2 W h1 h2))
      have KF := keep fun w2 => Follows_any (G.pc n) (G.pc m) hP.cv.cb hQ.cv.cb w2
      have AP := hP.at_.1
      have AQ := hQ.at_.1
      have hp9 := h.olt _ hO
      have hq9 := h.olt _ hO'
      clear h hk HR L1 L2 hn hm' ht em m0 n0 n1 hO hP hPl hPa hO' hQ hQl hQa
      generalize G.pc n = x at *
      generalize G.pc m = y at *
      obtain ⟨b, k, sb, N, v, pb, pc, far, wm, gs, rs, O, F⟩ := G
      obtain ⟨xk, xf, xa, xb, xo, xs, xp, ⟨x1, x2, x3⟩, ⟨x4, x5, x6⟩, ⟨x7, x8, x9⟩, ⟨x10, x11, x12⟩, ⟨x13, x14, x15⟩, xps, xbs⟩ := x
      obtain ⟨yk, yf, ya, yb, yo, ys, yp, ⟨y1, y2, y3⟩, ⟨y4, y5, y6⟩, ⟨y7, y8, y9⟩, ⟨y10, y11, y12⟩, ⟨y13, y14, y15⟩, yps, ybs⟩ := y
      dsimp only at *
      have HAP := keep AP
      have HAQ := keep AQ
      dsimp only [At12, Nat.zero_add] at AP AQ
      dsimp only [CX.cells] at KF
      go_enter Tryz.func136, Tryz.ntmps136
      go_wp2
      go_region_held3 (fun w' => w'.cell? ⟨b, 0, none⟩ = some (.map (some k)) ∧ (Instr.lookup 123 (.map (some k)) (.int .u32 n) false).run Tryz.prog w' = .ok (.pointer (some ⟨p, 0, none⟩)) w' ∧ (Instr.lookup 123 (.map (some k)) (.int .u32 m) false).run Tryz.prog w' = .ok (.pointer (some ⟨q, 0, none⟩)) w')
        (first | exact HS.out _ rfl rfl) (first | fail)
      all_goals go_wp2
      all_goals
        go_region_held3 (fun w' => (w'.cell? ⟨p, 0, none⟩ = some (.int .u8 xk) ∧ w'.cell? ⟨p, 1, none⟩ = some (.int .u8 xf) ∧ w'.cell? ⟨p, 2, none⟩ = some (.int .u32 xa) ∧ w'.cell? ⟨p, 3, none⟩ = some (.int .u32 xb) ∧ w'.cell? ⟨p, 4, none⟩ = some (.int .u16 xo) ∧ w'.cell? ⟨p, 5, none⟩ = some (.int .u16 xs) ∧ w'.cell? ⟨p, 6, none⟩ = some (.int .u32 xp) ∧ w'.cell? ⟨p, 7, none⟩ = some (.slice x1 x2 x3) ∧ w'.cell? ⟨p, 8, none⟩ = some (.slice x4 x5 x6) ∧ w'.cell? ⟨p, 9, none⟩ = some (.slice x7 x8 x9) ∧ w'.cell? ⟨p, 10, none⟩ = some (.slice x10 x11 x12) ∧ w'.cell? ⟨p, 11, none⟩ = some (.slice x13 x14 x15)) ∧ w'.cell? ⟨q, 0, none⟩ = some (.int .u8 yk) ∧ w'.cell? ⟨q, 1, none⟩ = some (.int .u8 yf) ∧ w'.cell? ⟨q, 2, none⟩ = some (.int .u32 ya) ∧ w'.cell? ⟨q, 3, none⟩ = some (.int .u32 yb) ∧ w'.cell? ⟨q, 4, none⟩ = some (.int .u16 yo) ∧ w'.cell? ⟨q, 5, none⟩ = some (.int .u16 ys) ∧ w'.cell? ⟨q, 6, none⟩ = some (.int .u32 yp) ∧ w'.cell? ⟨q, 7, none⟩ = some (.slice y1 y2 y3) ∧ w'.cell? ⟨q, 8, none⟩ = some (.slice y4 y5 y6) ∧ w'.cell? ⟨q, 9, none⟩ = some (.slice y7 y8 y9) ∧ w'.cell? ⟨q, 10, none⟩ = some (.slice y10 y11 y12) ∧ w'.cell? ⟨q, 11, none⟩ = some (.slice y13 y14 y15))
          (first | exact ⟨AP, AQ⟩ | exact q5)
          (first
            | (go_at_call 151; refine (KF.out _).mono ?_; rintro e w5 ⟨rfl, hb5⟩
               have hb5' := ((Below.refl w.heap.size w).drew.drew).trans hb5
               have a5 := At12.step HAP.out hb5' hp9
               have b5 := At12.step HAQ.out hb5' hq9
               dsimp only [At12, Nat.zero_add] at a5 b5
               have q5 := And.intro a5 b5
               have B5 := keep hb5'
               clear hb5 hb5' a5 b5))
      all_goals go_wp2
      all_goals (go_ret; exact ⟨rfl, B5.out⟩)
end
section
open Go.RowKit Go.Maps
theorem JA.noted {w : World} {G : Gh} {j : Jn} {o : Int} (h : JA w G j o) {first last : Int} (f0 : 0 ≤ first ∧ first < 4294967296) (l0 : 0 ≤ last ∧ last < 4294967296) {p q : Nat} (hp : G.pb first = some p) (hq : G.pb last = some q) :
    JA ((w.setCell ⟨p, 12, none⟩ (.int .u32 last)).setCell ⟨q, 12, none⟩ (.int .u32 first)) { G with far := setF G.far first last } j o ∧ Part G.O w ((w.setCell ⟨p, 12, none⟩ (.int .u32 last)).setCell ⟨q, 12, none⟩ (.int .u32 first)) := by
  have h1 := h.setFar hp l0
  have h2 := h1.1.setFar (n := last) (p := q) hq f0
  have hO := (h.pa.op first p hp).1
  have hO' := (h.pa.op last q hq).1
  refine ⟨?_, (h1.2.mono (S' := G.O) fun i hi => by rw [hi]; exact hO).trans h2.2 fun i hi => .inl (by rw [hi]; exact hO')⟩
  exact h2.1
set_option maxRecDepth 1000000 in
set_option maxHeartbeats 4000000 in
theorem bind_any {w : World} {G : Gh} {j : Jn} {o : Int} (h : JA w G j o) {first last : Int} (f0 : 0 ≤ first ∧ first < 4294967296) (l0 : 0 ≤ last ∧ last < 4294967296) {p q : Nat} (hp : G.pb first = some p) (hq : G.pb last = some q) :
    Calls Tryz.prog 137 #[.pointer (some ⟨G.b, 0, none⟩), .int .u32 first, .int .u32 last] w fun e w' => e = .returned (.tuple #[]) ∧ JA w' { G with far := setF G.far first last } j o ∧ Part G.O w w' := by
  have HR := rel_map h
  have c0 := (HR w rfl rfl).1
  have L1 := fun W h1 h2 => (HR W h1 h2).2 first f0.1 f0.2
  have L2 := fun W h1 h2 => (HR W h1 h2).2 last l0.1 l0.2
  rw [pgV_some hp] at L1
  rw [pgV_some hq] at L2
  dsimp only [Option.getD] at L1 L2
  have HS := keep fun W h1 h2 => And.intro (HR W h1 h2).1 (And.intro (L1 W h1 h2) (L2 W h1 h2))
  obtain ⟨hO, hP, _⟩ := h.pa.op first p hp
  obtain ⟨hO', hQ, _⟩ := h.pa.op last q hq
  obtain ⟨_, p12, pf⟩ := hP.at_
  obtain ⟨_, q12, qf⟩ := hQ.at_
  have hbp : G.b ≠ p := h.only_b.p _ _ hp |>.symm
  have hbq : G.b ≠ q := h.only_b.p _ _ hq |>.symm
  have hkp : G.k ≠ p := map_cells h.pa.map.block hP.blk
  have hkq : G.k ≠ q := map_cells h.pa.map.block hQ.blk
  have HS1 := keep fun W h1 h2 => And.intro (HR W h1 h2).1 (L1 W h1 h2)
  have HF0 := (h.step (Below.refl _ w).drew).noted f0 l0 hp hq
  have HF := keep (And.intro HF0.1 ((Part.refl G.O w).drew.trans HF0.2 fun i hi => .inl hi))
  clear HF0
  have hpq : p = q → first = last := fun e => h.pa.inj first last p hp (by rw [e]; exact hq)
  clear h HR L1 L2 hp hq f0 l0 hO hP hO' hQ
  generalize G.far first = ff at p12
  generalize G.far last = fl at q12
  obtain ⟨b, k, sb, N, v, pb, pc, far, wm, gs, rs, O, F⟩ := G
  dsimp only at *
  by_cases e : p = q
  · have e2 := hpq e
    subst e e2
    clear hpq q12 qf hbq hkq
    go_enter Tryz.func137, Tryz.ntmps137
    go_wp2
    go_region_held3 (fun w' => w'.cell? ⟨b, 0, none⟩ = some (.map (some k)) ∧ (Instr.lookup 123 (.map (some k)) (.int .u32 first) false).run Tryz.prog w' = .ok (.pointer (some ⟨p, 0, none⟩)) w')
      (first | exact HS1.out _ rfl rfl | exact HS1.out _ (same_set rfl hbp) (same_set rfl hkp) | exact HS1.out _ (same_set (same_set rfl hbp) hbp) (same_set (same_set rfl hkp) hkp))
      (first | fail)
    all_goals go_wp2
    all_goals exact bodyPost_end (results_none rfl _ _ _) rfl ⟨rfl, HF.out⟩
  · have e' : q ≠ p := fun c => e c.symm
    clear hpq
    go_enter Tryz.func137, Tryz.ntmps137
    go_wp2
    go_region_held3 (fun w' => w'.cell? ⟨b, 0, none⟩ = some (.map (some k)) ∧ (Instr.lookup 123 (.map (some k)) (.int .u32 first) false).run Tryz.prog w' = .ok (.pointer (some ⟨p, 0, none⟩)) w' ∧ (Instr.lookup 123 (.map (some k)) (.int .u32 last) false).run Tryz.prog w' = .ok (.pointer (some ⟨q, 0, none⟩)) w')
      (first | exact HS.out _ rfl rfl | exact HS.out _ (same_set rfl hbp) (same_set rfl hkp) | exact HS.out _ (same_set (same_set rfl hbp) hbq) (same_set (same_set rfl hkp) hkq))
      (first | fail)
    all_goals go_wp2
    all_goals exact bodyPost_end (results_none rfl _ _ _) rfl ⟨rfl, HF.out⟩
end
end Go.Proofs.YtnlkdlnmffibhaaGreat
