/- The reference of package sip: the code. -/
import Derived.Test.YtjfkiiohmjdceaaSipR
namespace Go.Proofs.Ytjfkiiohmjdceaa
open Go.RowKit
set_option linter.unusedVariables false

/-- u is what a round makes of four numbers. -/
structure Rd (a b c d : BitVec 64) (u : V4) : Prop where
  eq : rnd ⟨a, b, c, d⟩ = u
theorem refRound_is (a b c d : BitVec 64) (u : V4) (w : World) (h : Rd a b c d u) :
    Calls Try.prog 42 #[.int .u64 (a.toNat : Int), .int .u64 (b.toNat : Int), .int .u64 (c.toNat : Int), .int .u64 (d.toNat : Int)] w fun e w' => e = .returned (.tuple #[.int .u64 (u.a.toNat : Int), .int .u64 (u.b.toNat : Int), .int .u64 (u.c.toNat : Int), .int .u64 (u.d.toNat : Int)]) ∧ w = w' :=
  refRound_at a b c d u h.eq w
theorem SR.word {w : World} {A : Option Addr} {l : List (BitVec 64)} (h : SR w A (wv l)) {j : Nat} (hj : j < l.length) :
    ∃ b o, A = some ⟨b, o, none⟩ ∧ w.cell? ⟨b, o + j, none⟩ = some (.int .u64 (l[j].toNat : Int)) := by
  obtain ⟨b, o, e, _, hc⟩ := h.at_ (j := j) (by unfold wv; rw [List.length_map]; exact hj)
  exact ⟨b, o, e, by simpa [wv] using hc⟩
theorem fold_snoc (l : List (BitVec 64)) (v : V4) (j : Nat) (hj : j < l.length) : (l.take (j + 1)).foldl tk v = tk ((l.take j).foldl tk v) l[j] := by
  rw [List.take_succ_eq_append_getElem hj, List.foldl_append]
  rfl
theorem allw_length (bs : List UInt8) : (allw bs).length = bs.length / 8 + 1 := by
  unfold allw
  rw [List.length_append, ws_length]
  rfl

theorem refCode_none (A : Option Addr) (n c : Nat) (B : Option Addr) (m d : Nat) (hn : n ≠ 16) (w : World) :
    Calls Try.prog 30 #[.slice A n c, .slice B m d] w fun e w' => e = .returned (.tuple #[.int .u64 0, .bool false]) ∧ w = w' := by
  have hn' : ((n : Int) == 16) = false := by simp; omega
  clear hn
  go_enter Try.func30, Try.ntmps30
  go_wp2_with fail
  go_ret2
  exact ⟨rfl, rfl⟩

set_option maxRecDepth 100000 in
set_option maxHeartbeats 2000000 in
theorem refCode_some (A : Option Addr) (c : Nat) (key : List UInt8) (B : Option Addr) (m d : Nat) (bs : List UInt8) (w : World) (ha : BS w A 16 c key) (hb : BS w B m d bs) (hm : m ≤ 100000) :
    Calls Try.prog 30 #[.slice A 16 c, .slice B m d] w fun e w' => e = .returned (.tuple #[.int .u64 ((code key bs).toNat : Int), .bool true]) ∧ Below w.heap.size w w' := by
  have hc : (16 : Int) ≤ (c : Int) := by have := ha.cap; omega
  have hc8 : (8 : Int) ≤ (c : Int) := by omega
  have hcn : ¬ c = 8 := by omega
  obtain ⟨b0, o0, rfl, hb0⟩ := ha.place (by decide)
  obtain ⟨k, hk⟩ : ∃ k, wd (key.take 8) = k := ⟨_, rfl⟩
  obtain ⟨l, hl⟩ : ∃ l, wd (key.drop 8) = l := ⟨_, rfl⟩
  have N1 : Num w (some ⟨b0, o0, none⟩) 8 c k := ⟨_, ⟨by rw [List.length_take]; have := ha.len; omega, by omega, ha.br.take 8⟩, by omega, hk⟩
  have N2 : Num w (some ⟨b0, o0 + 8, none⟩) 8 (c - 8) l := by
    refine ⟨_, ⟨by rw [List.length_drop]; have := ha.len; omega, by omega, ?_⟩, by omega, hl⟩
    have := ha.br.drop (k := 8) (cap := c) (by have := ha.len; omega)
    rw [if_neg hcn] at this
    simpa [Addr.add_lit] using this
  obtain ⟨⟨a0, b00, c0, d0⟩, hu⟩ : ∃ u, beg k l = u := ⟨_, rfl⟩
  obtain ⟨h1, h2, h3, h4⟩ : k ^^^ 8317987319222330741 = a0 ∧ l ^^^ 7237128888997146477 = b00 ∧ k ^^^ 7816392313619706465 = c0 ∧ l ^^^ 8387220255154660723 = d0 := by
    unfold beg at hu
    injection hu with h1 h2 h3 h4
    exact ⟨h1, h2, h3, h4⟩
  have X1 : bits .xor .u64 (k.toNat : Int) 8317987319222330741 = a0.toNat := by rw [← h1]; exact xor64 k 8317987319222330741
  have X2 : bits .xor .u64 (l.toNat : Int) 7237128888997146477 = b00.toNat := by rw [← h2]; exact xor64 l 7237128888997146477
  have X3 : bits .xor .u64 (k.toNat : Int) 7816392313619706465 = c0.toNat := by rw [← h3]; exact xor64 k 7816392313619706465
  have X4 : bits .xor .u64 (l.toNat : Int) 8387220255154660723 = d0.toNat := by rw [← h4]; exact xor64 l 8387220255154660723
  obtain ⟨r, hr⟩ : ∃ r, (allw bs).foldl tk ⟨a0, b00, c0, d0⟩ = r := ⟨_, rfl⟩
  have hE : Hid (code key bs = fin r) := by
    show _ = _
    rw [code_allw, hk, hl, hu, hr]
  have HR := keep hr
  have KW := keep (Words_any B m d bs w hb hm)
  have HL := keep (show m / 8 + 1 = (allw bs).length from by rw [allw_length, ← hb.len])
  clear ha hb hk hl hu h1 h2 h3 h4 hr
  go_enter Try.func30, Try.ntmps30
  go_wp2_with (first
    | (go_at_call 40
       refine (refNumber_of w _ _ _ _ _ (by assumption) ?hb).mono ?_
       case hb => exact Below.refl _ _
       rintro e w' ⟨rfl, rfl⟩)
    | (go_at_call 41
       refine KW.out.mono ?_
       rintro e w2 ⟨A2, c2, rfl, s2, hb2⟩
       replace s2 := keep s2
       replace hb2 := keep hb2
       clear KW))
  obtain ⟨L, hL⟩ : ∃ L, (allw bs).length = L := ⟨_, rfl⟩
  have HLL := keep hL
  have hm8 : m / 8 + 1 = L := HL.out.trans hL
  clear hL N1 N2 X1 X2 X3 X4 hc hc8
  obtain ⟨q, hq⟩ : ∃ q, m / 8 + 1 = q := ⟨_, rfl⟩
  rw [hq]
  have hqL : q = L := by omega
  have HQ := keep hqL
  have hqb : q ≤ 100000 := by omega
  clear hm8 hq hqL
  go_loop [8, 9, 10, 11, 13] (fun a b c d i => ∃ (j : Nat) (v : V4), j ≤ q ∧ i = .int .i64 j ∧ Hid (((allw bs).take j).foldl tk ⟨a0, b00, c0, d0⟩ = v) ∧ a = .int .u64 (v.a.toNat : Int) ∧ b = .int .u64 (v.b.toNat : Int) ∧ c = .int .u64 (v.c.toNat : Int) ∧ d = .int .u64 (v.d.toNat : Int)) (fun _ _ _ _ i => q - (intOf i).toNat)
  case atStart => exact ⟨0, _, Nat.zero_le _, rfl, rfl, rfl, rfl, rfl, rfl⟩
  case round =>
    obtain ⟨j, v, hj, rfl, hv, rfl, rfl, rfl, rfl⟩ := hrel
    by_cases hlt : j < q
    · have hjl : j < (allw bs).length := by have := HLL.out; have := HQ.out; omega
      obtain ⟨b1, o1, rfl, hcell⟩ := s2.out.word hjl
      obtain ⟨x, hx⟩ : ∃ x, (allw bs)[j] = x := ⟨_, rfl⟩
      rw [hx] at hcell
      obtain ⟨d1, hd1⟩ : ∃ z, v.d ^^^ x = z := ⟨_, rfl⟩
      obtain ⟨u1, hu1⟩ : ∃ z, rnd ⟨v.a, v.b, v.c, d1⟩ = z := ⟨_, rfl⟩
      obtain ⟨u2, hu2⟩ : ∃ z, rnd ⟨u1.a, u1.b, u1.c, u1.d⟩ = z := ⟨_, rfl⟩
      obtain ⟨a3, ha3⟩ : ∃ z, u2.a ^^^ x = z := ⟨_, rfl⟩
      have hs : Hid (((allw bs).take (j + 1)).foldl tk ⟨a0, b00, c0, d0⟩ = ⟨a3, u2.b, u2.c, u2.d⟩) := by
        show _ = _
        rw [fold_snoc _ _ j hjl, hv.out, hx]
        have hr2 : rn 2 ⟨v.a, v.b, v.c, d1⟩ = u2 := by
          show rnd (rnd ⟨v.a, v.b, v.c, d1⟩) = u2
          rw [hu1]
          exact hu2
        unfold tk
        simp only [hd1, hr2, ha3]
      have R1 : Rd v.a v.b v.c d1 u1 := ⟨hu1⟩
      have R2 : Rd u1.a u1.b u1.c u1.d u2 := ⟨hu2⟩
      have Y1 := xor64 v.d x
      rw [hd1] at Y1
      have Y2 := xor64 u2.a x
      rw [ha3] at Y2
      clear hx hd1 hu1 hu2 ha3 hjl hv
      go_wp2_with (go_at_call 42
                   refine (refRound_is _ _ _ _ _ _ (by assumption)).mono ?_
                   rintro e w' ⟨rfl, rfl⟩)
      go_round
      case rel => exact ⟨j + 1, ⟨a3, u2.b, u2.c, u2.d⟩, by omega, by go_num, hs, rfl, rfl, rfl, rfl⟩
      case measure => simp [intOf]; omega
    · obtain rfl : q = j := by omega
      have hvr : v = r := by
        rw [← hv.out, HQ.out, ← HLL.out, List.take_length]
        exact HR.out
      subst hvr
      obtain ⟨c1, hc1⟩ : ∃ z, v.c ^^^ 255 = z := ⟨_, rfl⟩
      have X1 := xor64 v.c 255
      rw [hc1] at X1
      replace X1 : bits .xor .u64 (v.c.toNat : Int) 255 = c1.toNat := X1
      have HC := keep hc1
      clear hv hc1
      go_wp2_with fail
      go_loop [8, 9, 10, 11, 14] (fun a b c d i => ∃ (j : Nat) (y : V4), j ≤ 4 ∧ i = .int .i64 j ∧ Hid (rn j ⟨v.a, v.b, c1, v.d⟩ = y) ∧ a = .int .u64 (y.a.toNat : Int) ∧ b = .int .u64 (y.b.toNat : Int) ∧ c = .int .u64 (y.c.toNat : Int) ∧ d = .int .u64 (y.d.toNat : Int)) (fun _ _ _ _ i => 4 - (intOf i).toNat)
      case atStart => exact ⟨0, _, Nat.zero_le _, rfl, rfl, rfl, rfl, rfl, rfl⟩
      case round =>
        obtain ⟨i, y, hi, rfl, hy, rfl, rfl, rfl, rfl⟩ := hrel
        by_cases hi4 : i < 4
        · obtain ⟨u1, hu1⟩ : ∃ z, rnd ⟨y.a, y.b, y.c, y.d⟩ = z := ⟨_, rfl⟩
          have R1 : Rd y.a y.b y.c y.d u1 := ⟨hu1⟩
          have hs : Hid (rn (i + 1) ⟨v.a, v.b, c1, v.d⟩ = u1) := by
            show rnd (rn i ⟨v.a, v.b, c1, v.d⟩) = u1
            rw [hy.out]
            exact hu1
          clear hu1 hy
          go_wp2_with (go_at_call 42
                       refine (refRound_is _ _ _ _ _ _ (by assumption)).mono ?_
                       rintro e w' ⟨rfl, rfl⟩)
          go_round
          case rel => exact ⟨i + 1, u1, by omega, by go_num, hs, rfl, rfl, rfl, rfl⟩
          case measure => simp [intOf]; omega
        · obtain rfl : i = 4 := by omega
          obtain ⟨z1, e1⟩ : ∃ z, y.a ^^^ y.b = z := ⟨_, rfl⟩
          obtain ⟨z2, e2⟩ : ∃ z, z1 ^^^ y.c = z := ⟨_, rfl⟩
          obtain ⟨z3, e3⟩ : ∃ z, z2 ^^^ y.d = z := ⟨_, rfl⟩
          have hF : Hid (fin v = z3) := by
            show _ = _
            unfold fin
            simp only [HC.out, hy.out, e1, e2, e3]
          have Y1 := xor64 y.a y.b
          rw [e1] at Y1
          have Y2 := xor64 z1 y.c
          rw [e2] at Y2
          have Y3 := xor64 z2 y.d
          rw [e3] at Y3
          clear e1 e2 e3 hy
          go_wp2_with fail
          go_ret2
          rw [hE.out, hF.out]
          exact ⟨rfl, hb2.out⟩
end Go.Proofs.Ytjfkiiohmjdceaa
