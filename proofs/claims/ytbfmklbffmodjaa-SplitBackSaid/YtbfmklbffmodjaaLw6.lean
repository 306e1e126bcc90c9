/- The walk of the law SplitBack: a message in pieces. -/
import Derived.Test.YtbfmklbffmodjaaLw5
namespace Go.Proofs.Ytbfmklbffmodjaa
open Go.RowKit
set_option linter.unusedVariables false

set_option maxHeartbeats 4000000 in
theorem splitBack_ok (x : MX) (tsn ssn at_ : Int) (k N : Nat) (w : World) (hx : MV w x) (h : (x.da.2.1 : Int) ≤ 2000) (hk : 0 < k) (hk2 : k ≤ 1172) (hx0 : 0 < x.msg.da.length) (hN : cnt k x.msg.da.length = N + 1) (hN2 : N ≤ 2000)
    (KS : ∀ w', Below w.heap.size w w' → Calls Try.prog 8 #[.agg x.cells.toArray, .int .u32 tsn, .int .u16 ssn, .int .i64 (k : Int)] w' (SplitQ (N + 1) (splitL x.msg tsn ssn k) w')) :
    Calls Try.prog 5 #[.agg x.cells.toArray, .int .u32 tsn, .int .u16 ssn, .int .i64 (k : Int), .int .i64 at_] w fun e w' => e = .returned (.bool true) ∧ Below w.heap.size w w' := by
  obtain ⟨Z, hZ⟩ : ∃ Z : Value, Z = .agg #[.int .u8 0, .int .u8 0, .int .u32 0, .int .u32 0, .int .u16 0, .int .u16 0, .int .u32 0, .slice none 0 0, .slice none 0 0, .slice none 0 0, .slice none 0 0, .slice none 0 0] := ⟨_, rfl⟩
  obtain ⟨i0, hi, hz0, hz1, hz2⟩ := info_parts chunk_info
  rw [← hZ] at hz0
  have HZ : Hid (Z.cells.size = 12) := by rw [hZ]; exact keep rfl
  have R0 := keep (show MB (w.alloc (.cells x.cells.toArray 26)) w.heap.size x from heap_alloc_new w _)
  have L0 := keep (below_lay w (.cells x.cells.toArray 26))
  have K0 := keep (fun w => awake_any w)
  have HX := keep hx
  have HK := keep (And.intro hk hk2)
  have HN2 := keep hN2
  have q1 : ¬ 2000 < (x.da.2.1 : Int) := by omega
  have qz : ((N : Int) + 1 == 0) = false := by simp; omega
  have q3 : (1 : Int) ≤ (N : Int) + 1 := by omega
  obtain ⟨hw2, hw1⟩ := wrap_in (N : Int) (by omega)
  obtain ⟨P, hP⟩ : ∃ P, x.msg = P := ⟨_, rfl⟩
  have HPM := keep hP
  rw [hP] at hx0 hN KS
  have HW1 := keep (whole_split (m := P) (tsn := tsn) (ssn := ssn) hk hx0)
  have HW2 := keep (not_tail (m := P) (tsn := tsn) (ssn := ssn) (k := k))
  have HW3 := keep (not_init (m := P) (tsn := tsn) (ssn := ssn) (k := k))
  have HCN := keep hN
  clear hZ hx h hk hk2 hx0 hN hN2 hP
  obtain ⟨xs, xu, xp, ⟨x1, x2, x3⟩, xbs⟩ := x
  dsimp only [MX.cells] at R0 L0 KS q1 ⊢
  replace KS := keep KS
  go_enter Try.func5, Try.ntmps5
  go_upto_region 12 with (first
    | (go_at_call 7; refine (K0.out _).mono ?_; rintro e w1 ⟨rfl, hb1⟩
       have R1 := keep (R0.out.step hb1)
       obtain ⟨⟨m0, m1, m2, m3⟩, _⟩ := R1.out.all
       dsimp only at m0 m1 m2 m3
       have L1 := keep (up L0.out hb1)
       clear hb1 R0)
    | (go_at_call 8; refine (KS.out _ L1.out).mono ?_; rintro e w2 ⟨A, c, l, rfl, hc2, hp2, hl2, hb2⟩
       have R2 := keep (R1.out.step hb2)
       clear m0 m1 m2 m3
       obtain ⟨⟨m0, m1, m2, m3⟩, _⟩ := R2.out.all
       dsimp only at m0 m1 m2 m3
       have L2 := keep (up L1.out hb2)
       obtain ⟨b, o, _, rfl, hbl, _⟩ := hc2.at_ (j := 0) (Nat.succ_pos N)
       have C2 := keep (And.intro hc2 hl2)
       have SMALL := keep (split_small hl2 HK.out.2)
       have KW := Whole_any (some ⟨b, o, none⟩) (N + 1) c l w2 hc2 (by have := HN2.out; omega) SMALL.out
       have hw : wholeO (l.map CX.ch) = some P := by
         rw [hl2]
         unfold wholeO
         rw [if_pos HW1.out.1, HW1.out.2]
       rw [hw] at KW
       have KW1 := keep KW
       have q4 : (1 : Int) ≤ (c : Int) := by have := hc2.2.1; omega
       have q5 : (N : Int) ≤ (c : Int) := by have := hc2.2.1; omega
       clear hb2 R1 KS hc2 hp2 hl2 hbl hw KW)
    | (go_at_call 13; refine KW1.out.mono ?_; rintro e w3 ⟨⟨r3s, r3u, r3p, ⟨r31, r32, r33⟩, r3bs⟩, rfl, rv, rm, hb3⟩
       dsimp only [MX.cells]
       have lz := below_lay w3 (.cells #[Value.int .u16 r3s, .bool r3u, .int .u32 r3p, .slice r31 r32 r33] 26)
       have R3 := keep ((R2.out.step hb3).step lz)
       clear m0 m1 m2 m3
       obtain ⟨⟨m0, m1, m2, m3⟩, _⟩ := R3.out.all
       dsimp only at m0 m1 m2 m3
       have HV := keep (And.intro (rv.step lz) rm)
       have L3 := keep (up (up L2.out hb3) lz)
       have C3 := keep ((C2.out.1.step hb3).step lz)
       have KM := keep (fun (w' : World) (hb : Below (w3.alloc (.cells #[Value.int .u16 r3s, .bool r3u, .int .u32 r3p, .slice r31 r32 r33] 26)).heap.size (w3.alloc (.cells #[Value.int .u16 r3s, .bool r3u, .int .u32 r3p, .slice r31 r32 r33] 26)) w') => refSameM_any ⟨xs, xu, xp, (x1, x2, x3), xbs⟩ ⟨r3s, r3u, r3p, (r31, r32, r33), r3bs⟩ w' ((HX.out.step L3.out).step hb) (HV.out.1.step hb))
       clear hb3 lz rv rm KW1)
    | (go_at_call 15; refine (KM.out _ (Below.refl _ _)).mono ?_; rintro e w4 ⟨he4, hb4⟩
       obtain rfl : e = .returned (.bool true) := by rw [he4, sameM_iff.2 (HPM.out.trans HV.out.2.symm)]
       have L4 := keep (up L3.out hb4)
       have C4 := keep (C3.out.step hb4)
       have KW2 := Whole_any _ _ _ (l.drop 1) w4 (C4.out.drop (k := 1) (by omega)) (by have := HN2.out; omega) (fun z hz => SMALL.out z (List.mem_of_mem_drop hz))
       rw [show wholeO ((l.drop 1).map CX.ch) = none by rw [List.map_drop, C2.out.2]; unfold wholeO; rw [HW2.out]; rfl] at KW2
       replace KW2 := keep KW2
       clear hb4 he4 m0 m1 m2 m3 KM R3 C3)
    | (go_at_call 13; refine KW2.out.mono ?_; rintro e w5 ⟨⟨r5s, r5u, r5p, ⟨r51, r52, r53⟩, r5bs⟩, rfl, rv, rm, hb5⟩
       dsimp only [MX.cells]
       have lz := below_lay w5 (.cells #[Value.int .u16 r5s, .bool r5u, .int .u32 r5p, .slice r51 r52 r53] 26)
       have L5 := keep (up (up L4.out hb5) lz)
       have C5 := keep ((C4.out.step hb5).step lz)
       have KW3 := fun (W : World) (hW : CS W (some ⟨b, o, none⟩) (N + 1) c l) => Whole_any _ _ _ (l.take N) W (hW.take (k := N) (by omega)) (by have := HN2.out; omega) (fun z hz => SMALL.out z (List.mem_of_mem_take hz))
       rw [show wholeO ((l.take N).map CX.ch) = none by rw [List.map_take, C2.out.2]; unfold wholeO; have h3 := HW3.out; rw [HCN.out, Nat.add_sub_cancel] at h3; rw [h3]; rfl] at KW3
       have KW3 := keep (KW3 _ C5.out)
       clear hb5 lz rv rm KW2)
    | (go_at_call 13; refine KW3.out.mono ?_; rintro e w6 ⟨⟨r6s, r6u, r6p, ⟨r61, r62, r63⟩, r6bs⟩, rfl, rv, rm, hb6⟩
       dsimp only [MX.cells]
       have lz := below_lay w6 (.cells #[Value.int .u16 r6s, .bool r6u, .int .u32 r6p, .slice r61 r62 r63] 26)
       have L6 := keep (up (up L5.out hb6) lz)
       have C6 := keep ((C5.out.step hb6).step lz)
       clear hb6 lz rv rm KW3))
  have C7 := C6
  have L7 := L6
  clear C6 L6 C4 C5 L4 L5
  generalize w6.alloc _ = W6 at C7 L7 ⊢
  by_cases hN0 : N = 0
  · subst hN0
    go_wp2_with fail
    all_goals
      go_ret
      exact ⟨rfl, L7.out⟩
  have hN1 : ¬ (N : Int) + 1 < 2 := by omega
  have hN3 : ¬ (N : Int) = 0 := by omega
  have hN4 : ((N : Int) == 0) = false := by simp; exact hN0
  obtain ⟨q, hq, hq2⟩ := and65535 at_
  obtain ⟨j, hj⟩ : ∃ j, q % N = j := ⟨_, rfl⟩
  have hjN : j < N := by rw [← hj]; exact Nat.mod_lt _ (by omega)
  have hj1 : (q : Int) % (N : Int) = (j : Int) := by rw [← hj]; rfl
  have hj2 : (q : Int).tmod (N : Int) = (j : Int) := by rw [Int.tmod_eq_emod_of_nonneg (by omega)]; exact hj1
  have HJN := keep hjN
  have hwj := wrap_in (j : Int) (by have := HN2.out; omega)
  obtain ⟨hwj1, hwj2⟩ := hwj
  clear hj hN0 hjN hq2
  go_upto_region 15 with fail
  have O7 := keep (show (W6.alloc (.cells #[] 39)).ownsRow W6.heap.size 39 12 (.slice (some ⟨W6.heap.size, 0, none⟩) 0 0) 0 [] from own_rowN (heap_alloc_new W6 _) 0 rfl (by decide))
  have C71 := keep (C7.out.step (below_lay W6 (.cells #[] 39)))
  go_upto_region 16 with (at_builtin; refine wpl_appendK (by decide) rfl (.tmp 101) (.tmp 102) 28 rfl W6.heap.size 39 i0 Z Try.underlying28 hi hz0 hz1 HZ.out _ 0 [] rfl O7.out (some ⟨b, o, none⟩) (N + 1) c (flatF CX.cells l) rfl (by rw [flatF_len CX.len, C71.out.len]) C71.out.2.2.1 (flatF_one CX.one l) (by have := HN2.out; unfold maxLen; omega) (by rw [hz2]; have := HN2.out; omega) (by simp) ?_
                          intro A8 cc8 w8 ho8 hb8 _
                          have o8 : w8.ownsRow W6.heap.size 39 12 (.slice A8 (N + 1) cc8) (N + 1) (flatF CX.cells l) := by
                            have h := ho8.out
                            rw [Nat.zero_add, List.nil_append] at h
                            exact h
                          obtain ⟨g, cap, e8⟩ := ownsRow_succ o8
                          injection e8 with e81 _ e83
                          subst e81 e83
                          have X8 := keep (XR.of_own o8)
                          have B8 := keep ((below_lay W6 (.cells #[] 39)).trans hb8)
                          clear ho8 hb8 o8)
  clear O7 C71
  obtain ⟨j2, hj2'⟩ : ∃ j2, j2 = j + 1 := ⟨_, rfl⟩
  have hjj : (j : Int) + 1 = (j2 : Int) := by (clear hw1 hw2 hwj1 hwj2; omega)
  have HJ2 := keep hj2'
  have hjl : (j : Int) < (N : Int) + 1 := by have := HJN.out; (clear hw1 hw2 hwj1 hwj2; omega)
  have hjl2 : (j2 : Int) < (N : Int) + 1 := by have := HJN.out; (clear hw1 hw2 hwj1 hwj2; omega)
  obtain ⟨hwk1, hwk2⟩ := wrap_in (j2 : Int) (by have := HJN.out; have := HN2.out; (clear hw1 hw2 hwj1 hwj2; omega))
  clear hj2'
  have C8 := C7.out.step B8.out
  obtain ⟨b', o', u, hA, _, hatu, hlu, hvu⟩ := C8.at_ (j := j2) (by (clear hw1 hw2 hwj1 hwj2 hwk1 hwk2; omega))
  injection hA with hA
  injection hA with z1 z2
  subst z1 z2
  obtain ⟨b', o', v, hA, _, hatv, hlv, hvv⟩ := C8.at_ (j := j) (by (clear hw1 hw2 hwj1 hwj2 hwk1 hwk2; omega))
  injection hA with hA
  injection hA with z1 z2
  subst z1 z2
  have hatx := X8.out.1.at_ hlv
  obtain ⟨f0, f1, f2, f3, f4, f5, f6, f7, f8, f9, f10, f11⟩ := X8.out.1.fz (j * 12)
  have HLU := keep (And.intro hlu hvu)
  have HLV := keep (And.intro hlv hvv)
  have X9 := keep (X8.out.1.set (j := j) (by have := C8.len; have := HJN.out; (clear hw1 hw2 hwj1 hwj2 hwk1 hwk2; omega)) u)
  have B9 := keep (putAll_below X8.out.2.1 u.cells W6 w8 (j * 12) B8.out)
  clear hlu hvu hlv hvv hatv C8
  obtain ⟨pk, pf, pa, pb, po, ps, pq, ⟨p1, p2, p3⟩, ⟨p4, p5, p6⟩, ⟨p7, p8, p9⟩, ⟨p10, p11, p12⟩, ⟨p13, p14, p15⟩, pps, pbs⟩ := u
  obtain ⟨yk, yf, ya, yb, yo, ys, yq, ⟨y1, y2, y3⟩, ⟨y4, y5, y6⟩, ⟨y7, y8, y9⟩, ⟨y10, y11, y12⟩, ⟨y13, y14, y15⟩, yps, ybs⟩ := v
  dsimp only [At12] at hatu hatx
  dsimp only [CX.cells, putAll] at X9 B9
  simp only [Nat.add_assoc, Nat.reduceAdd] at X9 B9
  obtain ⟨c0, c1, c2, c3, c4, c5, c6, c7, c8, c9, c10, c11⟩ := hatu
  obtain ⟨d0, d1, d2, d3, d4, d5, d6, d7, d8, d9, d10, d11⟩ := hatx
  go_upto_region 17 with fail
  clear c0 c1 c2 c3 c4 c5 c6 c7 c8 c9 c10 c11 d0 d1 d2 d3 d4 d5 d6 d7 d8 d9 d10 d11 f0 f1 f2 f3 f4 f5 f6 f7 f8 f9 f10 f11
  generalize World.setCell _ _ _ = W9 at X9 B9 ⊢
  have C9 := C7.out.step B9.out
  obtain ⟨b', o', v9, hA, _, hatv, hlv9, _⟩ := C9.at_ (j := j) (by have := HJN.out; (clear hw1 hw2 hwj1 hwj2 hwk1 hwk2; omega))
  injection hA with hA
  injection hA with z1 z2
  subst z1 z2
  obtain rfl := Option.some.inj (hlv9.symm.trans HLV.out.1)
  have hsu : (l.set j ⟨pk, pf, pa, pb, po, ps, pq, (p1, p2, p3), (p4, p5, p6), (p7, p8, p9), (p10, p11, p12), (p13, p14, p15), pps, pbs⟩)[j2]? = some ⟨pk, pf, pa, pb, po, ps, pq, (p1, p2, p3), (p4, p5, p6), (p7, p8, p9), (p10, p11, p12), (p13, p14, p15), pps, pbs⟩ := by
    rw [List.getElem?_set_ne (by have := HJ2.out; (clear hw1 hw2 hwj1 hwj2 hwk1 hwk2; omega))]
    exact HLU.out.1
  have hatx := X9.out.at_ hsu
  obtain ⟨f0, f1, f2, f3, f4, f5, f6, f7, f8, f9, f10, f11⟩ := X9.out.fz (j2 * 12)
  have X10 := keep (X9.out.set (j := j2) (by rw [List.length_set]; have := C9.len; have := HJN.out; have := HJ2.out; (clear hw1 hw2 hwj1 hwj2 hwk1 hwk2; omega)) ⟨yk, yf, ya, yb, yo, ys, yq, (y1, y2, y3), (y4, y5, y6), (y7, y8, y9), (y10, y11, y12), (y13, y14, y15), yps, ybs⟩)
  have B10 := keep (putAll_below X8.out.2.1 (CX.cells ⟨yk, yf, ya, yb, yo, ys, yq, (y1, y2, y3), (y4, y5, y6), (y7, y8, y9), (y10, y11, y12), (y13, y14, y15), yps, ybs⟩) W6 W9 (j2 * 12) B9.out)
  clear hlv9 C9 hsu
  dsimp only [At12] at hatv hatx
  dsimp only [CX.cells, putAll] at X10 B10
  simp only [Nat.add_assoc, Nat.reduceAdd] at X10 B10
  obtain ⟨c0, c1, c2, c3, c4, c5, c6, c7, c8, c9, c10, c11⟩ := hatv
  obtain ⟨d0, d1, d2, d3, d4, d5, d6, d7, d8, d9, d10, d11⟩ := hatx
  go_upto_region 18 with fail
  clear c0 c1 c2 c3 c4 c5 c6 c7 c8 c9 c10 c11 d0 d1 d2 d3 d4 d5 d6 d7 d8 d9 d10 d11 f0 f1 f2 f3 f4 f5 f6 f7 f8 f9 f10 f11
  generalize World.setCell _ _ _ = W10 at X10 B10 ⊢
  obtain ⟨l2, hl2⟩ : ∃ l2, (l.set j ⟨pk, pf, pa, pb, po, ps, pq, (p1, p2, p3), (p4, p5, p6), (p7, p8, p9), (p10, p11, p12), (p13, p14, p15), pps, pbs⟩).set j2 ⟨yk, yf, ya, yb, yo, ys, yq, (y1, y2, y3), (y4, y5, y6), (y7, y8, y9), (y10, y11, y12), (y13, y14, y15), yps, ybs⟩ = l2 := ⟨_, rfl⟩
  have hmem : ∀ z ∈ l2, z ∈ l := fun z hz => by
    rw [← hl2] at hz
    rcases List.mem_or_eq_of_mem_set hz with hz | rfl
    · rcases List.mem_or_eq_of_mem_set hz with hz | rfl
      · exact hz
      · exact List.mem_of_getElem? HLU.out.1
    · exact List.mem_of_getElem? HLV.out.1
  have hlen2 : l2.length = N + 1 := by
    rw [← hl2, List.length_set, List.length_set]
    exact C7.out.len.symm
  rw [hl2] at X10
  have C10 := X10.out.cs (c := cc8) (by rw [hlen2]; exact X8.out.2.2) (fun z hz => (C7.out.2.2.2 z (hmem z hz)).step B10.out)
  rw [hlen2] at C10
  have hch : ∀ i z, l[i]? = some z → z.ch = chAt P tsn ssn k i := fun i z hz => by
    have e1 := congrArg (fun r => r[i]?) C2.out.2
    rw [List.getElem?_map, hz] at e1
    exact (splitL_some e1.symm).2
  have hno : whole (l2.map CX.ch) = false := by
    refine not_exch (m := P) (tsn := tsn) (ssn := ssn) (k := k) (j := j) (by rw [HCN.out]; have := HJN.out; (clear hw1 hw2 hwj1 hwj2 hwk1 hwk2; omega)) (by rw [HCN.out]; have := HN2.out; (clear hw1 hw2 hwj1 hwj2 hwk1 hwk2; omega)) ?_ (fun i hi => ?_)
    · rw [List.getElem?_map, ← hl2, List.getElem?_set_ne (by have := HJ2.out; (clear hw1 hw2 hwj1 hwj2 hwk1 hwk2; omega)), List.getElem?_set_self (by have := C7.out.len; have := HJN.out; (clear hw1 hw2 hwj1 hwj2 hwk1 hwk2; omega)), ← HJ2.out]
      exact congrArg some (hch j2 _ HLU.out.1)
    · have hil : i < l.length := by have := C7.out.len; have := HJN.out; (clear hw1 hw2 hwj1 hwj2 hwk1 hwk2; omega)
      rw [List.getElem?_map, ← hl2, List.getElem?_set_ne (by have := HJ2.out; (clear hw1 hw2 hwj1 hwj2 hwk1 hwk2; omega)), List.getElem?_set_ne (by (clear hw1 hw2 hwj1 hwj2 hwk1 hwk2; omega)), List.getElem?_eq_getElem hil]
      exact congrArg some (hch i _ (List.getElem?_eq_getElem hil))
  have KW4 := Whole_any (some ⟨g, 0, none⟩) (N + 1) cc8 l2 W10 C10 (by have := HN2.out; (clear hw1 hw2 hwj1 hwj2 hwk1 hwk2; omega)) (fun z hz => SMALL.out z (hmem z hz))
  rw [show wholeO (l2.map CX.ch) = none by unfold wholeO; rw [hno]; rfl] at KW4
  replace KW4 := keep KW4
  have L10 := keep (up L7.out B10.out)
  clear C10 hno hch hlen2 hmem hl2
  go_wp2_with (go_at_call 13; refine KW4.out.mono ?_; rintro e w11 ⟨⟨r7s, r7u, r7p, ⟨r71, r72, r73⟩, r7bs⟩, rfl, _, _, hb11⟩
               dsimp only [MX.cells]
               have L11 := keep (up (up L10.out hb11) (below_lay w11 (.cells #[Value.int .u16 r7s, .bool r7u, .int .u32 r7p, .slice r71 r72 r73] 26)))
               clear hb11)
  all_goals
    go_ret
    exact ⟨rfl, L11.out⟩
theorem splitBack_walk (x : MX) (tsn ssn most at_ : Int) (w : World) (hx : MV w x) (ht : (Lit.int .u32 tsn).wf = true) (hs : (Lit.int .u16 ssn).wf = true) (hm : (Lit.int .i64 most).wf = true) (_ : (Lit.int .i64 at_).wf = true) :
    Calls Try.prog 5 #[.agg x.cells.toArray, .int .u32 tsn, .int .u16 ssn, .int .i64 most, .int .i64 at_] w fun e w' => e = .returned (.bool true) ∧ Below w.heap.size w w' := by
  have ht' := bounds_u32 ht
  have hs' := bounds_u16 hs
  by_cases h1 : 2000 < (x.da.2.1 : Int)
  · exact splitBack_let x tsn ssn most at_ w h1
  by_cases ha : x.da.2.1 = 0 ∨ most < 1 ∨ 1172 < most
  · exact splitBack_arg x tsn ssn most at_ w (by omega) ha
  obtain ⟨k, rfl⟩ : ∃ k : Nat, most = (k : Int) := ⟨most.toNat, by omega⟩
  have hk : 0 < k := by omega
  have lx : x.msg.da.length = x.da.2.1 := hx.bs.len.symm
  have lb : x.bs.length = x.da.2.1 := hx.bs.len.symm
  obtain ⟨N, hN⟩ : ∃ N, cnt k x.msg.da.length = N + 1 := ⟨cnt k x.msg.da.length - 1, by have := cnt_pos (k := k) (n := x.msg.da.length) hk (by omega); omega⟩
  have cx := cnt_le_n (k := k) (n := x.msg.da.length) hk
  refine splitBack_ok x tsn ssn at_ k N w hx (by omega) hk (by omega) (by omega) hN (by omega) (fun w' hb => ?_)
  have := Split_ok x tsn ssn k w' (hx.step hb) (by omega) (by omega) hk (by omega) (by omega) (by omega)
  unfold SplitP at this
  rw [hN] at this
  exact this
end Go.Proofs.Ytbfmklbffmodjaa
