/- The walk of the law TimerOrder. -/
import Derived.OpenShut
import Derived.Test.YthnhmgdefmahkaaNums
import Derived.Test.YthnhmgdefmahkaaTG
namespace Go.Proofs.Ythnhmgdefmahkaa
open Go.RowKit
set_option linter.unusedVariables false

/-- The timers 0 to j - 1, timer i at zs i. -/
def upL (zs : List Int) : Nat → List (Int × Int)
  | 0 => []
  | j + 1 => startL (upL zs j) (j : Int) (zs.getD j 0)
theorem mem_upL {zs : List Int} {p : Int × Int} : ∀ {j : Nat}, p ∈ upL zs j ↔ ∃ i, i < j ∧ p = ((i : Int), zs.getD i 0)
  | 0 => by simp [upL]
  | j + 1 => by
    rw [upL, mem_startL, mem_upL]
    constructor
    · rintro (rfl | ⟨⟨i, h1, rfl⟩, h2⟩)
      · exact ⟨j, by omega, rfl⟩
      · exact ⟨i, by omega, rfl⟩
    · rintro ⟨i, h1, rfl⟩
      by_cases h : i = j
      · exact .inl (by rw [h])
      · exact .inr ⟨⟨i, by omega, rfl⟩, by simp; omega⟩
theorem len_upL (zs : List Int) : ∀ j, (upL zs j).length ≤ j
  | 0 => by simp [upL]
  | j + 1 => by
    have h1 := len_startL_le (upL zs j) (j : Int) (zs.getD j 0)
    have h2 := len_upL zs j
    rw [upL]
    omega

theorem wf_small (j : Nat) (h : j ≤ 1000000) : (Lit.int .i64 (j : Int)).wf = true := by
  have h1 := wrap64_wf (j : Int)
  have e : wrap64 (j : Int) = j := by unfold wrap64; omega
  rwa [e] at h1

/-- Two sets that share nothing, both from base on. -/
structure Two (base : Nat) (w : World) (b1 : Nat) (m1 : Option Nat) (l1 : List (Int × Int)) (b2 : Nat) (m2 : Option Nat) (l2 : List (Int × Int)) : Prop where
  s1 : SetAt w b1 m1 l1
  s2 : SetAt w b2 m2 l2
  o1 : OwnB base b1 m1
  o2 : OwnB base b2 m2
  ne : ∀ k, Ow b1 m1 k → ¬ Ow b2 m2 k
theorem Two.swap {base : Nat} {w : World} {b1 b2 : Nat} {m1 m2 : Option Nat} {l1 l2 : List (Int × Int)} (h : Two base w b1 m1 l1 b2 m2 l2) : Two base w b2 m2 l2 b1 m1 l1 :=
  ⟨h.s2, h.s1, h.o2, h.o1, fun k h1 h2 => h.ne k h2 h1⟩
theorem Two.started {base : Nat} {a w w' : World} {b1 b2 : Nat} {m1 m2 : Option Nat} {l1 l1' l2 : List (Int × Int)} (h : Two base w b1 m1 l1 b2 m2 l2) (hs : Started w b1 m1 l1' w') (hb : Below base a w) (hz : base ≤ w.heap.size) :
    ∃ m1', Two base w' b1 m1' l1' b2 m2 l2 ∧ Below base a w' ∧ base ≤ w'.heap.size := by
  obtain ⟨m', h1, h2, h3⟩ := hs
  obtain ⟨m'', _, h5, h6, h7⟩ := Started.go ⟨m', h1, h2, h3⟩ h.o1 hb hz
  have ho : OwnB base b1 m' := by
    refine ⟨h.o1.1, fun k hk => ?_⟩
    rcases h2 with rfl | ⟨k', rfl, hk'⟩
    · exact h.o1.2 k hk
    · injection hk with e
      omega
  refine ⟨m', ⟨h1, h.s2.kept h3 fun k h4 h5 => h.ne k h5 h4, ho, h.o2, fun k hk hk2 => ?_⟩, h6, h7⟩
  rcases h2 with rfl | ⟨k', rfl, hk'⟩
  · exact h.ne k hk hk2
  · rcases hk with rfl | hk
    · exact h.ne _ (.inl rfl) hk2
    · injection hk with e
      have := h.s2.ow_lt hk2
      omega
theorem Two.part {base : Nat} {w w' : World} {b1 b2 : Nat} {m1 m2 : Option Nat} {l1 l1' l2 : List (Int × Int)} (h : Two base w b1 m1 l1 b2 m2 l2) (hs : SetAt w' b1 m1 l1') (hp : Part (Ow b1 m1) w w') : Two base w' b1 m1 l1' b2 m2 l2 :=
  ⟨hs, h.s2.kept hp fun k h4 h5 => h.ne k h5 h4, h.o1, h.o2, h.ne⟩
theorem Two.step {base : Nat} {w w' : World} {b1 b2 : Nat} {m1 m2 : Option Nat} {l1 l2 : List (Int × Int)} (h : Two base w b1 m1 l1 b2 m2 l2) (hp : Below w.heap.size w w') : Two base w' b1 m1 l1 b2 m2 l2 :=
  ⟨h.s1.step hp, h.s2.step hp, h.o1, h.o2, h.ne⟩
theorem Two.kept {S : Nat → Prop} {base : Nat} {w w' : World} {b1 b2 : Nat} {m1 m2 : Option Nat} {l1 l2 : List (Int × Int)} (h : Two base w b1 m1 l1 b2 m2 l2) (hp : Part S w w') (hs : ∀ k, Ow b1 m1 k ∨ Ow b2 m2 k → ¬ S k) : Two base w' b1 m1 l1 b2 m2 l2 :=
  ⟨h.s1.kept hp fun k hk => hs k (.inl hk), h.s2.kept hp fun k hk => hs k (.inr hk), h.o1, h.o2, h.ne⟩
theorem Part.of_from {B : Nat} {w w' : World} (h : Below B w w') : Part (fun k => B ≤ k) w w' := ⟨h.os, h.tape, h.output, h.size, fun k _ hk => h.block k (by omega)⟩
theorem nth_sorted {M : List (Int × Int)} (h : Ord M) {k : Nat} {p q : Int × Int} (hp : M[k]? = some p) (hq : M[k + 1]? = some q) : bef p q = true := by
  obtain ⟨h1, h2⟩ := List.getElem?_eq_some_iff.1 hp
  obtain ⟨h3, h4⟩ := List.getElem?_eq_some_iff.1 hq
  have := (List.pairwise_iff_getElem.1 h.sorted) k (k + 1) h1 h3 (by omega)
  rwa [h2, h4] at this

theorem sameB_self (l : List Int) : sameB l l = true := by simp [sameB]

theorem Two.fresh (base : Nat) (w : World) (hb : base ≤ w.heap.size) : Two base ((w.alloc (.cells #[.map none] 27)).alloc (.cells #[.map none] 27)) w.heap.size none [] (w.heap.size + 1) none [] := by
  have h2 := SetAt.fresh (w.alloc (.cells #[.map none] 27))
  have e : (w.alloc (.cells #[.map none] 27)).heap.size = w.heap.size + 1 := by simp
  rw [e] at h2
  refine ⟨(SetAt.fresh w).step (below_lay _ _), h2, ⟨hb, fun k hk => by cases hk⟩, ⟨by omega, fun k hk => by cases hk⟩, fun k hk hk2 => ?_⟩
  rcases hk with rfl | hk
  · rcases hk2 with h | h
    · omega
    · cases h
  · cases hk

set_option maxHeartbeats 8000000 in
set_option maxRecDepth 100000 in
theorem timerOrder_walk (A : Option Addr) (n c : Nat) (zs : List Int) (a b : Int) (w : World) (hz : NS .i64 w A n c zs) (ha : (Lit.int .i64 a).wf = true) (hb : (Lit.int .i64 b).wf = true) :
    Calls Try.prog 7 #[.slice A n c, .int .i64 a, .int .i64 b] w fun e w' => e = .returned (.bool true) ∧ Below w.heap.size w w' := by
  by_cases hn : n ≤ 60
  · have hn' : (n : Int) ≤ 60 := by omega
    by_cases hab : a ≤ b
    · have HZ := keep hz
      clear hz ha hb
      obtain ⟨i0, hi0, hz0, hzz, hz2'⟩ := info_parts int_info
      go_enter Try.func7, Try.ntmps7
      go_wp2_with fail
      refine (awake_any _).mono ?_
      rintro e w0 ⟨rfl, hb0⟩
      have HB0 := keep hb0
      have HT0 := keep (Two.fresh w.heap.size w0 hb0.size)
      have hbb := ((hb0.alloc hb0.size (.cells #[.map none] 27)).alloc (by have := hb0.size; simp; omega) (.cells #[.map none] 27))
      have HBB := keep hbb
      clear hb0 hbb
      go_wp2
      go_loopw [10] (fun i wr => ∃ (j : Nat) (m1 m2 : Option Nat), j ≤ n ∧ i = .int .i64 j ∧ Two w.heap.size wr w0.heap.size m1 (upL zs j) (w0.heap.size + 1) m2 (upL zs j) ∧ Below w.heap.size w wr)
        (fun i _ => n - (intOf i).toNat)
      case atStart => exact ⟨0, none, none, Nat.zero_le _, rfl, HT0.out, HBB.out⟩
      case round =>
        clear HT0 HBB
        obtain ⟨j, m1, m2, hj, rfl, ht, hb⟩ := hrel
        have HT := keep ht
        have HB := keep hb
        clear ht hb
        by_cases hlt : j < n
        · obtain ⟨gb, o, z, rfl, hgb, hc, hzj, hwf⟩ := HZ.out.at_ hlt
          have HW := keep hwf
          have HJW := keep (wf_small j (by omega))
          have hzd : zs.getD j 0 = z := by rw [List.getD_eq_getElem?_getD, hzj]; rfl
          have hup : upL zs (j + 1) = startL (upL zs j) (j : Int) z := by rw [upL, hzd]
          have HU := keep hup
          have hlen := len_upL zs j
          have hc1 := (HB.out.cell (p := ⟨gb, o + j, none⟩) hgb).trans hc
          have HC := keep hc
          clear hwf hzd hup hzj hc
          go_wp2_with fail
          refine (Start_set _ _ _ _ _ _ HT.out.s1 HJW.out HW.out (by omega)).mono ?_
          rintro e w2 ⟨rfl, hst⟩
          obtain ⟨m1', ht2, hb2, hz2⟩ := HT.out.started hst HB.out HB.out.size
          have hc2 := (hb2.cell (p := ⟨gb, o + j, none⟩) hgb).trans HC.out
          have HT2 := keep ht2
          have HB2 := keep hb2
          clear hst ht2 hb2 hc1
          go_wp2_with fail
          refine (Start_set _ _ _ _ _ _ HT2.out.s2 HJW.out HW.out (by omega)).mono ?_
          rintro e w3 ⟨rfl, hst⟩
          obtain ⟨m2', ht3, hb3, hz3⟩ := HT2.out.swap.started hst HB2.out hz2
          rw [← HU.out] at ht3
          have HT3 := keep ht3.swap
          have HB3 := keep hb3
          clear hst ht3 hb3 hc2 hz2 hz3
          go_wp2
          go_roundw
          case rel => exact ⟨j + 1, m1', m2', by omega, by go_num, HT3.out, HB3.out⟩
          case measure => simp [intOf]; omega
        · have hlen : (upL zs n).length ≤ 1000000 := Nat.le_trans (len_upL zs n) (by omega)
          obtain rfl : n = j := by omega
          have hmem := fun p => mem_upL (zs := zs) (p := p) (j := n)
          generalize upL zs n = L at HT hlen hmem
          have HM := keep hmem
          clear hmem
          go_wp2_with fail
          refine (Due_set _ _ _ _ _ HT.out.s1 hlen).mono ?_
          rintro e w1 ⟨A1, c1, rfl, ho1, hs1, hp1⟩
          have hrl : (restL L a).length ≤ 1000000 := Nat.le_trans (List.dropWhile_sublist _).length_le hlen
          have HT1 := keep (HT.out.part hs1 hp1)
          have HB1 := keep (HT.out.o1.below HB.out HB.out.size hp1)
          have hz1 : wr.heap.size ≤ w1.heap.size := hp1.size
          have HO1 := keep ho1.out
          have HO := keep HT.out.s1.ord
          have HSL := keep fun k hk => HT.out.s1.ow_lt (k := k) hk
          have HSL2 := keep fun k hk => HT.out.s2.ow_lt (k := k) hk
          clear ho1 hs1 hp1
          go_wp2_with fail
          refine (Due_set _ _ _ _ _ HT1.out.s1 hrl).mono ?_
          rintro e w2 ⟨A2, c2, rfl, ho2, hs2, hp2⟩
          have HT2 := keep (HT1.out.part hs2 hp2)
          have HB2 := keep (HT1.out.o1.below HB1.out HB1.out.size hp2)
          have HO12 := keep (hp2.own HO1.out fun g hg hc => by
            have h1 := (HO1.out.lt g hg).1
            have h2 := HSL.out g hc
            omega)
          have hz2 : w1.heap.size ≤ w2.heap.size := hp2.size
          have HO2 := keep ho2.out
          have hl1 : (dueL L a).length ≤ 1000000 := Nat.le_trans (List.takeWhile_sublist _).length_le hlen
          have hl2 : (dueL (restL L a) b).length ≤ 1000000 := Nat.le_trans (List.takeWhile_sublist _).length_le hrl
          obtain ⟨p1, hp1⟩ : ∃ p1, dueL L a = p1 := ⟨_, rfl⟩
          obtain ⟨p2, hp2'⟩ : ∃ p2, dueL (restL L a) b = p2 := ⟨_, rfl⟩
          have hcat := (due_two HO.out hab).1
          have hrr := (due_two HO.out hab).2
          rw [hp1, hp2'] at hcat
          rw [hrr] at HT2
          rw [hp1] at HO12 hl1 ⊢
          rw [hp2'] at HO2 hl2 ⊢
          have HCat := keep hcat
          have HSR := keep (SR.of_own2 HO2.out)
          have HBW2 := keep (hp2)
          clear ho2 hs2 hp2 HT1 HO1 HB1 hp1 hp2' hcat hrr
          go_wp2_with (first
            | (at_builtin; refine wpl_append rfl (.tmp 51) (.tmp 54) 35 rfl wr.heap.size 3 i0 (.int .i64 0) Try.underlying35 hi0 hz0 hzz rfl _ p1.length (ints p1) rfl HO12.out A2 p2.length c2 (ints p2) rfl (by rw [ints_len]) HSR.out (by intro u hu; unfold ints at hu; obtain ⟨_, _, rfl⟩ := List.mem_map.1 hu; rfl) (by unfold maxLen; omega) (by rw [hz2']; omega) (by omega) ?_
               intro A3 c3 w3 ho3 hb3))
          have HT3 := keep (HT2.out.kept (Part.of_from hb3) fun k hk hc => by
            rcases hk with hk | hk
            · have := HSL.out k hk; omega
            · have := HSL2.out k hk; omega)
          have HB3 := keep (HB2.out.trans (hb3.mono HB.out.size))
          have hoI := ho3.out
          rw [show ints p1 ++ ints p2 = ints (dueL L b) by rw [← HCat.out]; unfold ints; rw [List.map_append]] at hoI
          have hI := IS.of_own hoI
          have HLen := keep hlen
          have HMo := keep (HO.out.due b)
          have hsub : ∀ p ∈ dueL L b, ∃ i, i < n ∧ p = ((i : Int), zs.getD i 0) := fun p hp => (HM.out p).1 ((List.takeWhile_sublist _).subset hp)
          have HMm := keep hsub
          have hN0 : p1.length + p2.length ≤ 2000000 := by omega
          have hNl : p1.length + p2.length = (dueL L b).length := by rw [← HCat.out, List.length_append]
          generalize p1.length + p2.length = N at hI hoI hN0 hNl ⊢
          have HI := keep hI
          have HRo := keep hoI
          have HNl := keep hNl
          have hz3 : w.heap.size ≤ w3.heap.size := HB3.out.size
          clear hI hoI ho3 hb3 hsub hNl HT2 HB2 HO12 HO2 HSR HBW2 HT HB HM hlen hrl hl1 hl2 hz1 hz2
          go_loopw [12] (fun i wr2 => ∃ k : Nat, k ≤ N ∧ i = .int .i64 ((k : Int) + 1) ∧ Below w3.heap.size w3 wr2)
            (fun i _ => N + 1 - (intOf i).toNat)
          case atStart => exact ⟨0, by omega, rfl, Below.refl _ _⟩
          case round =>
            obtain ⟨k, hk, rfl, hbk⟩ := hrel
            have HBK := keep hbk
            clear hbk
            by_cases hkn : k + 1 < N
            · obtain ⟨rb, ro, x, rfl, hrb, hx0, hxe⟩ := (HI.out.step HBK.out).at_ (j := k) (by omega)
              obtain ⟨rb2, ro2, y, e, hrb2, hy0, hye⟩ := (HI.out.step HBK.out).at_ (j := k + 1) (by omega)
              cases e
              unfold idsL at hxe hye
              rw [List.getElem?_map, Option.map_eq_some_iff] at hxe hye
              obtain ⟨p, hp, rfl⟩ := hxe
              obtain ⟨q, hq, rfl⟩ := hye
              have hbf := nth_sorted HMo.out hp hq
              obtain ⟨i, hi, rfl⟩ := HMm.out p (List.mem_of_getElem? hp)
              obtain ⟨j, hj2, rfl⟩ := HMm.out q (List.mem_of_getElem? hq)
              obtain ⟨tb, to', zi, rfl, htb, hci, hzi, _⟩ := HZ.out.at_ hi
              obtain ⟨tb2, to2, zj, e, htb2, hcj, hzj, _⟩ := HZ.out.at_ hj2
              cases e
              rw [bef_iff, List.getD_eq_getElem?_getD, List.getD_eq_getElem?_getD, hzi, hzj] at hbf
              simp only [Option.getD_some] at hbf
              have hbw := HB3.out.trans (HBK.out.mono hz3)
              have d0 := (hbw.cell (p := ⟨tb, to' + i, none⟩) htb).trans hci
              have d1 := (hbw.cell (p := ⟨tb, to' + j, none⟩) htb).trans hcj
              clear hci hcj hzi hzj hbw hp hq
              have f1 : decide ((i : Int) < 0) = false := by simp
              have f2 : decide ((j : Int) < 0) = false := by simp
              have f3 : decide (n ≤ i) = false := by simp; omega
              have f4 : decide (n ≤ j) = false := by simp; omega
              have f5 : decide (zj < zi) = false := by simp; omega
              by_cases hzz2 : zi = zj
              · have f6 : decide (j < i) = false := by simp; omega
                subst hzz2
                clear hbf
                go_wp2
                go_quiet (fail)
                go_wp2
                go_roundw
                case rel => exact ⟨k + 1, by omega, by go_num, below_drewN HBK.out _⟩
                case measure => simp [intOf]; omega
              · have f6 : (zi == zj) = false := by simp [hzz2]
                clear hbf hzz2
                go_wp2
                go_quiet (fail)
                go_wp2
                go_roundw
                case rel => exact ⟨k + 1, by omega, by go_num, below_drewN HBK.out _⟩
                case measure => simp [intOf]; omega
            · have HT4 := keep (HT3.out.step HBK.out)
              have HI4 := keep (HI.out.step HBK.out)
              have HB4 := keep (HB3.out.trans (HBK.out.mono hz3))
              have HRo4 := keep ((Part.of_below (fun _ => False) HBK.out).own HRo.out fun _ _ hc => hc)
              clear HT3 HI HB3 HBK
              go_wp2_with fail
              refine (Due_set _ _ _ _ _ HT4.out.s2 HLen.out).mono ?_
              rintro e w5 ⟨A5, c5, rfl, ho5, hs5, hp5⟩
              have HT5 := keep (HT4.out.swap.part hs5 hp5).swap
              have HB5 := keep (HT4.out.o2.below HB4.out HB4.out.size hp5)
              have hz5 := HB5.out.size
              have HJ5 := keep (IS.of_own ho5.out)
              have HI5 := keep (IS.of_own (hp5.own HRo4.out fun g hg hc => by
                have h1 := (HRo4.out.lt g hg).1
                have h2 := HSL2.out g hc
                omega))
              have hNd : (dueL L b).length ≤ 2000000 := by have := HNl.out; omega
              rw [← HNl.out] at HJ5 ⊢
              have hN6 : N ≤ 1000000 := by
                have h1 := HNl.out
                have h2 := (List.takeWhile_sublist (l := L) (fun p => decide (p.2 ≤ b))).length_le
                have h3 := HLen.out
                unfold dueL at h1
                omega
              clear ho5 hs5 hp5 HT4 HB4 HI4 HRo4 hNd
              go_wp2_with fail
              refine (same_any A3 N c3 (idsL (dueL L b)) A5 N c5 (idsL (dueL L b)) _ HI5.out HJ5.out hN6 hN6).mono ?_
              rintro e w6 ⟨rfl, hb6⟩
              rw [sameB_self]
              have HT6 := keep (HT5.out.step hb6)
              have HB6 := keep (HB5.out.trans (hb6.mono hz5))
              clear hb6 HT5 HB5 HI5 HJ5
              go_wp2_with fail
              refine (Len_set _ _ _ _ HT6.out.s1).mono ?_
              rintro e w7 ⟨rfl, rfl⟩
              go_wp2_with fail
              refine (Len_set _ _ _ _ HT6.out.s2).mono ?_
              rintro e w7 ⟨rfl, rfl⟩
              go_wp2
              go_ret
              exact ⟨rfl, HB6.out⟩
    · have hab2 : b < a := by omega
      clear hz ha hb hab
      go_enter Try.func7, Try.ntmps7
      go_wp2_with fail
      refine (awake_any _).mono ?_
      rintro e w0 ⟨rfl, hb0⟩
      have HB0 := keep hb0
      clear hb0
      go_wp2
      go_ret
      exact ⟨rfl, HB0.out⟩
  · have hn2 : 60 < (n : Int) := by omega
    clear hz ha hb hn
    go_enter Try.func7, Try.ntmps7
    go_wp2_with fail
    refine (awake_any _).mono ?_
    rintro e w0 ⟨rfl, hb0⟩
    have HB0 := keep hb0
    clear hb0
    go_wp2
    go_ret
    exact ⟨rfl, HB0.out⟩
end Go.Proofs.Ythnhmgdefmahkaa
