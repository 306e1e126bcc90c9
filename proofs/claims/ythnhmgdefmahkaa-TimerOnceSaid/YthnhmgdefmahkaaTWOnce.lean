/- The walk of the law TimerOnce. -/
import Derived.Test.YthnhmgdefmahkaaTWOrder
namespace Go.Proofs.Ythnhmgdefmahkaa
open Go.RowKit
set_option linter.unusedVariables false

/-- Was timer j due behind the first k asks? -/
def past (zs ks : List Int) : Nat → Nat → Bool
  | 0, _ => false
  | k + 1, j => decide (zs.getD j 0 ≤ ks.getD k 0)
theorem past_pos {zs ks : List Int} {k : Nat} (h : 0 < k) (j : Nat) : past zs ks k j = decide (zs.getD j 0 ≤ ks.getD (k - 1) 0) := by
  cases k with
  | zero => omega
  | succ k => rfl
/-- The asks have not fallen at k. -/
def okA (ks : List Int) : Nat → Prop
  | 0 => True
  | k + 1 => ks.getD k 0 ≤ ks.getD (k + 1) 0
/-- l holds those of the timers 0 to n - 1 that were not due behind the first k asks. -/
def Inv (zs ks : List Int) (n k : Nat) (l : List (Int × Int)) : Prop := ∀ p, p ∈ l ↔ ∃ j, j < n ∧ p = ((j : Int), zs.getD j 0) ∧ past zs ks k j = false
theorem Inv.start (zs ks : List Int) (n : Nat) : Inv zs ks n 0 (upL zs n) := fun p => by
  rw [mem_upL]
  exact ⟨fun ⟨j, h1, h2⟩ => ⟨j, h1, h2, rfl⟩, fun ⟨j, h1, h2, _⟩ => ⟨j, h1, h2⟩⟩
theorem past_of {zs ks : List Int} {k j : Nat} (hk : okA ks k) (h : ks.getD k 0 < zs.getD j 0) : past zs ks k j = false := by
  cases k with
  | zero => rfl
  | succ k =>
    have : ks.getD k 0 ≤ ks.getD (k + 1) 0 := hk
    exact decide_eq_false (by omega)
theorem Inv.next {zs ks : List Int} {n k : Nat} {l : List (Int × Int)} (h : Inv zs ks n k l) (ho : Ord l) (hk : okA ks k) : Inv zs ks n (k + 1) (restL l (ks.getD k 0)) := fun p => by
  rw [mem_restL ho, h]
  constructor
  · rintro ⟨⟨j, h1, rfl, h2⟩, h3⟩
    exact ⟨j, h1, rfl, decide_eq_false (by omega)⟩
  · rintro ⟨j, h1, rfl, h2⟩
    have h3 : ks.getD k 0 < zs.getD j 0 := by have := of_decide_eq_false h2; omega
    exact ⟨⟨j, h1, rfl, past_of hk h3⟩, h3⟩
theorem Inv.due {zs ks : List Int} {n k : Nat} {l : List (Int × Int)} (h : Inv zs ks n k l) (ho : Ord l) (hk : okA ks k) {i : Nat} (hi : i < n) : (past zs ks k i || decide ((i : Int) ∈ idsL (dueL l (ks.getD k 0)))) = past zs ks (k + 1) i := by
  have hm : (i : Int) ∈ idsL (dueL l (ks.getD k 0)) ↔ past zs ks k i = false ∧ zs.getD i 0 ≤ ks.getD k 0 := by
    unfold idsL
    rw [List.mem_map]
    constructor
    · rintro ⟨p, hp, he⟩
      obtain ⟨h1, h2⟩ := (mem_dueL ho).1 hp
      obtain ⟨j, h3, rfl, h4⟩ := (h p).1 h1
      have : j = i := by simp at he; omega
      subst this
      exact ⟨h4, h2⟩
    · rintro ⟨h1, h2⟩
      exact ⟨((i : Int), zs.getD i 0), (mem_dueL ho).2 ⟨(h _).2 ⟨i, hi, rfl, h1⟩, h2⟩, rfl⟩
  have hp : past zs ks (k + 1) i = decide (zs.getD i 0 ≤ ks.getD k 0) := rfl
  rw [hp]
  cases hpk : past zs ks k i
  · rw [Bool.false_or]
    rw [hpk] at hm
    exact decide_eq_decide.2 (hm.trans ⟨fun h => h.2, fun h => ⟨rfl, h⟩⟩)
  · rw [Bool.true_or]
    refine (decide_eq_true ?_).symm
    by_cases h0 : ks.getD k 0 < zs.getD i 0
    · rw [past_of hk h0] at hpk
      cases hpk
    · omega
theorem Ord.ids {l : List (Int × Int)} (h : Ord l) : (idsL l).Nodup := by
  unfold idsL List.Nodup
  rw [List.pairwise_map]
  exact h.apart
theorem nodup_take {l : List Int} (h : l.Nodup) {q : Nat} {x : Int} (hx : l[q]? = some x) : x ∉ l.take q := fun hc => by
  obtain ⟨hq, rfl⟩ := List.getElem?_eq_some_iff.1 hx
  obtain ⟨i, hi, he⟩ := List.getElem_of_mem hc
  rw [List.getElem_take] at he
  have hi' : i < q := by rw [List.length_take] at hi; omega
  have := (List.pairwise_iff_getElem.1 h) i q (by omega) hq hi'
  exact this he

/-- The block g holds the bools bl. -/
def MetAt (w : World) (g : Nat) (bl : List Bool) : Prop := w.heap[g]? = some (.cells (bl.map Value.bool).toArray 4 (0, 0))
theorem MetAt.kept {S : Nat → Prop} {w w' : World} {g : Nat} {bl : List Bool} (h : MetAt w g bl) (hp : Part S w w') (hg : ¬ S g) : MetAt w' g bl := (hp.block g (Array.getElem?_eq_some_iff.1 h).1 hg).trans h
theorem MetAt.step {w w' : World} {g : Nat} {bl : List Bool} (h : MetAt w g bl) (hp : Below w.heap.size w w') : MetAt w' g bl := (hp.block g (Array.getElem?_eq_some_iff.1 h).1).trans h
theorem MetAt.cell {w : World} {g j : Nat} {bl : List Bool} {v : Bool} (h : MetAt w g bl) (hj : bl[j]? = some v) : w.cell? ⟨g, j, none⟩ = some (.bool v) := by
  rw [cell_of_row w g j _ _ _ h]
  simp [hj]
theorem MetAt.frozen {w : World} {g : Nat} {bl : List Bool} (h : MetAt w g bl) (j : Nat) : w.frozen? ⟨g, j, none⟩ = false := by simp [World.frozen?, show w.heap[g]? = _ from h]
theorem MetAt.set {w : World} {g : Nat} {bl : List Bool} (h : MetAt w g bl) (j : Nat) (v : Bool) : MetAt (w.setCell ⟨g, j, none⟩ (.bool v)) g (bl.set j v) := by
  have h' : w.heap[g]? = _ := h
  unfold MetAt World.setCell
  simp [Array.getElem?_modify, h', List.map_set]
theorem bool_info : (Try.prog.info? 4).map (fun i => (i.zero, i.size, i.bytes)) = some (some (.bool false), 1, 1) := by kernel_rfl
/-- bl tells f of each number below n. -/
def Tells (bl : List Bool) (n : Nat) (f : Nat → Bool) : Prop := ∀ j, j < n → bl[j]? = some (f j)
theorem Tells.set {bl : List Bool} {n : Nat} {f g : Nat → Bool} (h : Tells bl n f) {j : Nat} (hj : j < n) (hg : ∀ i, i < n → g i = (f i || decide (i = j))) : Tells (bl.set j true) n g := fun i hi => by
  have hl : j < bl.length := (List.getElem?_eq_some_iff.1 (h j hj)).1
  rw [List.getElem?_set, hg i hi]
  by_cases hij : j = i
  · subst hij
    simp [hl]
  · rw [if_neg hij, h i hi]
    simp [Ne.symm hij]

set_option maxHeartbeats 8000000 in
set_option maxRecDepth 100000 in
theorem timerOnce_walk (A : Option Addr) (n c : Nat) (zs : List Int) (B : Option Addr) (m d : Nat) (ks : List Int) (w : World) (hz : NS .i64 w A n c zs) (ha : NS .i64 w B m d ks) :
    Calls Try.prog 4 #[.slice A n c, .slice B m d] w fun e w' => e = .returned (.bool true) ∧ Below w.heap.size w w' := by
  by_cases hn : n ≤ 50
  · have hn' : (n : Int) ≤ 50 := by omega
    by_cases hm : m ≤ 50
    · have hm' : (m : Int) ≤ 50 := by omega
      have HZ := keep hz
      have HAs := keep ha
      clear hz ha
      obtain ⟨i0, hi0, hz0, hzz, hz2'⟩ := info_parts bool_info
      go_enter Try.func4, Try.ntmps4
      go_wp2_with fail
      refine (awake_any _).mono ?_
      rintro e w0 ⟨rfl, hb0⟩
      have HS0 := keep (SetAt.fresh w0)
      have HO0 := keep (show OwnB w.heap.size w0.heap.size none from ⟨hb0.size, fun k hk => by cases hk⟩)
      have HB0 := keep (hb0.alloc hb0.size (.cells #[.map none] 27))
      clear hb0
      go_wp2
      go_loopw [7] (fun i wr => ∃ (j : Nat) (ms : Option Nat), j ≤ n ∧ i = .int .i64 j ∧ SetAt wr w0.heap.size ms (upL zs j) ∧ OwnB w.heap.size w0.heap.size ms ∧ Below w.heap.size w wr)
        (fun i _ => n - (intOf i).toNat)
      case atStart => exact ⟨0, none, Nat.zero_le _, rfl, HS0.out, HO0.out, HB0.out⟩
      case round =>
        clear HS0 HO0 HB0
        obtain ⟨j, ms, hj, rfl, hs, ho, hb⟩ := hrel
        have HS := keep hs
        have HO := keep ho
        have HB := keep hb
        clear hs ho hb
        by_cases hlt : j < n
        · obtain ⟨gb, o, z, rfl, hgb, hc, hzj, hwf⟩ := HZ.out.at_ hlt
          have HW := keep hwf
          have HJW := keep (wf_small j (by omega))
          have hzd : zs.getD j 0 = z := by rw [List.getD_eq_getElem?_getD, hzj]; rfl
          have hup : upL zs (j + 1) = startL (upL zs j) (j : Int) z := by rw [upL, hzd]
          have HU := keep hup
          have hlen := len_upL zs j
          have hc1 := (HB.out.cell (p := ⟨gb, o + j, none⟩) hgb).trans hc
          clear hwf hzd hup hzj hc
          go_wp2_with fail
          refine (Start_set _ _ _ _ _ _ HS.out HJW.out HW.out (by omega)).mono ?_
          rintro e w2 ⟨rfl, hst⟩
          obtain ⟨m2, hs2, ho2, hb2, hz2⟩ := hst.go HO.out HB.out HB.out.size
          rw [← HU.out] at hs2
          have HS2 := keep hs2
          have HO2 := keep ho2
          have HB2 := keep hb2
          clear hst hs2 ho2 hb2 hc1 hz2
          go_wp2
          go_roundw
          case rel => exact ⟨j + 1, m2, by omega, by go_num, HS2.out, HO2.out, HB2.out⟩
          case measure => simp [intOf]; omega
        · obtain rfl : n = j := by omega
          have HI0 := keep (Inv.start zs ks n)
          have hlen0 : (upL zs n).length ≤ 1000000 := Nat.le_trans (len_upL zs n) (by omega)
          generalize upL zs n = L at HS HI0 hlen0
          go_wp2_with (at_make; refine wpl_make rfl (.tmp 39) (.tmp 39) 49 rfl 4 i0 (.bool false) Try.underlying49 hi0 hz0 hzz rfl n _ rfl rfl rfl (by rw [hz2']; omega) (by unfold maxLen; omega) ?_; intro w1 hg1 hb1 hs1)
          have hmet1 : MetAt w1 wr.heap.size (List.replicate n false) := by unfold MetAt; rw [List.map_replicate]; exact hg1.out
          have hgn : ¬ Ow w0.heap.size ms wr.heap.size := fun hc => by have := HS.out.ow_lt hc; omega
          have hbw1 := HB.out.trans (hb1.mono HB.out.size)
          have hs2 := HS.out.step hb1
          have HM1 := keep hmet1
          have HGN := keep hgn
          have HB1 := keep hbw1
          have HS1 := keep hs2
          have hgz : w.heap.size ≤ wr.heap.size := HB.out.size
          clear hmet1 hgn hbw1 hs2 hg1 hb1 HS HB
          obtain ⟨g, hgg⟩ : ∃ g, wr.heap.size = g := ⟨_, rfl⟩
          rw [hgg] at HM1 HGN hgz hs1 ⊢
          clear hgg
          go_loopw [9] (fun i wr2 => ∃ (k : Nat) (l : List (Int × Int)) (bl : List Bool), k ≤ m ∧ i = .int .i64 k ∧ SetAt wr2 w0.heap.size ms l ∧ MetAt wr2 g bl ∧ Tells bl n (past zs ks k) ∧ Inv zs ks n k l ∧ l.length ≤ 1000000 ∧ Below w.heap.size w wr2)
            (fun i _ => m - (intOf i).toNat)
          case atStart => exact ⟨0, L, _, Nat.zero_le _, rfl, HS1.out, HM1.out, fun j hj => by simp [past, hj], HI0.out, hlen0, HB1.out⟩
          case round =>
            clear HS1 HM1 HI0 hlen0 HB1 hs1
            obtain ⟨k, l, bl, hk, rfl, hs, hmt, htl, hinv, hll, hb⟩ := hrel
            have HS := keep hs
            have HMt := keep hmt
            have HTl := keep htl
            have HInv := keep hinv
            have HB := keep hb
            clear hs hmt htl hinv hb
            by_cases hkm : k < m
            · obtain ⟨kb, ko, a, rfl, hkb, ha0, hak, hawf⟩ := HAs.out.at_ hkm
              have hka : ks.getD k 0 = a := by rw [List.getD_eq_getElem?_getD, hak]; rfl
              have a0 := (HB.out.cell (p := ⟨kb, ko + k, none⟩) hkb).trans ha0
              have HA0 := keep ha0
              clear hawf ha0
              rcases k with _ | k
              · have hok : okA ks 0 := trivial
                have hm0 : (0 : Nat) < m := by omega
                have hm1 : (0 : Int) < (m : Int) := by omega
                clear hkm
                rw [show ((0 : Nat) : Int) = 0 from rfl]
                rw [Nat.add_zero] at a0 HA0
                have HOk := keep hok
                have HKa := keep hka
                clear hok hka hak
                go_wp2
                go_quiet (fail)
                clear hm1
                have HSq := keep (HS.out.step (below_drewN (Below.refl _ _) nq))
                have HMq := keep (HMt.out.step (below_drewN (Below.refl _ _) nq))
                have HBq := keep (below_drewN HB.out nq)
                have aq := ((below_drewN (Below.refl wr.heap.size wr) nq).cell (p := ⟨kb, ko, none⟩) (Nat.lt_of_lt_of_le hkb HB.out.size)).trans a0
                clear HS HMt HB a0
                generalize wr.drewN nq = w3 at HSq HMq HBq aq ⊢
                go_wp2_with fail
                refine (Due_set _ _ _ _ _ HSq.out hll).mono ?_
                rintro e w4 ⟨A2, c2, rfl, ho4, hs4, hp4⟩
                have HOrd := keep HSq.out.ord
                have hdl : (dueL l a).length ≤ 1000000 := Nat.le_trans (List.takeWhile_sublist _).length_le hll
                have hrl : (restL l a).length ≤ 1000000 := Nat.le_trans (List.dropWhile_sublist _).length_le hll
                have hgl : g < w3.heap.size := (Array.getElem?_eq_some_iff.1 HMq.out).1
                have HAddr := keep fun b hb => (ho4.out.lt b hb).1
                have HIds := keep (IS.of_own ho4.out)
                have HS4 := keep hs4
                have HM4 := keep (HMq.out.kept hp4 HGN.out)
                have HB4 := keep (HO.out.below HBq.out HBq.out.size hp4)
                clear ho4 hs4 hp4 HSq HMq HBq aq hll
                obtain ⟨dd, hdd⟩ : ∃ dd, dueL l a = dd := ⟨_, rfl⟩
                rw [hdd] at hdl HAddr HIds ⊢
                have HDD := keep hdd
                clear hdd
                obtain ⟨nd, hnd⟩ : ∃ nd, dd.length = nd := ⟨_, rfl⟩
                rw [hnd] at hdl HAddr HIds ⊢
                have HND := keep hnd
                clear hnd
                go_wp2
                go_loopw [11] (fun i wr2 => ∃ (q : Nat) (bl2 : List Bool), q ≤ nd ∧ i = .int .i64 q ∧ MetAt wr2 g bl2 ∧ Tells bl2 n (fun j => past zs ks 0 j || decide ((j : Int) ∈ (idsL dd).take q)) ∧ Part (fun i => i = g) w4 wr2)
                  (fun i _ => nd - (intOf i).toNat)
                case atStart => exact ⟨0, bl, Nat.zero_le _, rfl, HM4.out, fun j hj => by rw [HTl.out j hj]; simp, Part.refl _ _⟩
                case round =>
                  clear HM4
                  obtain ⟨q, bl2, hq, rfl, hmt, htl, hpt⟩ := hrel
                  have HMt := keep hmt
                  have HTl2 := keep htl
                  have HPt := keep hpt
                  have HB5 := keep (HB4.out.trans (hpt.below HB4.out.size fun k hk => by rw [hk]; exact hgz))
                  clear hmt htl hpt
                  by_cases hqn : q < nd
                  · obtain ⟨rb, ro, x, rfl, hrb, hx0, hxe⟩ := HIds.out.at_ hqn
                    have hxe' := hxe
                    unfold idsL at hxe'
                    rw [List.getElem?_map, Option.map_eq_some_iff] at hxe'
                    obtain ⟨p, hp, rfl⟩ := hxe'
                    have hpl : p ∈ l ∧ p.2 ≤ a := (mem_dueL HOrd.out).1 (by rw [HDD.out]; exact List.mem_of_getElem? hp)
                    obtain ⟨j, hj, rfl, hpast⟩ := (HInv.out p).1 hpl.1
                    obtain ⟨tb, to', zj, rfl, htb, hcj, hzj, _⟩ := HZ.out.at_ hj
                    have hzd : zs.getD j 0 = zj := by rw [List.getD_eq_getElem?_getD, hzj]; rfl
                    have hnt := nodup_take (by rw [← HDD.out]; exact (HOrd.out.due a).ids) hxe
                    have hmf : bl2[j]? = some false := by rw [HTl2.out j hj]; dsimp only; rw [hpast, decide_eq_false hnt]; rfl
                    have hrne : ¬ rb = g := fun e => by have := HAddr.out rb (by simp [Value.ownBlock]); omega
                    have r0 := (World.cell?_of_block (w := w4) (a := ⟨rb, ro + q, none⟩) (HPt.out.block rb hrb hrne)).trans hx0
                    have t0 := (HB5.out.cell (p := ⟨tb, to' + j, none⟩) htb).trans hcj
                    have m0 := HMt.out.cell hmf
                    have m1 := HMt.out.frozen j
                    have hza : zj ≤ a := by rw [← hzd]; exact hpl.2
                    have f1 : decide ((j : Int) < 0) = false := by simp
                    have f2 : decide (n ≤ j) = false := decide_eq_false (by omega)
                    have f3 : decide (a < zj) = false := decide_eq_false (by omega)
                    have b0 := (HB5.out.cell (p := ⟨kb, ko, none⟩) hkb).trans HA0.out
                    have HXE := keep hxe
                    have HR0 := keep r0
                    clear hxe hp hpl hpast hcj hzj hzd hnt hmf hrne hx0 hza
                    go_wp2
                    go_quiet (fail)
                    have hlq := Nat.lt_of_lt_of_le hrb HPt.out.size
                    have r1 := ((below_drewN (Below.refl wr.heap.size wr) nq).cell (p := ⟨rb, ro + q, none⟩) hlq).trans HR0.out
                    have HM6 := keep (HMt.out.step (below_drewN (Below.refl _ _) nq))
                    have HP6 := keep (HPt.out.drewN nq)
                    have n0 := ((below_drewN (Below.refl wr.heap.size wr) nq).cell (p := ⟨g, j, none⟩) (Array.getElem?_eq_some_iff.1 HMt.out).1).trans m0
                    clear r0 t0 m0 m1 b0  hlq HR0 HB5 HMt HPt f1 f3
                    generalize wr.drewN nq = w6 at r1 HM6 HP6 n0 ⊢
                    have n1 := HM6.out.frozen j
                    go_wp2
                    have htl3 : Tells (bl2.set j true) n (fun i => past zs ks 0 i || decide ((i : Int) ∈ (idsL dd).take (q + 1))) := HTl2.out.set hj fun i hi => by
                      rw [List.take_add_one, HXE.out]
                      have e : decide ((i : Int) = (j : Int)) = decide (i = j) := decide_eq_decide.2 (by omega)
                      simp [Bool.or_assoc, e]
                    go_roundw
                    case rel => exact ⟨q + 1, bl2.set j true, by omega, by go_num, HM6.out.set j true, htl3, HP6.out.setCell (.inl rfl) _⟩
                    case measure => simp [intOf]; omega
                  · have htl3 : Tells bl2 n (past zs ks (0 + 1)) := fun i hi => by
                      have h1 := HTl2.out i hi
                      have h2 := HInv.out.due HOrd.out HOk.out hi
                      rw [HKa.out, HDD.out] at h2
                      dsimp only at h1
                      rw [List.take_of_length_le (by have := HIds.out.1; omega), h2] at h1
                      exact h1
                    have hinv3 : Inv zs ks n (0 + 1) (restL l a) := by
                      have := HInv.out.next HOrd.out HOk.out
                      rwa [HKa.out] at this
                    have HT3 := keep htl3
                    have HI3 := keep hinv3
                    have HS5 := keep (HS4.out.kept HPt.out fun i hi e => HGN.out (by rw [← e]; exact hi))
                    clear htl3 hinv3
                    go_wp2
                    go_roundw
                    case rel => exact ⟨0 + 1, restL l a, bl2, by omega, by go_num, HS5.out, HMt.out, HT3.out, HI3.out, hrl, HB5.out⟩
                    case measure => simp [intOf]; omega
              · obtain ⟨kb2, ko2, a', e, hkb2, ha1, hak1, _⟩ := HAs.out.at_ (j := k) (by omega)
                cases e
                have hka1 : ks.getD k 0 = a' := by rw [List.getD_eq_getElem?_getD, hak1]; rfl
                have a1 := (HB.out.cell (p := ⟨kb, ko + k, none⟩) hkb).trans ha1
                have HA1 := keep ha1
                rw [show ((k + 1 : Nat) : Int) = (k : Int) + 1 by omega]
                have q0 : decide (0 < (k : Int) + 1) = true := decide_eq_true (by omega)
                by_cases hlt2 : a < a'
                · have q1 : decide (a < a') = true := by simp [hlt2]
                  clear hka hka1 hak hak1 ha1 hlt2
                  go_wp2
                  go_quiet (fail)
                  go_wp2
                  go_ret
                  exact ⟨rfl, below_drewN HB.out _⟩
                · have hok : okA ks (k + 1) := by show ks.getD k 0 ≤ ks.getD (k + 1) 0; omega
                  have q1 : decide (a < a') = false := by simp; omega
                  have HOk := keep hok
                  have HKa := keep hka
                  have HKa1 := keep hka1
                  clear hka1 hak1 ha1 hlt2
                  clear hok hka hak
                  go_wp2
                  go_quiet (fail)
                  clear q0 q1 a1
                  have HSq := keep (HS.out.step (below_drewN (Below.refl _ _) nq))
                  have HMq := keep (HMt.out.step (below_drewN (Below.refl _ _) nq))
                  have HBq := keep (below_drewN HB.out nq)
                  have aq := ((below_drewN (Below.refl wr.heap.size wr) nq).cell (p := ⟨kb, ko + (k + 1), none⟩) (Nat.lt_of_lt_of_le hkb HB.out.size)).trans a0
                  clear HS HMt HB a0
                  generalize wr.drewN nq = w3 at HSq HMq HBq aq ⊢
                  go_wp2_with fail
                  refine (Due_set _ _ _ _ _ HSq.out hll).mono ?_
                  rintro e w4 ⟨A2, c2, rfl, ho4, hs4, hp4⟩
                  have HOrd := keep HSq.out.ord
                  have hdl : (dueL l a).length ≤ 1000000 := Nat.le_trans (List.takeWhile_sublist _).length_le hll
                  have hrl : (restL l a).length ≤ 1000000 := Nat.le_trans (List.dropWhile_sublist _).length_le hll
                  have hgl : g < w3.heap.size := (Array.getElem?_eq_some_iff.1 HMq.out).1
                  have HAddr := keep fun b hb => (ho4.out.lt b hb).1
                  have HIds := keep (IS.of_own ho4.out)
                  have HS4 := keep hs4
                  have HM4 := keep (HMq.out.kept hp4 HGN.out)
                  have HB4 := keep (HO.out.below HBq.out HBq.out.size hp4)
                  clear ho4 hs4 hp4 HSq HMq HBq aq hll
                  obtain ⟨dd, hdd⟩ : ∃ dd, dueL l a = dd := ⟨_, rfl⟩
                  rw [hdd] at hdl HAddr HIds ⊢
                  have HDD := keep hdd
                  clear hdd
                  obtain ⟨nd, hnd⟩ : ∃ nd, dd.length = nd := ⟨_, rfl⟩
                  rw [hnd] at hdl HAddr HIds ⊢
                  have HND := keep hnd
                  clear hnd
                  go_wp2
                  go_loopw [11] (fun i wr2 => ∃ (q : Nat) (bl2 : List Bool), q ≤ nd ∧ i = .int .i64 q ∧ MetAt wr2 g bl2 ∧ Tells bl2 n (fun j => past zs ks (k + 1) j || decide ((j : Int) ∈ (idsL dd).take q)) ∧ Part (fun i => i = g) w4 wr2)
                    (fun i _ => nd - (intOf i).toNat)
                  case atStart => exact ⟨0, bl, Nat.zero_le _, rfl, HM4.out, fun j hj => by rw [HTl.out j hj]; simp, Part.refl _ _⟩
                  case round =>
                    clear HM4
                    obtain ⟨q, bl2, hq, rfl, hmt, htl, hpt⟩ := hrel
                    have HMt := keep hmt
                    have HTl2 := keep htl
                    have HPt := keep hpt
                    have HB5 := keep (HB4.out.trans (hpt.below HB4.out.size fun k hk => by rw [hk]; exact hgz))
                    clear hmt htl hpt
                    by_cases hqn : q < nd
                    · obtain ⟨rb, ro, x, rfl, hrb, hx0, hxe⟩ := HIds.out.at_ hqn
                      have hxe' := hxe
                      unfold idsL at hxe'
                      rw [List.getElem?_map, Option.map_eq_some_iff] at hxe'
                      obtain ⟨p, hp, rfl⟩ := hxe'
                      have hpl : p ∈ l ∧ p.2 ≤ a := (mem_dueL HOrd.out).1 (by rw [HDD.out]; exact List.mem_of_getElem? hp)
                      obtain ⟨j, hj, rfl, hpast⟩ := (HInv.out p).1 hpl.1
                      obtain ⟨tb, to', zj, rfl, htb, hcj, hzj, _⟩ := HZ.out.at_ hj
                      have hzd : zs.getD j 0 = zj := by rw [List.getD_eq_getElem?_getD, hzj]; rfl
                      have hnt := nodup_take (by rw [← HDD.out]; exact (HOrd.out.due a).ids) hxe
                      have hmf : bl2[j]? = some false := by rw [HTl2.out j hj]; dsimp only; rw [hpast, decide_eq_false hnt]; rfl
                      have hrne : ¬ rb = g := fun e => by have := HAddr.out rb (by simp [Value.ownBlock]); omega
                      have r0 := (World.cell?_of_block (w := w4) (a := ⟨rb, ro + q, none⟩) (HPt.out.block rb hrb hrne)).trans hx0
                      have t0 := (HB5.out.cell (p := ⟨tb, to' + j, none⟩) htb).trans hcj
                      have m0 := HMt.out.cell hmf
                      have m1 := HMt.out.frozen j
                      have hza : zj ≤ a := by rw [← hzd]; exact hpl.2
                      have f1 : decide ((j : Int) < 0) = false := by simp
                      have f2 : decide (n ≤ j) = false := decide_eq_false (by omega)
                      have f3 : decide (a < zj) = false := decide_eq_false (by omega)
                      have b0 := (HB5.out.cell (p := ⟨kb, ko + (k + 1), none⟩) hkb).trans HA0.out
                      have b1 := (HB5.out.cell (p := ⟨kb, ko + k, none⟩) hkb).trans HA1.out
                      have q0 : decide (0 < (k : Int) + 1) = true := decide_eq_true (by omega)
                      have f4 : decide (zj ≤ a') = false := by
                        have := of_decide_eq_false hpast
                        rw [hzd, HKa1.out] at this
                        exact decide_eq_false this
                      have HXE := keep hxe
                      have HR0 := keep r0
                      clear hxe hp hpl hpast hcj hzj hzd hnt hmf hrne hx0 hza
                      go_wp2
                      go_quiet (fail)
                      have hlq := Nat.lt_of_lt_of_le hrb HPt.out.size
                      have r1 := ((below_drewN (Below.refl wr.heap.size wr) nq).cell (p := ⟨rb, ro + q, none⟩) hlq).trans HR0.out
                      have HM6 := keep (HMt.out.step (below_drewN (Below.refl _ _) nq))
                      have HP6 := keep (HPt.out.drewN nq)
                      have n0 := ((below_drewN (Below.refl wr.heap.size wr) nq).cell (p := ⟨g, j, none⟩) (Array.getElem?_eq_some_iff.1 HMt.out).1).trans m0
                      clear r0 t0 m0 m1 b0 b1 q0 f4 hlq HR0 HB5 HMt HPt f1 f3
                      generalize wr.drewN nq = w6 at r1 HM6 HP6 n0 ⊢
                      have n1 := HM6.out.frozen j
                      go_wp2
                      have htl3 : Tells (bl2.set j true) n (fun i => past zs ks (k + 1) i || decide ((i : Int) ∈ (idsL dd).take (q + 1))) := HTl2.out.set hj fun i hi => by
                        rw [List.take_add_one, HXE.out]
                        have e : decide ((i : Int) = (j : Int)) = decide (i = j) := decide_eq_decide.2 (by omega)
                        simp [Bool.or_assoc, e]
                      go_roundw
                      case rel => exact ⟨q + 1, bl2.set j true, by omega, by go_num, HM6.out.set j true, htl3, HP6.out.setCell (.inl rfl) _⟩
                      case measure => simp [intOf]; omega
                    · have htl3 : Tells bl2 n (past zs ks ((k + 1) + 1)) := fun i hi => by
                        have h1 := HTl2.out i hi
                        have h2 := HInv.out.due HOrd.out HOk.out hi
                        rw [HKa.out, HDD.out] at h2
                        dsimp only at h1
                        rw [List.take_of_length_le (by have := HIds.out.1; omega), h2] at h1
                        exact h1
                      have hinv3 : Inv zs ks n ((k + 1) + 1) (restL l a) := by
                        have := HInv.out.next HOrd.out HOk.out
                        rwa [HKa.out] at this
                      have HT3 := keep htl3
                      have HI3 := keep hinv3
                      have HS5 := keep (HS4.out.kept HPt.out fun i hi e => HGN.out (by rw [← e]; exact hi))
                      clear htl3 hinv3
                      go_wp2
                      go_roundw
                      case rel => exact ⟨(k + 1) + 1, restL l a, bl2, by omega, by go_num, HS5.out, HMt.out, HT3.out, HI3.out, hrl, HB5.out⟩
                      case measure => simp [intOf]; omega
            · have hkm' : k = m := by omega
              have HKM := keep hkm'
              subst hkm'
              clear HKM
              have HBk := keep HB.out
              go_wp2
              go_loopw [12] (fun i wr4 => ∃ j : Nat, j ≤ n ∧ i = .int .i64 j ∧ Below wr.heap.size wr wr4)
                (fun i _ => n - (intOf i).toNat)
              case atStart => exact ⟨0, Nat.zero_le _, rfl, Below.refl _ _⟩
              case round =>
                obtain ⟨j, hj, rfl, hbk⟩ := hrel
                have HBK := keep hbk
                clear hbk
                by_cases hjn : j < n
                · by_cases hk0 : 0 < k
                  · obtain ⟨tb, to', zj, rfl, htb, hcj, hzj, _⟩ := HZ.out.at_ hjn
                    obtain ⟨kb, ko, al, rfl, hkb, hal, hak, _⟩ := HAs.out.at_ (j := k - 1) (by omega)
                    have hbw := HB.out.trans (HBK.out.mono HB.out.size)
                    have t0 := (hbw.cell (p := ⟨tb, to' + j, none⟩) htb).trans hcj
                    have a0 := (hbw.cell (p := ⟨kb, ko + (k - 1), none⟩) hkb).trans hal
                    have hpp := past_pos (zs := zs) (ks := ks) hk0 j
                    rw [List.getD_eq_getElem?_getD, List.getD_eq_getElem?_getD, hzj, hak] at hpp
                    simp only [Option.getD_some] at hpp
                    have hm4 := HMt.out.step HBK.out
                    have e1 : ((k : Int) - 1).toNat = k - 1 := by omega
                    by_cases hle : zj ≤ al
                    · have m0 := hm4.cell (by rw [HTl.out j hjn, hpp, decide_eq_true hle])
                      clear hcj hzj hal hak hbw hpp hm4
                      go_wp2
                      go_quiet (fail)
                      go_wp2
                      go_roundw
                      case rel => exact ⟨j + 1, by omega, by go_num, below_drewN HBK.out _⟩
                      case measure => simp [intOf]; omega
                    · have m0 := hm4.cell (by rw [HTl.out j hjn, hpp, decide_eq_false hle])
                      have f1 : decide (zj ≤ al) = false := decide_eq_false hle
                      clear hcj hzj hal hak hbw hpp hm4 hle
                      go_wp2
                      go_quiet (fail)
                      go_wp2
                      go_roundw
                      case rel => exact ⟨j + 1, by omega, by go_num, below_drewN HBK.out _⟩
                      case measure => simp [intOf]; omega
                  · go_wp2
                    go_ret
                    exact ⟨rfl, HB.out.trans (HBK.out.mono HB.out.size)⟩
                · go_wp2
                  go_ret
                  exact ⟨rfl, HB.out.trans (HBK.out.mono HB.out.size)⟩
    · have hm2 : 50 < (m : Int) := by omega
      clear hz ha hm
      go_enter Try.func4, Try.ntmps4
      go_wp2_with fail
      refine (awake_any _).mono ?_
      rintro e w0 ⟨rfl, hb0⟩
      have HB0 := keep hb0
      clear hb0
      go_wp2
      go_ret
      exact ⟨rfl, HB0.out⟩
  · have hn2 : 50 < (n : Int) := by omega
    clear hz ha hn
    go_enter Try.func4, Try.ntmps4
    go_wp2_with fail
    refine (awake_any _).mono ?_
    rintro e w0 ⟨rfl, hb0⟩
    have HB0 := keep hb0
    clear hb0
    go_wp2
    go_ret
    exact ⟨rfl, HB0.out⟩
end Go.Proofs.Ythnhmgdefmahkaa
