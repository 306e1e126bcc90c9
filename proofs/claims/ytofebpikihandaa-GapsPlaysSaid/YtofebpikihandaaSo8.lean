/- The library's sort at numbers of 16 bits: the partition's walk. -/
import Derived.Test.YtofebpikihandaaSo7
import Derived.Deep.CutBlock
namespace Go.Proofs.Ytofebpikihandaa
open Go.RowKit Go.Sort
set_option linter.unusedVariables false
set_option linter.unusedSimpArgs false

structure UpN (a i j n : Nat) : Prop where
  q1 : i < n
  q2 : (i : Int) < (n : Int)
  q3 : a < n
  q4 : (a : Int) < (n : Int)
  q5 : j < n
  q6 : (j : Int) < (n : Int)
  q7 : i ≤ j + 1
  q8 : wrap64 ((i : Int) + 1) = (i : Int) + 1
  q9 : wrap64 ((j : Int) - 1) = (j : Int) - 1
  q10 : (i : Int) ≤ (j : Int)
theorem up_nums {d0 d : Array Int} {p : Int} {a b i j n : Nat} (h : Cut d0 d p a b i j) (hb : b ≤ n ∧ n ≤ 1000000) (hij : i ≤ j) : UpN a i j n := by
  have h1 := h.ai
  have h2 := h.ij
  have h3 := h.jb
  exact ⟨by omega, by omega, by omega, by omega, by omega, by omega, by omega, by unfold wrap64; omega, by unfold wrap64; omega, by omega⟩
structure MetN (a i j n : Nat) : Prop where
  q1 : a < n
  q2 : (a : Int) < (n : Int)
  q3 : j < n
  q4 : (j : Int) < (n : Int)
  q5 : (j : Int) < (i : Int)
  q6 : ¬ (i : Int) ≤ (j : Int)
theorem met_nums {d0 d : Array Int} {p : Int} {a b i j n : Nat} (h : Cut d0 d p a b i j) (hb : b ≤ n ∧ n ≤ 1000000) (hij : j < i) : MetN a i j n := by
  have h1 := h.ai
  have h2 := h.ij
  have h3 := h.jb
  exact ⟨by omega, by omega, by omega, by omega, by omega, by omega⟩
theorem out_meas {d0 d : Array Int} {p : Int} {a b i j i0 j0 : Nat} (h : Cut d0 d p a b i j) (hi : i0 ≤ i) (hj : j ≤ j0) (hij : i ≤ j) : intOf16 (.int .i64 ((j : Int) - 1)) + 1 - intOf16 (.int .i64 ((i : Int) + 1)) < intOf16 (.int .i64 (j0 : Int)) + 1 - intOf16 (.int .i64 (i0 : Int)) := by
  have h3 := h.ai
  simp only [intOf16]
  omega
theorem up_meas {d0 d : Array Int} {p : Int} {a b i j : Nat} (h : Cut d0 d p a b i j) (hij : i ≤ j) : b + 1 - intOf16 (.int .i64 ((i : Int) + 1)) < b + 1 - intOf16 (.int .i64 (i : Int)) := by
  have h3 := h.jb
  simp only [intOf16]
  omega
theorem down_meas {d0 d : Array Int} {p : Int} {a b i j : Nat} (h : Cut d0 d p a b i j) (hij : i ≤ j) : intOf16 (.int .i64 ((j : Int) - 1)) < intOf16 (.int .i64 (j : Int)) := by
  have h3 := h.ai
  simp only [intOf16]
  omega
theorem down_cast {d0 d : Array Int} {p : Int} {a b i j : Nat} (h : Cut d0 d p a b i j) (hij : i ≤ j) : ((j - 1 : Nat) : Int) = (j : Int) - 1 := by
  have h3 := h.ai
  omega
/-- What a scan from below leaves. -/
def UpEnd (w : World) (g : Nat) (d dk : Array Int) (p : Int) (a b j i : Nat) (wx : World) : Prop :=
  Done w g dk wx ∧ Cut d dk p a b i j ∧ (i ≤ j → ltInt dk[i]! p = false)
/-- What a scan from above leaves. -/
def DownEnd (w : World) (g : Nat) (d dk : Array Int) (p : Int) (a b j i : Nat) (wx : World) : Prop :=
  Done w g dk wx ∧ Cut d dk p a b i j ∧ (i ≤ j → ltInt dk[i]! p = false) ∧ (i ≤ j → ltInt dk[j]! p = true)
/-- What the partition answers. -/
def PartPost (w : World) (g : Nat) (d : Array Int) (a b : Nat) (e : Ending) (w' : World) : Prop :=
  ∃ (m : Nat) (z : Bool) (d' : Array Int), e = .returned (.tuple #[.int .i64 m, .bool z]) ∧ Parted d d' a b m ∧ Done w g d' w'

set_option maxHeartbeats 4000000 in
set_option maxRecDepth 1000000 in
theorem partition_any {g c a b q : Nat} {d : Array Int} {w : World} (h : Rw w g d) (hab : a + 1 < b) (hb : b ≤ d.size) (hs : d.size ≤ 1000000) (hq : a ≤ q) (hqb : q < b) :
    Calls Try.prog 45 #[.slice (some ⟨g, 0, none⟩) d.size c, .int .i64 a, .int .i64 b, .int .i64 q] w fun e w' => PartPost w g d a b e w' := by
  obtain ⟨n, hn⟩ : ∃ n, d.size = n := ⟨_, rfl⟩
  have HD := keep (Done.refl h)
  have HN := keep hn
  have HBn := keep (show b ≤ n ∧ n ≤ 1000000 by omega)
  have HC0 := keep (Cut.start hq hqb hb hab)
  have HPP := keep (show PartPost w g d a b = PartPost w g d a b from rfl)
  obtain ⟨G, hG⟩ : ∃ G : Nat → Int, ∀ t, d[t]! = G t := ⟨fun t => d[t]!, fun _ => rfl⟩
  have hcw : ∀ t, t < n → w.cell? ⟨g, t, none⟩ = some (.int .u16 (G t)) := fun t ht => by rw [← hG]; exact HD.out.row.cell (by rw [hn]; exact ht)
  have hfw : ∀ t, t < n → w.frozen? ⟨g, t, none⟩ = false := fun t ht => HD.out.row.fz (by rw [hn]; exact ht)
  have HG := keep hG
  have hbn : b < 1000001 := by omega
  have q1 : q < n := by omega
  have q2 : (q : Int) < (n : Int) := by omega
  have a1 : a < n := by omega
  have a2 : (a : Int) < (n : Int) := by omega
  have w1 : (a : Int) + 1 = ((a + 1 : Nat) : Int) := by omega
  have w2 : (b : Int) - 1 = ((b - 1 : Nat) : Int) := by omega
  have W1 := keep w1
  have W2 := keep w2
  have HSW := keep (show ∀ k, Done w g (swp d a q) (((w.setCell ⟨g, a, none⟩ (.int .u16 (G q))).setCell ⟨g, q, none⟩ (.int .u16 (G a))).drewN k) from fun k => by
    have := (HD.out.swap (i := a) (j := q) (by rw [hn]; exact a1) (by rw [hn]; exact q1)).drew k
    rw [hG, hG] at this
    exact this)
  rw [hn]
  clear h hn hG hs hb w1 w2
  go_enter Try.func45, Try.ntmps45
  go_upto_region 1 with fail
  go_cut [] from 12 to 25 (fun wx => Hid (Done w g (swp d a q) wx))
  case first =>
    by_cases hne : a = q
    · subst hne
      go_region
      all_goals (go_wp2_with fail; go_meet; exact HSW.out 1)
    · have hne2 : ¬ q = a := fun e => hne e.symm
      go_region
      all_goals (go_wp2_with fail; go_meet; exact HSW.out 1)
  case rest =>
    obtain ⟨dk, hdk⟩ : ∃ dk, swp d a q = dk := ⟨_, rfl⟩
    rw [hdk] at HC0 hcut
    obtain ⟨p, hp⟩ : ∃ p, dk[a]! = p := ⟨_, rfl⟩
    rw [hp] at HC0
    clear hdk hp HSW hcw hfw HG
    have HZ := keep (show dk.size = n by rw [HC0.out.size]; exact HN.out)
    obtain ⟨i0, hi0⟩ : ∃ i0, a + 1 = i0 := ⟨_, rfl⟩
    obtain ⟨j, hj⟩ : ∃ j, b - 1 = j := ⟨_, rfl⟩
    rw [hi0, hj] at HC0
    rw [hi0] at W1
    rw [hj] at W2
    have HI := keep hi0
    clear hi0 hj
    go_upto_block 0 with fail
    rw [W1.out, W2.out]
    go_cut [10] from 30 to 45 (fun vi wx => ∃ i : Nat, vi = .int .i64 i ∧ Hid (UpEnd w g d dk p a b j i wx))
    case first =>
      go_wp2_with fail
      go_loopw [10] (fun vi wr => ∃ i : Nat, vi = .int .i64 i ∧ Hid (Done w g dk wr ∧ Cut d dk p a b i j)) (fun vi _ => b + 1 - intOf16 vi)
      case atStart => exact ⟨i0, rfl, hcut.out, HC0.out⟩
      case round =>
        obtain ⟨i, rfl, H⟩ := hrel
        by_cases hij : i ≤ j
        · obtain ⟨G, hG⟩ : ∃ G : Nat → Int, ∀ t, dk[t]! = G t := ⟨fun t => dk[t]!, fun _ => rfl⟩
          have hcw : ∀ t, t < n → wr.cell? ⟨g, t, none⟩ = some (.int .u16 (G t)) := fun t ht => by rw [← hG]; exact H.out.1.row.cell (by rw [HZ.out]; exact ht)
          have HG := keep hG
          clear hG
          obtain ⟨z1, z2, z3, z4, z5, z6, z7, z8, z9, z10⟩ := up_nums H.out.2 HBn.out hij
          have P := keep (up_nums H.out.2 HBn.out hij)
          go_wp2_with fail
          go_quiet (first | (go_at_call 43; refine Calls.quiet_of_same (Less16c _ _ _)))
          go_wp2_with fail
          · have hl : ltInt (G i) (G a) = true := by assumption
            have HU := keep (H.out.2.up hij (by rw [← H.out.2.piv, HG.out, HG.out]; exact hl))
            go_roundw
            case rel => exact ⟨i + 1, by rw [P.out.q8]; rfl, H.out.1.drew _, HU.out⟩
            case measure => first | exact up_meas H.out.2 hij | (rw [P.out.q8]; exact up_meas H.out.2 hij)
          · have hl : ltInt (G i) (G a) = false := by assumption
            have HU := keep (show ltInt dk[i]! p = false by rw [← H.out.2.piv, HG.out, HG.out]; exact hl)
            go_meet
            exact ⟨i, rfl, H.out.1.drew _, H.out.2, fun _ => HU.out⟩
        · have hji : j < i := by omega
          have hjz : ¬ (i : Int) ≤ (j : Int) := by omega
          go_wp2_with fail
          go_quiet (first | (go_at_call 43; refine Calls.quiet_of_same (Less16c _ _ _)))
          go_wp2_with fail
          go_meet
          exact ⟨i, rfl, H.out.1.drew _, H.out.2, fun e => absurd e hij⟩
    case rest =>
      obtain ⟨i, rfl, HU0⟩ := hcut
      go_upto_block 2 with fail
      go_cut [11] from 46 to 62 (fun vi wx => ∃ j2 : Nat, vi = .int .i64 j2 ∧ Hid (DownEnd w g d dk p a b j2 i wx))
      case first =>
        go_wp2_with fail
        go_loopw [11] (fun vi wr => ∃ j2 : Nat, vi = .int .i64 j2 ∧ Hid (UpEnd w g d dk p a b j2 i wr)) (fun vi _ => intOf16 vi)
        case atStart => exact ⟨j, rfl, HU0.out⟩
        case round =>
          obtain ⟨j2, rfl, H⟩ := hrel
          by_cases hij : i ≤ j2
          · obtain ⟨G, hG⟩ : ∃ G : Nat → Int, ∀ t, dk[t]! = G t := ⟨fun t => dk[t]!, fun _ => rfl⟩
            have hcw : ∀ t, t < n → wr.cell? ⟨g, t, none⟩ = some (.int .u16 (G t)) := fun t ht => by rw [← hG]; exact H.out.1.row.cell (by rw [HZ.out]; exact ht)
            have HG := keep hG
            clear hG
            obtain ⟨z1, z2, z3, z4, z5, z6, z7, z8, z9, z10⟩ := up_nums H.out.2.1 HBn.out hij
            have P := keep (up_nums H.out.2.1 HBn.out hij)
            go_wp2_with fail
            go_quiet (first | (go_at_call 43; refine Calls.quiet_of_same (Less16c _ _ _)))
            go_wp2_with fail
            · have hl : ltInt (G j2) (G a) = false := by simpa using (show (!ltInt (G j2) (G a)) = true by assumption)
              have HU := keep (H.out.2.1.down hij (by rw [← H.out.2.1.piv, HG.out, HG.out]; exact hl))
              have HI2 := keep (H.out.2.2 hij)
              go_roundw
              case rel => exact ⟨j2 - 1, by rw [down_cast H.out.2.1 hij]; first | rfl | rw [P.out.q9], H.out.1.drew _, HU.out, fun _ => HI2.out⟩
              case measure => first | exact down_meas H.out.2.1 hij | (rw [P.out.q9]; exact down_meas H.out.2.1 hij)
            · have hl : ltInt (G j2) (G a) = true := by simpa using (show (!ltInt (G j2) (G a)) = false by assumption)
              have HL := keep (show ltInt dk[j2]! p = true by rw [← H.out.2.1.piv, HG.out, HG.out]; exact hl)
              go_meet
              exact ⟨j2, rfl, H.out.1.drew _, H.out.2.1, H.out.2.2, fun _ => HL.out⟩
          · have hji : j2 < i := by omega
            have hjz : ¬ (i : Int) ≤ (j2 : Int) := by omega
            go_wp2_with fail
            go_quiet (first | (go_at_call 43; refine Calls.quiet_of_same (Less16c _ _ _)))
            go_wp2_with fail
            go_meet
            exact ⟨j2, rfl, H.out.1.drew _, H.out.2.1, H.out.2.2, fun e => absurd e hij⟩
      case rest =>
        obtain ⟨j3, rfl, HE⟩ := hcut
        obtain ⟨G, hG⟩ : ∃ G : Nat → Int, ∀ t, dk[t]! = G t := ⟨fun t => dk[t]!, fun _ => rfl⟩
        have hcw : ∀ t, t < n → wc.cell? ⟨g, t, none⟩ = some (.int .u16 (G t)) := fun t ht => by rw [← hG]; exact HE.out.1.row.cell (by rw [HZ.out]; exact ht)
        have hfw : ∀ t, t < n → wc.frozen? ⟨g, t, none⟩ = false := fun t ht => HE.out.1.row.fz (by rw [HZ.out]; exact ht)
        have HG := keep hG
        clear hG
        by_cases hgt : j3 < i
        · obtain ⟨z1, z2, z3, z4, z5, z6⟩ := met_nums HE.out.2.1 HBn.out hgt
          have HM := keep (HE.out.2.1.met (by rw [HN.out]; exact HBn.out.1) hgt)
          have HSW := keep (show ∀ k, Done w g (swp dk j3 a) (((wc.setCell ⟨g, j3, none⟩ (.int .u16 (G a))).setCell ⟨g, a, none⟩ (.int .u16 (G j3))).drewN k) from fun k => by
            have := (HE.out.1.swap (i := j3) (j := a) (by rw [HZ.out]; exact z3) (by rw [HZ.out]; exact z1)).drew k
            rw [HG.out, HG.out] at this
            exact this)
          clear HG
          by_cases hne : j3 = a
          · subst hne
            go_wp2_with fail
            go_region
            all_goals (go_wp2_with fail; go_ret2; exact ⟨_, true, _, rfl, HM.out, HSW.out 1⟩)
          · have hne2 : ¬ a = j3 := fun e => hne e.symm
            go_wp2_with fail
            go_region
            all_goals (go_wp2_with fail; go_ret2; exact ⟨_, true, _, rfl, HM.out, HSW.out 1⟩)
        · have hij : i ≤ j3 := by omega
          obtain ⟨z1, z2, z3, z4, z5, z6, z7, z8, z9, z10⟩ := up_nums HE.out.2.1 HBn.out hij
          have P := keep (up_nums HE.out.2.1 HBn.out hij)
          have HX := keep (HE.out.2.1.swap (by rw [HN.out]; exact HBn.out.1) hij (HE.out.2.2.1 hij) (HE.out.2.2.2 hij))
          have HSW := keep (show ∀ k, Done w g (swp dk i j3) (((wc.setCell ⟨g, i, none⟩ (.int .u16 (G j3))).setCell ⟨g, j3, none⟩ (.int .u16 (G i))).drewN k) from fun k => by
            have := (HE.out.1.swap (i := i) (j := j3) (by rw [HZ.out]; exact z1) (by rw [HZ.out]; exact z5)).drew k
            rw [HG.out, HG.out] at this
            exact this)
          clear HG
          have hne : ¬ i = j3 := fun e => by have h1 := HE.out.2.2.1 hij; have h2 := HE.out.2.2.2 hij; rw [e, h2] at h1; cases h1
          have hne2 : ¬ j3 = i := fun e => hne e.symm
          go_upto_region 10 with fail
          go_cut [] from 63 to 94 (fun wx => Hid (Done w g (swp dk i j3) wx))
          case first =>
            go_region
            all_goals (go_wp2_with fail; go_meet; exact HSW.out 1)
          case rest =>
            have HZ5 := keep (show (swp dk i j3).size = n by rw [swp_size]; exact HZ.out)
            go_upto_block 4 with fail
            clear hcw hfw z1 z2 z3 z4 z5 z6 z7 z8 z9 z10 hne hne2
            go_wp2_with fail
            go_loopw [10, 11] (fun vi vj wr => ∃ (i4 j4 : Nat) (d4 : Array Int), vi = .int .i64 i4 ∧ vj = .int .i64 j4 ∧ Hid (d4.size = n ∧ Done w g d4 wr ∧ Cut d d4 p a b i4 j4)) (fun vi vj _ => intOf16 vj + 1 - intOf16 vi)
            case atStart => exact ⟨i + 1, j3 - 1, swp dk i j3, by first | rfl | (rw [P.out.q8]; rfl), by rw [down_cast HE.out.2.1 hij]; first | rfl | rw [P.out.q9], HZ5.out, hcut.out, HX.out⟩
            case round =>
              obtain ⟨i4, j4, d4, rfl, rfl, H4⟩ := hrel
              go_upto_block 6 with fail
              go_cut [10] from 99 to 152 (fun vi wx => ∃ i5 : Nat, vi = .int .i64 i5 ∧ Hid (i4 ≤ i5 ∧ UpEnd w g d d4 p a b j4 i5 wx))
              case first =>
                go_wp2_with fail
                go_loopw [10] (fun vi wr => ∃ i5 : Nat, vi = .int .i64 i5 ∧ Hid (i4 ≤ i5 ∧ Done w g d4 wr ∧ Cut d d4 p a b i5 j4)) (fun vi _ => b + 1 - intOf16 vi)
                case atStart => exact ⟨i4, rfl, Nat.le_refl _, H4.out.2⟩
                case round =>
                  obtain ⟨i5, rfl, H⟩ := hrel
                  by_cases hij : i5 ≤ j4
                  · obtain ⟨G, hG⟩ : ∃ G : Nat → Int, ∀ t, d4[t]! = G t := ⟨fun t => d4[t]!, fun _ => rfl⟩
                    have hcw : ∀ t, t < n → wr.cell? ⟨g, t, none⟩ = some (.int .u16 (G t)) := fun t ht => by rw [← hG]; exact H.out.2.1.row.cell (by rw [H4.out.1]; exact ht)
                    have HG := keep hG
                    clear hG
                    obtain ⟨z1, z2, z3, z4, z5, z6, z7, z8, z9, z10⟩ := up_nums H.out.2.2 HBn.out hij
                    have P := keep (up_nums H.out.2.2 HBn.out hij)
                    go_wp2_with fail
                    go_quiet (first | (go_at_call 43; refine Calls.quiet_of_same (Less16c _ _ _)))
                    go_wp2_with fail
                    · have hl : ltInt (G i5) (G a) = true := by assumption
                      have HU := keep (H.out.2.2.up hij (by rw [← H.out.2.2.piv, HG.out, HG.out]; exact hl))
                      go_roundw
                      case rel => exact ⟨i5 + 1, by rw [P.out.q8]; rfl, Nat.le_succ_of_le H.out.1, H.out.2.1.drew _, HU.out⟩
                      case measure => first | exact up_meas H.out.2.2 hij | (rw [P.out.q8]; exact up_meas H.out.2.2 hij)
                    · have hl : ltInt (G i5) (G a) = false := by assumption
                      have HU := keep (show ltInt d4[i5]! p = false by rw [← H.out.2.2.piv, HG.out, HG.out]; exact hl)
                      go_meet
                      exact ⟨i5, rfl, H.out.1, H.out.2.1.drew _, H.out.2.2, fun _ => HU.out⟩
                  · have hji : j4 < i5 := by omega
                    have hjz : ¬ (i5 : Int) ≤ (j4 : Int) := by omega
                    go_wp2_with fail
                    go_quiet (first | (go_at_call 43; refine Calls.quiet_of_same (Less16c _ _ _)))
                    go_wp2_with fail
                    go_meet
                    exact ⟨i5, rfl, H.out.1, H.out.2.1.drew _, H.out.2.2, fun e => absurd e hij⟩
              case rest =>
                obtain ⟨i5, rfl, HU5⟩ := hcut
                have HLE := keep HU5.out.1
                go_upto_block 8 with fail
                go_cut [11] from 99 to 152 (fun vi wx => ∃ j5 : Nat, vi = .int .i64 j5 ∧ Hid (j5 ≤ j4 ∧ DownEnd w g d d4 p a b j5 i5 wx))
                case first =>
                  go_wp2_with fail
                  go_loopw [11] (fun vi wr => ∃ j5 : Nat, vi = .int .i64 j5 ∧ Hid (j5 ≤ j4 ∧ UpEnd w g d d4 p a b j5 i5 wr)) (fun vi _ => intOf16 vi)
                  case atStart => exact ⟨j4, rfl, Nat.le_refl _, HU5.out.2⟩
                  case round =>
                    obtain ⟨j5, rfl, H⟩ := hrel
                    by_cases hij : i5 ≤ j5
                    · obtain ⟨G, hG⟩ : ∃ G : Nat → Int, ∀ t, d4[t]! = G t := ⟨fun t => d4[t]!, fun _ => rfl⟩
                      have hcw : ∀ t, t < n → wr.cell? ⟨g, t, none⟩ = some (.int .u16 (G t)) := fun t ht => by rw [← hG]; exact H.out.2.1.row.cell (by rw [H4.out.1]; exact ht)
                      have HG := keep hG
                      clear hG
                      obtain ⟨z1, z2, z3, z4, z5, z6, z7, z8, z9, z10⟩ := up_nums H.out.2.2.1 HBn.out hij
                      have P := keep (up_nums H.out.2.2.1 HBn.out hij)
                      go_wp2_with fail
                      go_quiet (first | (go_at_call 43; refine Calls.quiet_of_same (Less16c _ _ _)))
                      go_wp2_with fail
                      · have hl : ltInt (G j5) (G a) = false := by simpa using (show (!ltInt (G j5) (G a)) = true by assumption)
                        have HU := keep (H.out.2.2.1.down hij (by rw [← H.out.2.2.1.piv, HG.out, HG.out]; exact hl))
                        have HI2 := keep (H.out.2.2.2 hij)
                        go_roundw
                        case rel => exact ⟨j5 - 1, by rw [down_cast H.out.2.2.1 hij]; first | rfl | rw [P.out.q9], Nat.le_trans (Nat.sub_le _ _) H.out.1, H.out.2.1.drew _, HU.out, fun _ => HI2.out⟩
                        case measure => first | exact down_meas H.out.2.2.1 hij | (rw [P.out.q9]; exact down_meas H.out.2.2.1 hij)
                      · have hl : ltInt (G j5) (G a) = true := by simpa using (show (!ltInt (G j5) (G a)) = false by assumption)
                        have HL := keep (show ltInt d4[j5]! p = true by rw [← H.out.2.2.1.piv, HG.out, HG.out]; exact hl)
                        go_meet
                        exact ⟨j5, rfl, H.out.1, H.out.2.1.drew _, H.out.2.2.1, H.out.2.2.2, fun _ => HL.out⟩
                    · have hji : j5 < i5 := by omega
                      have hjz : ¬ (i5 : Int) ≤ (j5 : Int) := by omega
                      go_wp2_with fail
                      go_quiet (first | (go_at_call 43; refine Calls.quiet_of_same (Less16c _ _ _)))
                      go_wp2_with fail
                      go_meet
                      exact ⟨j5, rfl, H.out.1, H.out.2.1.drew _, H.out.2.2.1, H.out.2.2.2, fun e => absurd e hij⟩
                case rest =>
                  obtain ⟨j5, rfl, HF⟩ := hcut
                  have HE4 := keep HF.out.2
                  obtain ⟨G, hG⟩ : ∃ G : Nat → Int, ∀ t, d4[t]! = G t := ⟨fun t => d4[t]!, fun _ => rfl⟩
                  have hcw : ∀ t, t < n → wc.cell? ⟨g, t, none⟩ = some (.int .u16 (G t)) := fun t ht => by rw [← hG]; exact HE4.out.1.row.cell (by rw [H4.out.1]; exact ht)
                  have hfw : ∀ t, t < n → wc.frozen? ⟨g, t, none⟩ = false := fun t ht => HE4.out.1.row.fz (by rw [H4.out.1]; exact ht)
                  have HG := keep hG
                  clear hG
                  by_cases hgt : j5 < i5
                  · obtain ⟨z1, z2, z3, z4, z5, z6⟩ := met_nums HE4.out.2.1 HBn.out hgt
                    have HM := keep (HE4.out.2.1.met (by rw [HN.out]; exact HBn.out.1) hgt)
                    have HSW := keep (show ∀ k, Done w g (swp d4 j5 a) (((wc.setCell ⟨g, j5, none⟩ (.int .u16 (G a))).setCell ⟨g, a, none⟩ (.int .u16 (G j5))).drewN k) from fun k => by
                      have := (HE4.out.1.swap (i := j5) (j := a) (by rw [H4.out.1]; exact z3) (by rw [H4.out.1]; exact z1)).drew k
                      rw [HG.out, HG.out] at this
                      exact this)
                    clear HG
                    by_cases hne : j5 = a
                    · subst hne
                      go_wp2_with fail
                      go_region
                      all_goals (go_wp2_with fail; go_ret2; exact ⟨_, false, _, rfl, HM.out, HSW.out 1⟩)
                    · have hne2 : ¬ a = j5 := fun e => hne e.symm
                      go_wp2_with fail
                      go_region
                      all_goals (go_wp2_with fail; go_ret2; exact ⟨_, false, _, rfl, HM.out, HSW.out 1⟩)
                  · have hij : i5 ≤ j5 := by omega
                    obtain ⟨z1, z2, z3, z4, z5, z6, z7, z8, z9, z10⟩ := up_nums HE4.out.2.1 HBn.out hij
                    have P := keep (up_nums HE4.out.2.1 HBn.out hij)
                    have HX4 := keep (HE4.out.2.1.swap (by rw [HN.out]; exact HBn.out.1) hij (HE4.out.2.2.1 hij) (HE4.out.2.2.2 hij))
                    have HSW := keep (show ∀ k, Done w g (swp d4 i5 j5) (((wc.setCell ⟨g, i5, none⟩ (.int .u16 (G j5))).setCell ⟨g, j5, none⟩ (.int .u16 (G i5))).drewN k) from fun k => by
                      have := (HE4.out.1.swap (i := i5) (j := j5) (by rw [H4.out.1]; exact z1) (by rw [H4.out.1]; exact z5)).drew k
                      rw [HG.out, HG.out] at this
                      exact this)
                    clear HG
                    have hne : ¬ i5 = j5 := fun e => by have h1 := HE4.out.2.2.1 hij; have h2 := HE4.out.2.2.2 hij; rw [e, h2] at h1; cases h1
                    have hne2 : ¬ j5 = i5 := fun e => hne e.symm
                    have HM5 := keep (out_meas (i0 := i4) (j0 := j4) HE4.out.2.1 (show i4 ≤ i5 from HLE.out) HF.out.1 hij)
                    go_upto_region 18 with fail
                    go_cut [] from 99 to 152 (fun wx => Hid (Done w g (swp d4 i5 j5) wx))
                    case first =>
                      go_region
                      all_goals (go_wp2_with fail; go_meet; exact HSW.out 1)
                    case rest =>
                      have HZ5 := keep (show (swp d4 i5 j5).size = n by rw [swp_size]; exact H4.out.1)
                      clear hcw hfw hne hne2
                      go_wp2_with fail
                      go_roundw
                      case rel => first | exact ⟨i5 + 1, j5 - 1, swp d4 i5 j5, by first | rfl | (rw [P.out.q8]; rfl), by rw [down_cast HE4.out.2.1 hij]; first | rfl | rw [P.out.q9], HZ5.out, hcut.out, HX4.out⟩ | ((repeat apply Exists.intro); exact ⟨⟨i5 + 1, j5 - 1, swp d4 i5 j5, by first | rfl | (rw [P.out.q8]; rfl), by rw [down_cast HE4.out.2.1 hij]; first | rfl | rw [P.out.q9], HZ5.out, hcut.out, HX4.out⟩, rfl⟩)
                      case measure => first | exact HM5.out | (rw [P.out.q8, P.out.q9]; exact HM5.out)
end Go.Proofs.Ytofebpikihandaa
