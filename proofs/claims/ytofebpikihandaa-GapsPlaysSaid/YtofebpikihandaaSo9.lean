/- The library's sort at numbers of 16 bits: the partition by equals. Made from XSo7 and XSo8 by a script. -/
import Derived.Test.YtofebpikihandaaSo8
import Derived.Deep.CutBlock
namespace Go.Proofs.Ytofebpikihandaa
open Go.RowKit Go.Sort
set_option linter.unusedVariables false
set_option linter.unusedSimpArgs false

/-- Between i and j all is still to be told; what is less than p lies ahead, the rest behind. -/
structure ECut (d0 d : Array Int) (p : Int) (a b i j : Nat) : Prop where
  perm : PermIn a b d0 d
  piv : d[a]! = p
  lo : ∀ x, a < x → x < i → ltInt p d[x]! = false
  hi : ∀ x, j < x → x < b → ltInt p d[x]! = true
  ai : a < i
  ij : i ≤ j + 1
  jb : j < b
theorem ECut.size {d0 d : Array Int} {p : Int} {a b i j : Nat} (h : ECut d0 d p a b i j) : d.size = d0.size := h.perm.1
theorem ECut.start {d : Array Int} {a b q : Nat} (hq : a ≤ q) (hb : q < b) (hs : b ≤ d.size) (h1 : a + 1 < b) : ECut d (swp d a q) d[q]! a b (a + 1) (b - 1) :=
  ⟨swp_in (Nat.le_refl _) (by omega) hq hb hs, by
    rw [swp_get d (by omega) (by omega) a]
    by_cases e : a = q
    · rw [if_pos e, e]
    · rw [if_neg e, if_pos rfl], fun x h1 h2 => by omega, fun x h1 h2 => by omega, by omega, by omega, by omega⟩
theorem ECut.up {d0 d : Array Int} {p : Int} {a b i j : Nat} (h : ECut d0 d p a b i j) (hij : i ≤ j) (hl : ltInt p d[i]! = false) : ECut d0 d p a b (i + 1) j :=
  ⟨h.perm, h.piv, fun x h1 h2 => by
    by_cases e : x = i
    · rw [e]; exact hl
    · exact h.lo x h1 (by omega), h.hi, by have := h.ai; omega, by omega, h.jb⟩
theorem ECut.down {d0 d : Array Int} {p : Int} {a b i j : Nat} (h : ECut d0 d p a b i j) (hij : i ≤ j) (hl : ltInt p d[j]! = true) : ECut d0 d p a b i (j - 1) :=
  ⟨h.perm, h.piv, h.lo, fun x h1 h2 => by
    by_cases e : x = j
    · rw [e]; exact hl
    · exact h.hi x (by omega) h2, h.ai, by have := h.ai; omega, by have := h.jb; omega⟩
theorem ECut.swap {d0 d : Array Int} {p : Int} {a b i j : Nat} (h : ECut d0 d p a b i j) (hs : b ≤ d0.size) (hij : i ≤ j) (h1 : ltInt p d[i]! = true) (h2 : ltInt p d[j]! = false) : ECut d0 (swp d i j) p a b (i + 1) (j - 1) := by
  have ha := h.ai
  have hb := h.jb
  have hz := h.size
  have hne : i ≠ j := fun e => by rw [e, h2] at h1; cases h1
  have hi : i < d.size := by omega
  have hj : j < d.size := by omega
  refine ⟨permIn_trans _ _ _ _ _ h.perm (swp_in (by omega) (by omega) (by omega) hb (by omega)), ?_, fun x x1 x2 => ?_, fun x x1 x2 => ?_, by omega, by omega, by omega⟩
  · rw [swp_get d hi hj a, if_neg (by omega), if_neg (by omega)]
    exact h.piv
  · rw [swp_get d hi hj x]
    by_cases e1 : x = j
    · omega
    · rw [if_neg e1]
      by_cases e2 : x = i
      · rw [if_pos e2]
        exact h2
      · rw [if_neg e2]
        exact h.lo x x1 (by omega)
  · rw [swp_get d hi hj x]
    by_cases e1 : x = j
    · rw [if_pos e1]
      exact h1
    · rw [if_neg e1, if_neg (by omega)]
      exact h.hi x (by omega) x2
/-- Where the two have met: what is no greater than the pivot lies ahead. -/
structure EParted (d0 d : Array Int) (p : Int) (a b m : Nat) : Prop where
  perm : PermIn a b d0 d
  am : a < m
  mb : m ≤ b
  lo : ∀ x, a ≤ x → x < m → ltInt p d[x]! = false
  hi : ∀ x, m ≤ x → x < b → ltInt p d[x]! = true
theorem ECut.met {d0 d : Array Int} {p : Int} {a b i j : Nat} (h : ECut d0 d p a b i j) (hij : j < i) : EParted d0 d p a b i := by
  have ha := h.ai
  have hi := h.ij
  have hb := h.jb
  refine ⟨h.perm, ha, by omega, fun x x1 x2 => ?_, fun x x1 x2 => h.hi x (by omega) x2⟩
  by_cases e : x = a
  · rw [e, h.piv]
    simp [ltInt]
  · exact h.lo x (by omega) x2
theorem e_up_nums {d0 d : Array Int} {p : Int} {a b i j n : Nat} (h : ECut d0 d p a b i j) (hb : b ≤ n ∧ n ≤ 1000000) (hij : i ≤ j) : UpN a i j n := by
  have h1 := h.ai
  have h2 := h.ij
  have h3 := h.jb
  exact ⟨by omega, by omega, by omega, by omega, by omega, by omega, by omega, by unfold wrap64; omega, by unfold wrap64; omega, by omega⟩
theorem e_met_nums {d0 d : Array Int} {p : Int} {a b i j n : Nat} (h : ECut d0 d p a b i j) (hb : b ≤ n ∧ n ≤ 1000000) (hij : j < i) : MetN a i j n := by
  have h1 := h.ai
  have h2 := h.ij
  have h3 := h.jb
  exact ⟨by omega, by omega, by omega, by omega, by omega, by omega⟩
theorem e_out_meas {d0 d : Array Int} {p : Int} {a b i j i0 j0 : Nat} (h : ECut d0 d p a b i j) (hi : i0 ≤ i) (hj : j ≤ j0) (hij : i ≤ j) : intOf16 (.int .i64 ((j : Int) - 1)) + 1 - intOf16 (.int .i64 ((i : Int) + 1)) < intOf16 (.int .i64 (j0 : Int)) + 1 - intOf16 (.int .i64 (i0 : Int)) := by
  have h3 := h.ai
  simp only [intOf16]
  omega
theorem e_up_meas {d0 d : Array Int} {p : Int} {a b i j : Nat} (h : ECut d0 d p a b i j) (hij : i ≤ j) : b + 1 - intOf16 (.int .i64 ((i : Int) + 1)) < b + 1 - intOf16 (.int .i64 (i : Int)) := by
  have h3 := h.jb
  simp only [intOf16]
  omega
theorem e_down_meas {d0 d : Array Int} {p : Int} {a b i j : Nat} (h : ECut d0 d p a b i j) (hij : i ≤ j) : intOf16 (.int .i64 ((j : Int) - 1)) < intOf16 (.int .i64 (j : Int)) := by
  have h3 := h.ai
  simp only [intOf16]
  omega
theorem e_down_cast {d0 d : Array Int} {p : Int} {a b i j : Nat} (h : ECut d0 d p a b i j) (hij : i ≤ j) : ((j - 1 : Nat) : Int) = (j : Int) - 1 := by
  have h3 := h.ai
  omega
/-- What a scan from below leaves. -/
def EUpEnd (w : World) (g : Nat) (d dk : Array Int) (p : Int) (a b j i : Nat) (wx : World) : Prop :=
  Done w g dk wx ∧ ECut d dk p a b i j ∧ (i ≤ j → ltInt p dk[i]! = true)
/-- What a scan from above leaves. -/
def EDownEnd (w : World) (g : Nat) (d dk : Array Int) (p : Int) (a b j i : Nat) (wx : World) : Prop :=
  Done w g dk wx ∧ ECut d dk p a b i j ∧ (i ≤ j → ltInt p dk[i]! = true) ∧ (i ≤ j → ltInt p dk[j]! = false)
/-- What the partition by equals answers. -/
def EPartPost (w : World) (g : Nat) (d : Array Int) (p : Int) (a b : Nat) (e : Ending) (w' : World) : Prop :=
  ∃ (m : Nat) (d' : Array Int), e = .returned (.int .i64 m) ∧ EParted d d' p a b m ∧ Done w g d' w'

set_option maxHeartbeats 4000000 in
set_option maxRecDepth 1000000 in
theorem partitionEqual_any {g c a b q : Nat} {d : Array Int} {w : World} (h : Rw w g d) (hab : a + 1 < b) (hb : b ≤ d.size) (hs : d.size ≤ 1000000) (hq : a ≤ q) (hqb : q < b) :
    Calls Try.prog 44 #[.slice (some ⟨g, 0, none⟩) d.size c, .int .i64 a, .int .i64 b, .int .i64 q] w fun e w' => EPartPost w g d d[q]! a b e w' := by
  obtain ⟨n, hn⟩ : ∃ n, d.size = n := ⟨_, rfl⟩
  have HD := keep (Done.refl h)
  have HN := keep hn
  have HBn := keep (show b ≤ n ∧ n ≤ 1000000 by omega)
  have HC0 := keep (ECut.start hq hqb hb hab)
  obtain ⟨p, hp⟩ : ∃ p, d[q]! = p := ⟨_, rfl⟩
  rw [hp] at HC0 ⊢
  clear hp
  obtain ⟨G, hG⟩ : ∃ G : Nat → Int, ∀ t, d[t]! = G t := ⟨fun t => d[t]!, fun _ => rfl⟩
  have hcw : ∀ t, t < n → w.cell? ⟨g, t, none⟩ = some (.int .u16 (G t)) := fun t ht => by rw [← hG]; exact HD.out.row.cell (by rw [hn]; exact ht)
  have hfw : ∀ t, t < n → w.frozen? ⟨g, t, none⟩ = false := fun t ht => HD.out.row.fz (by rw [hn]; exact ht)
  have HG := keep hG
  have hbn : b < 1000001 := by omega
  have q1 : q < n := by omega
  have q2 : (q : Int) < (n : Int) := by omega
  have a1 : a < n := by omega
  have a2 : (a : Int) < (n : Int) := by omega
  have w1 : (a : Int) + 1 = ((a + 1 : Nat) : Int) := by omega
  have w2 : (b : Int) - 1 = ((b - 1 : Nat) : Int) := by omega
  have W1 := keep w1
  have W2 := keep w2
  have HSW := keep (show ∀ k, Done w g (swp d a q) (((w.setCell ⟨g, a, none⟩ (.int .u16 (G q))).setCell ⟨g, q, none⟩ (.int .u16 (G a))).drewN k) from fun k => by
    have := (HD.out.swap (i := a) (j := q) (by rw [hn]; exact a1) (by rw [hn]; exact q1)).drew k
    rw [hG, hG] at this
    exact this)
  rw [hn]
  clear h hn hG hs hb w1 w2
  go_enter Try.func44, Try.ntmps44
  go_upto_region 1 with fail
  go_cut [] from 11 to 24 (fun wx => Hid (Done w g (swp d a q) wx))
  case first =>
    by_cases hne : a = q
    · subst hne
      go_region
      all_goals (go_wp2_with fail; go_meet; exact HSW.out 1)
    · have hne2 : ¬ q = a := fun e => hne e.symm
      go_region
      all_goals (go_wp2_with fail; go_meet; exact HSW.out 1)
  case rest =>
    obtain ⟨dk, hdk⟩ : ∃ dk, swp d a q = dk := ⟨_, rfl⟩
    rw [hdk] at HC0 hcut
    clear hdk HSW hcw hfw HG
    have HZ := keep (show dk.size = n by rw [HC0.out.size]; exact HN.out)
    obtain ⟨i0, hi0⟩ : ∃ i0, a + 1 = i0 := ⟨_, rfl⟩
    obtain ⟨j, hj⟩ : ∃ j, b - 1 = j := ⟨_, rfl⟩
    rw [hi0, hj] at HC0
    rw [hi0] at W1
    rw [hj] at W2
    have HI := keep hi0
    clear hi0 hj
    go_upto_block 0 with fail
    rw [W1.out, W2.out]
    go_wp2_with fail
    go_loopw [9, 10] (fun vi vj wr => ∃ (i4 j4 : Nat) (d4 : Array Int), vi = .int .i64 i4 ∧ vj = .int .i64 j4 ∧ Hid (d4.size = n ∧ Done w g d4 wr ∧ ECut d d4 p a b i4 j4)) (fun vi vj _ => intOf16 vj + 1 - intOf16 vi)
    case atStart => exact ⟨i0, j, dk, rfl, rfl, HZ.out, hcut.out, HC0.out⟩
    case round =>
      obtain ⟨i4, j4, d4, rfl, rfl, H4⟩ := hrel
      go_upto_block 2 with fail
      go_cut [9] from 29 to 82 (fun vi wx => ∃ i5 : Nat, vi = .int .i64 i5 ∧ Hid (i4 ≤ i5 ∧ EUpEnd w g d d4 p a b j4 i5 wx))
      case first =>
        go_wp2_with fail
        go_loopw [9] (fun vi wr => ∃ i5 : Nat, vi = .int .i64 i5 ∧ Hid (i4 ≤ i5 ∧ Done w g d4 wr ∧ ECut d d4 p a b i5 j4)) (fun vi _ => b + 1 - intOf16 vi)
        case atStart => exact ⟨i4, rfl, Nat.le_refl _, H4.out.2⟩
        case round =>
          obtain ⟨i5, rfl, H⟩ := hrel
          by_cases hij : i5 ≤ j4
          · obtain ⟨G, hG⟩ : ∃ G : Nat → Int, ∀ t, d4[t]! = G t := ⟨fun t => d4[t]!, fun _ => rfl⟩
            have hcw : ∀ t, t < n → wr.cell? ⟨g, t, none⟩ = some (.int .u16 (G t)) := fun t ht => by rw [← hG]; exact H.out.2.1.row.cell (by rw [H4.out.1]; exact ht)
            have HG := keep hG
            clear hG
            obtain ⟨z1, z2, z3, z4, z5, z6, z7, z8, z9, z10⟩ := e_up_nums H.out.2.2 HBn.out hij
            have P := keep (e_up_nums H.out.2.2 HBn.out hij)
            go_wp2_with fail
            go_quiet (first | (go_at_call 43; refine Calls.quiet_of_same (Less16c _ _ _)))
            go_wp2_with fail
            · have hl : ltInt (G a) (G i5) = false := by simpa using (show (!ltInt (G a) (G i5)) = true by assumption)
              have HU := keep (H.out.2.2.up hij (by rw [← H.out.2.2.piv, HG.out, HG.out]; exact hl))
              go_roundw
              case rel => exact ⟨i5 + 1, by rw [P.out.q8]; rfl, Nat.le_succ_of_le H.out.1, H.out.2.1.drew _, HU.out⟩
              case measure => first | exact e_up_meas H.out.2.2 hij | (rw [P.out.q8]; exact e_up_meas H.out.2.2 hij)
            · have hl : ltInt (G a) (G i5) = true := by simpa using (show (!ltInt (G a) (G i5)) = false by assumption)
              have HU := keep (show ltInt p d4[i5]! = true by rw [← H.out.2.2.piv, HG.out, HG.out]; exact hl)
              go_meet
              exact ⟨i5, rfl, H.out.1, H.out.2.1.drew _, H.out.2.2, fun _ => HU.out⟩
          · have hji : j4 < i5 := by omega
            have hjz : ¬ (i5 : Int) ≤ (j4 : Int) := by omega
            go_wp2_with fail
            go_quiet (first | (go_at_call 43; refine Calls.quiet_of_same (Less16c _ _ _)))
            go_wp2_with fail
            go_meet
            exact ⟨i5, rfl, H.out.1, H.out.2.1.drew _, H.out.2.2, fun e => absurd e hij⟩
      case rest =>
        obtain ⟨i5, rfl, HU5⟩ := hcut
        have HLE := keep HU5.out.1
        go_upto_block 4 with fail
        go_cut [10] from 29 to 82 (fun vi wx => ∃ j5 : Nat, vi = .int .i64 j5 ∧ Hid (j5 ≤ j4 ∧ EDownEnd w g d d4 p a b j5 i5 wx))
        case first =>
          go_wp2_with fail
          go_loopw [10] (fun vi wr => ∃ j5 : Nat, vi = .int .i64 j5 ∧ Hid (j5 ≤ j4 ∧ EUpEnd w g d d4 p a b j5 i5 wr)) (fun vi _ => intOf16 vi)
          case atStart => exact ⟨j4, rfl, Nat.le_refl _, HU5.out.2⟩
          case round =>
            obtain ⟨j5, rfl, H⟩ := hrel
            by_cases hij : i5 ≤ j5
            · obtain ⟨G, hG⟩ : ∃ G : Nat → Int, ∀ t, d4[t]! = G t := ⟨fun t => d4[t]!, fun _ => rfl⟩
              have hcw : ∀ t, t < n → wr.cell? ⟨g, t, none⟩ = some (.int .u16 (G t)) := fun t ht => by rw [← hG]; exact H.out.2.1.row.cell (by rw [H4.out.1]; exact ht)
              have HG := keep hG
              clear hG
              obtain ⟨z1, z2, z3, z4, z5, z6, z7, z8, z9, z10⟩ := e_up_nums H.out.2.2.1 HBn.out hij
              have P := keep (e_up_nums H.out.2.2.1 HBn.out hij)
              go_wp2_with fail
              go_quiet (first | (go_at_call 43; refine Calls.quiet_of_same (Less16c _ _ _)))
              go_wp2_with fail
              · have hl : ltInt (G a) (G j5) = true := by assumption
                have HU := keep (H.out.2.2.1.down hij (by rw [← H.out.2.2.1.piv, HG.out, HG.out]; exact hl))
                have HI2 := keep (H.out.2.2.2 hij)
                go_roundw
                case rel => exact ⟨j5 - 1, by rw [e_down_cast H.out.2.2.1 hij]; first | rfl | rw [P.out.q9], Nat.le_trans (Nat.sub_le _ _) H.out.1, H.out.2.1.drew _, HU.out, fun _ => HI2.out⟩
                case measure => first | exact e_down_meas H.out.2.2.1 hij | (rw [P.out.q9]; exact e_down_meas H.out.2.2.1 hij)
              · have hl : ltInt (G a) (G j5) = false := by assumption
                have HL := keep (show ltInt p d4[j5]! = false by rw [← H.out.2.2.1.piv, HG.out, HG.out]; exact hl)
                go_meet
                exact ⟨j5, rfl, H.out.1, H.out.2.1.drew _, H.out.2.2.1, H.out.2.2.2, fun _ => HL.out⟩
            · have hji : j5 < i5 := by omega
              have hjz : ¬ (i5 : Int) ≤ (j5 : Int) := by omega
              go_wp2_with fail
              go_quiet (first | (go_at_call 43; refine Calls.quiet_of_same (Less16c _ _ _)))
              go_wp2_with fail
              go_meet
              exact ⟨j5, rfl, H.out.1, H.out.2.1.drew _, H.out.2.2.1, H.out.2.2.2, fun e => absurd e hij⟩
        case rest =>
          obtain ⟨j5, rfl, HF⟩ := hcut
          have HE4 := keep HF.out.2
          obtain ⟨G, hG⟩ : ∃ G : Nat → Int, ∀ t, d4[t]! = G t := ⟨fun t => d4[t]!, fun _ => rfl⟩
          have hcw : ∀ t, t < n → wc.cell? ⟨g, t, none⟩ = some (.int .u16 (G t)) := fun t ht => by rw [← hG]; exact HE4.out.1.row.cell (by rw [H4.out.1]; exact ht)
          have hfw : ∀ t, t < n → wc.frozen? ⟨g, t, none⟩ = false := fun t ht => HE4.out.1.row.fz (by rw [H4.out.1]; exact ht)
          have HG := keep hG
          clear hG
          by_cases hgt : j5 < i5
          · obtain ⟨z1, z2, z3, z4, z5, z6⟩ := e_met_nums HE4.out.2.1 HBn.out hgt
            have HM := keep (HE4.out.2.1.met hgt)
            clear HG
            go_wp2_with fail
            go_ret
            exact ⟨_, _, rfl, HM.out, HE4.out.1⟩
          · have hij : i5 ≤ j5 := by omega
            obtain ⟨z1, z2, z3, z4, z5, z6, z7, z8, z9, z10⟩ := e_up_nums HE4.out.2.1 HBn.out hij
            have P := keep (e_up_nums HE4.out.2.1 HBn.out hij)
            have HX4 := keep (HE4.out.2.1.swap (by rw [HN.out]; exact HBn.out.1) hij (HE4.out.2.2.1 hij) (HE4.out.2.2.2 hij))
            have HSW := keep (show ∀ k, Done w g (swp d4 i5 j5) (((wc.setCell ⟨g, i5, none⟩ (.int .u16 (G j5))).setCell ⟨g, j5, none⟩ (.int .u16 (G i5))).drewN k) from fun k => by
              have := (HE4.out.1.swap (i := i5) (j := j5) (by rw [H4.out.1]; exact z1) (by rw [H4.out.1]; exact z5)).drew k
              rw [HG.out, HG.out] at this
              exact this)
            clear HG
            have hne : ¬ i5 = j5 := fun e => by have h1 := HE4.out.2.2.1 hij; have h2 := HE4.out.2.2.2 hij; rw [e, h2] at h1; cases h1
            have hne2 : ¬ j5 = i5 := fun e => hne e.symm
            have HM5 := keep (e_out_meas (i0 := i4) (j0 := j4) HE4.out.2.1 (show i4 ≤ i5 from HLE.out) HF.out.1 hij)
            go_upto_region 8 with fail
            go_cut [] from 29 to 82 (fun wx => Hid (Done w g (swp d4 i5 j5) wx))
            case first =>
              go_region
              all_goals (go_wp2_with fail; go_meet; exact HSW.out 1)
            case rest =>
              have HZ5 := keep (show (swp d4 i5 j5).size = n by rw [swp_size]; exact H4.out.1)
              clear hcw hfw hne hne2
              go_wp2_with fail
              go_roundw
              case rel => first | exact ⟨i5 + 1, j5 - 1, swp d4 i5 j5, by first | rfl | (rw [P.out.q8]; rfl), by rw [e_down_cast HE4.out.2.1 hij]; first | rfl | rw [P.out.q9], HZ5.out, hcut.out, HX4.out⟩ | ((repeat apply Exists.intro); exact ⟨⟨i5 + 1, j5 - 1, swp d4 i5 j5, by first | rfl | (rw [P.out.q8]; rfl), by rw [e_down_cast HE4.out.2.1 hij]; first | rfl | rw [P.out.q9], HZ5.out, hcut.out, HX4.out⟩, rfl⟩)
              case measure => first | exact HM5.out | (rw [P.out.q8, P.out.q9]; exact HM5.out)
end Go.Proofs.Ytofebpikihandaa
