/- The library's sort at numbers of 16 bits: the partial insertion sort. -/
import Derived.Test.YtofebpikihandaaSo9
namespace Go.Proofs.Ytofebpikihandaa
open Go.RowKit Go.Sort
set_option linter.unusedVariables false
set_option linter.unusedSimpArgs false

theorem scan_go {d : Array Int} {b i : Nat} (h : i < b) (hl : ltInt d[i]! d[i - 1]! = false) : scanSorted ltInt d b i = scanSorted ltInt d b (i + 1) := by
  conv => lhs; rw [scanSorted, if_pos (by simp [h, hl])]
theorem scan_stop {d : Array Int} {b i : Nat} (h : ¬ i < b ∨ ltInt d[i]! d[i - 1]! = true) : scanSorted ltInt d b i = i := by
  rw [scanSorted, if_neg]
  rcases h with h | h
  · simp [h]
  · simp [h]
theorem shd_go {d : Array Int} {j : Nat} (h : 1 ≤ j) (hl : ltInt d[j]! d[j - 1]! = true) : shiftDown ltInt j d = shiftDown ltInt (j - 1) (swp d j (j - 1)) := by
  obtain ⟨k, rfl⟩ : ∃ k, j = k + 1 := ⟨j - 1, by omega⟩
  simp only [Nat.add_sub_cancel] at hl ⊢
  rw [shiftDown, if_neg (by simp [hl])]
theorem shd_stop {d : Array Int} {j : Nat} (h : ¬ 1 ≤ j ∨ ltInt d[j]! d[j - 1]! = false) : shiftDown ltInt j d = d := by
  rcases j with _ | k
  · rfl
  · simp only [Nat.add_sub_cancel] at h
    rw [shiftDown, if_pos]
    rcases h with h | h
    · omega
    · simp [h]
theorem su_go {d : Array Int} {b j : Nat} (h : j < b) (hl : ltInt d[j]! d[j - 1]! = true) : shiftUp ltInt b j d = shiftUp ltInt b (j + 1) (swp d j (j - 1)) := by
  conv => lhs; rw [shiftUp, if_pos h, if_neg (by simp [hl])]
theorem su_stop {d : Array Int} {b j : Nat} (h : ¬ j < b ∨ ltInt d[j]! d[j - 1]! = false) : shiftUp ltInt b j d = d := by
  rw [shiftUp]
  split
  · rcases h with h | h
    · omega
    · rw [if_pos (by simp [h])]
  · rfl

def fixD (a i : Nat) (e : Array Int) : Array Int := if i - a ≥ 2 then shiftDown ltInt (i - 1) e else e
def fixU (b i : Nat) (e : Array Int) : Array Int := if b - i ≥ 2 then shiftUp ltInt b (i + 1) e else e
theorem par_end {a b t i i2 : Nat} {dk : Array Int} (ht : t < 5) (hs : scanSorted ltInt dk b i = i2) (h : i2 = b) : partialIns ltInt a b (5 - t) i dk = (dk, true) := by
  obtain ⟨s, e⟩ : ∃ s, 5 - t = s + 1 := ⟨4 - t, by omega⟩
  rw [e, partialIns]
  simp only [hs, if_pos h]
theorem par_short {a b t i i2 : Nat} {dk : Array Int} (ht : t < 5) (hs : scanSorted ltInt dk b i = i2) (h : ¬ i2 = b) (h2 : b - a < 50) : partialIns ltInt a b (5 - t) i dk = (dk, false) := by
  obtain ⟨s, e⟩ : ∃ s, 5 - t = s + 1 := ⟨4 - t, by omega⟩
  rw [e, partialIns]
  simp only [hs, if_neg h, if_pos h2]
theorem par_go {a b t i i2 : Nat} {dk : Array Int} (ht : t < 5) (hs : scanSorted ltInt dk b i = i2) (h : ¬ i2 = b) (h2 : ¬ b - a < 50) : partialIns ltInt a b (5 - t) i dk = partialIns ltInt a b (5 - (t + 1)) i2 (fixU b i2 (fixD a i2 (swp dk i2 (i2 - 1)))) := by
  obtain ⟨s, e⟩ : ∃ s, 5 - t = s + 1 := ⟨4 - t, by omega⟩
  rw [e, show 5 - (t + 1) = s by omega, partialIns]
  simp only [hs, if_neg h, if_neg h2]
  rfl
theorem shd_size : ∀ (j : Nat) (d : Array Int), (shiftDown ltInt j d).size = d.size
  | 0, d => rfl
  | j + 1, d => by
    rw [shiftDown]
    split
    · rfl
    · rw [shd_size j, swp_size]
theorem fixD_size (a i : Nat) (e : Array Int) : (fixD a i e).size = e.size := by
  unfold fixD
  split
  · exact shd_size _ _
  · rfl
theorem shu_size (b : Nat) : ∀ (m j : Nat) (d : Array Int), b - j = m → (shiftUp ltInt b j d).size = d.size
  | m, j, d, hm => by
    rw [shiftUp]
    split
    · split
      · rfl
      · rw [shu_size b (m - 1) (j + 1) _ (by omega), swp_size]
    · rfl
termination_by m => m
decreasing_by omega
theorem fixU_size (b i : Nat) (e : Array Int) : (fixU b i e).size = e.size := by
  unfold fixU
  split
  · exact shu_size _ _ _ _ rfl
  · rfl

/-- Where the scan stands. -/
def ScanAt (w : World) (g : Nat) (dk : Array Int) (b i i2 : Nat) (wx : World) : Prop :=
  i ≤ i2 ∧ i2 ≤ b ∧ Done w g dk wx ∧ scanSorted ltInt dk b i2 = scanSorted ltInt dk b i
def ScanEnd (w : World) (g : Nat) (dk : Array Int) (b i i2 : Nat) (wx : World) : Prop :=
  i ≤ i2 ∧ i2 ≤ b ∧ Done w g dk wx ∧ scanSorted ltInt dk b i = i2
/-- Where the sort stands. -/
def ParAt (w : World) (g n : Nat) (r : Array Int × Bool) (a b t i : Nat) (dk : Array Int) (wx : World) : Prop :=
  a < i ∧ i ≤ b ∧ t ≤ 5 ∧ dk.size = n ∧ Done w g dk wx ∧ partialIns ltInt a b (5 - t) i dk = r

set_option maxHeartbeats 4000000 in
set_option maxRecDepth 1000000 in
theorem partial_any {g c a b : Nat} {d : Array Int} {w : World} (h : Rw w g d) (hab : a < b) (hb : b ≤ d.size) (hs : d.size ≤ 1000000) :
    Calls Try.prog 42 #[.slice (some ⟨g, 0, none⟩) d.size c, .int .i64 a, .int .i64 b] w fun e w' => e = .returned (.bool (partialInsertionSort ltInt d a b).2) ∧ Done w g (partialInsertionSort ltInt d a b).1 w' := by
  obtain ⟨n, hn⟩ : ∃ n, d.size = n := ⟨_, rfl⟩
  obtain ⟨r, hr⟩ : ∃ r, partialInsertionSort ltInt d a b = r := ⟨_, rfl⟩
  have H0 := keep (show ParAt w g n r a b 0 (a + 1) d w from ⟨by omega, by omega, by omega, hn, Done.refl h, hr⟩)
  rw [hn] at hb hs ⊢
  rw [hr]
  clear h hn hr
  go_enter Try.func42, Try.ntmps42
  go_wp2
  go_loopw [7, 8] (fun vi vt wr => ∃ (i t : Nat) (dk : Array Int), vi = .int .i64 i ∧ vt = .int .i64 t ∧ Hid (ParAt w g n r a b t i dk wr)) (fun vi vt _ => 6 - intOf16 vt)
  case atStart => exact ⟨a + 1, 0, d, by go_num, rfl, H0.out⟩
  case round =>
    obtain ⟨i, t, dk, rfl, rfl, H⟩ := hrel
    by_cases ht : t < 5
    · have hai : a < i := H.out.1
      have hib : i ≤ b := H.out.2.1
      go_upto_block 2 with fail
      go_cut [7] from 13 to 132 (fun vi wx => ∃ i2 : Nat, vi = .int .i64 i2 ∧ Hid (ScanEnd w g dk b i i2 wx))
      case first =>
        go_wp2
        go_loopw [7] (fun vi wr => ∃ i2 : Nat, vi = .int .i64 i2 ∧ i ≤ i2 ∧ i2 ≤ b ∧ Hid (ScanAt w g dk b i i2 wr)) (fun vi _ => b + 1 - intOf16 vi)
        case atStart => exact ⟨i, rfl, Nat.le_refl _, hib, Nat.le_refl _, hib, H.out.2.2.2.2.1, rfl⟩
        case round =>
          obtain ⟨j, rfl, hij, hjb, HS⟩ := hrel
          obtain ⟨G, hG⟩ : ∃ G : Nat → Int, ∀ t, dk[t]! = G t := ⟨fun t => dk[t]!, fun _ => rfl⟩
          have hcw : ∀ t, t < n → wr.cell? ⟨g, t, none⟩ = some (.int .u16 (G t)) := fun t ht => by rw [← hG]; exact HS.out.2.2.1.row.cell (by rw [H.out.2.2.2.1]; exact ht)
          have HG := keep hG
          clear hG
          by_cases hlt : j < b
          · have hjn : j < n := by omega
            have hjz : (j : Int) < (n : Int) := by omega
            have hj1 : j - 1 < n := by omega
            have hja : a < j := by omega
            go_wp2
            go_quiet (first | (go_at_call 43; refine Calls.quiet_of_same (Less16c _ _ _)))
            go_wp2
            · have hl : ltInt (G j) (G (j - 1)) = false := by simpa using (show (!ltInt (G j) (G (j - 1))) = true by assumption)
              have HE := keep (scan_go hlt (d := dk) (by rw [HG.out, HG.out]; exact hl))
              go_roundw
              case rel => exact ⟨j + 1, by go_num, by omega, by omega, by omega, by omega, HS.out.2.2.1.drew _, by rw [← HE.out]; exact HS.out.2.2.2⟩
              case measure => simp [intOf16]; omega
            · have hl : ltInt (G j) (G (j - 1)) = true := by simpa using (show (!ltInt (G j) (G (j - 1))) = false by assumption)
              have HE := keep (scan_stop (b := b) (.inr (show ltInt dk[j]! dk[j - 1]! = true by rw [HG.out, HG.out]; exact hl)))
              go_meet
              exact ⟨j, rfl, hij, hjb, HS.out.2.2.1.drew _, by rw [← HS.out.2.2.2]; exact HE.out⟩
          · have HE := keep (scan_stop (d := dk) (.inl hlt))
            go_wp2
            go_quiet (first | (go_at_call 43; refine Calls.quiet_of_same (Less16c _ _ _)))
            go_wp2
            go_meet
            exact ⟨j, rfl, hij, hjb, HS.out.2.2.1.drew _, by rw [← HS.out.2.2.2]; exact HE.out⟩
      case rest =>
        obtain ⟨i2, rfl, HE⟩ := hcut
        have hi2 : i ≤ i2 := HE.out.1
        have hb2 : i2 ≤ b := HE.out.2.1
        by_cases hend : i2 = b
        · have HR := keep (show r = (dk, true) by rw [← H.out.2.2.2.2.2]; exact par_end ht HE.out.2.2.2 hend)
          subst hend
          go_wp2
          go_ret
          rw [HR.out]
          exact ⟨rfl, HE.out.2.2.1⟩
        · have hlt2 : i2 < b := by omega
          by_cases hsh : b - a < 50
          · have HR := keep (show r = (dk, false) by rw [← H.out.2.2.2.2.2]; exact par_short ht HE.out.2.2.2 hend hsh)
            have hshz : (b : Int) - (a : Int) < 50 := by omega
            go_wp2
            go_ret
            rw [HR.out]
            exact ⟨rfl, HE.out.2.2.1⟩
          · have HR := keep (show partialIns ltInt a b (5 - (t + 1)) i2 (fixU b i2 (fixD a i2 (swp dk i2 (i2 - 1)))) = r by rw [← H.out.2.2.2.2.2]; exact (par_go ht HE.out.2.2.2 hend hsh).symm)
            have hshz : ¬ (b : Int) - (a : Int) < 50 := by omega
            have hin : i2 < n := by omega
            have hiz : (i2 : Int) < (n : Int) := by omega
            have hi1 : i2 - 1 < n := by omega
            have hai2 : a < i2 := by omega
            obtain ⟨G, hG⟩ : ∃ G : Nat → Int, ∀ t, dk[t]! = G t := ⟨fun t => dk[t]!, fun _ => rfl⟩
            have hcw : ∀ t, t < n → wc.cell? ⟨g, t, none⟩ = some (.int .u16 (G t)) := fun t ht => by rw [← hG]; exact HE.out.2.2.1.row.cell (by rw [H.out.2.2.2.1]; exact ht)
            have hfw : ∀ t, t < n → wc.frozen? ⟨g, t, none⟩ = false := fun t ht => HE.out.2.2.1.row.fz (by rw [H.out.2.2.2.1]; exact ht)
            have HSW := keep (show ∀ k, Done w g (swp dk i2 (i2 - 1)) (((wc.setCell ⟨g, i2, none⟩ (.int .u16 (G (i2 - 1)))).setCell ⟨g, i2 - 1, none⟩ (.int .u16 (G i2))).drewN k) from fun k => by
              have := (HE.out.2.2.1.swap (i := i2) (j := i2 - 1) (by rw [H.out.2.2.2.1]; exact hin) (by rw [H.out.2.2.2.1]; exact hi1)).drew k
              rw [hG, hG] at this
              exact this)
            clear hG
            go_upto_region 11 with fail
            go_cut [] from 13 to 132 (fun wx => Hid (Done w g (swp dk i2 (i2 - 1)) wx))
            case first =>
              go_region
              all_goals (go_wp2; go_meet; exact HSW.out 1)
            case rest =>
              clear hcw hfw HSW
              obtain ⟨e1, he1⟩ : ∃ e1, swp dk i2 (i2 - 1) = e1 := ⟨_, rfl⟩
              rw [he1] at HR hcut
              have HZ1 := keep (show e1.size = n by rw [← he1, swp_size]; exact H.out.2.2.2.1)
              clear he1
              have HC1 := keep hcut.out
              clear hcut
              have hd9 : wrap64 ((i2 : Int) - (a : Int)) = (i2 : Int) - (a : Int) := by unfold wrap64; omega
              go_upto_if 61 with fail
              go_cut [9] from 13 to 132 (fun _ wx => Hid (Done w g (fixD a i2 e1) wx))
              case first =>
                by_cases h2 : i2 - a ≥ 2
                · have h2z : (i2 : Int) - (a : Int) ≥ 2 := by omega
                  have h2z' : (2 : Int) ≤ (i2 : Int) - (a : Int) := by omega
                  have HF := keep (show fixD a i2 e1 = shiftDown ltInt (i2 - 1) e1 by unfold fixD; rw [if_pos h2])
                  go_wp2
                  go_loopw [9] (fun vj wr => ∃ (j : Nat) (dj : Array Int), vj = .int .i64 j ∧ j ≤ i2 - 1 ∧ Hid (dj.size = n ∧ Done w g dj wr ∧ shiftDown ltInt j dj = shiftDown ltInt (i2 - 1) e1)) (fun vj _ => intOf16 vj)
                  case atStart => exact ⟨i2 - 1, e1, by congr 1; omega, Nat.le_refl _, HZ1.out, HC1.out, rfl⟩
                  case round =>
                    obtain ⟨j, dj, rfl, hji, HJ⟩ := hrel
                    by_cases h1 : 1 ≤ j
                    · obtain ⟨G, hG⟩ : ∃ G : Nat → Int, ∀ t, dj[t]! = G t := ⟨fun t => dj[t]!, fun _ => rfl⟩
                      have hcw : ∀ t, t < n → wr.cell? ⟨g, t, none⟩ = some (.int .u16 (G t)) := fun t ht => by rw [← hG]; exact HJ.out.2.1.row.cell (by rw [HJ.out.1]; exact ht)
                      have hfw : ∀ t, t < n → wr.frozen? ⟨g, t, none⟩ = false := fun t ht => HJ.out.2.1.row.fz (by rw [HJ.out.1]; exact ht)
                      have HG := keep hG
                      clear hG
                      have hjn : j < n := by omega
                      have hjz : (j : Int) < (n : Int) := by omega
                      have hj1 : j - 1 < n := by omega
                      go_wp2
                      go_quiet (first | (go_at_call 43; refine Calls.quiet_of_same (Less16c _ _ _)))
                      go_wp2
                      · have hl : ltInt (G j) (G (j - 1)) = false := by simpa using (show (!ltInt (G j) (G (j - 1))) = true by assumption)
                        have HS := keep (shd_stop (d := dj) (.inr (by rw [HG.out, HG.out]; exact hl)))
                        go_meet
                        rw [HF.out, ← HJ.out.2.2, HS.out]
                        exact HJ.out.2.1.drew _
                      · have hl : ltInt (G j) (G (j - 1)) = true := by simpa using (show (!ltInt (G j) (G (j - 1))) = false by assumption)
                        have HS := keep (shd_go h1 (d := dj) (by rw [HG.out, HG.out]; exact hl))
                        go_region
                        all_goals go_wp2
                        go_roundw
                        case rel =>
                          refine ⟨j - 1, swp dj j (j - 1), by congr 1; omega, by omega, by rw [swp_size]; exact HJ.out.1, ?_, by rw [← HS.out]; exact HJ.out.2.2⟩
                          rw [← HG.out, ← HG.out]
                          exact (HJ.out.2.1.drew _).swap (by rw [HJ.out.1]; exact hjn) (by rw [HJ.out.1]; exact hj1)
                        case measure => simp [intOf16]; omega
                    · have HS := keep (shd_stop (d := dj) (.inl h1))
                      go_wp2
                      go_meet
                      rw [HF.out, ← HJ.out.2.2, HS.out]
                      exact HJ.out.2.1
                · have h2z : ¬ (i2 : Int) - (a : Int) ≥ 2 := by omega
                  have h2z' : ¬ (2 : Int) ≤ (i2 : Int) - (a : Int) := by omega
                  have HF := keep (show fixD a i2 e1 = e1 by unfold fixD; rw [if_neg h2])
                  go_wp2
                  go_meet
                  rw [HF.out]
                  exact HC1.out
              case rest =>
                obtain ⟨e2, he2⟩ : ∃ e2, fixD a i2 e1 = e2 := ⟨_, rfl⟩
                rw [he2] at HR hcut
                have HZ2 := keep (show e2.size = n by rw [← he2, fixD_size]; exact HZ1.out)
                clear he2
                have HC2 := keep hcut.out
                clear hcut
                have hd8 : wrap64 ((b : Int) - (i2 : Int)) = (b : Int) - (i2 : Int) := by unfold wrap64; omega
                go_upto_if 98 with fail
                by_cases h2 : b - i2 ≥ 2
                · have h2z : (b : Int) - (i2 : Int) ≥ 2 := by omega
                  have h2z' : (2 : Int) ≤ (b : Int) - (i2 : Int) := by omega
                  have HF := keep (show fixU b i2 e2 = shiftUp ltInt b (i2 + 1) e2 by unfold fixU; rw [if_pos h2])
                  go_wp2
                  go_loopw [10] (fun vj wr => ∃ (j : Nat) (dj : Array Int), vj = .int .i64 j ∧ i2 < j ∧ j ≤ b ∧ Hid (dj.size = n ∧ Done w g dj wr ∧ shiftUp ltInt b j dj = shiftUp ltInt b (i2 + 1) e2)) (fun vj _ => b + 1 - intOf16 vj)
                  case atStart => exact ⟨i2 + 1, e2, by go_num, by omega, by omega, HZ2.out, HC2.out, rfl⟩
                  case round =>
                    obtain ⟨j, dj, rfl, hji, hjb, HJ⟩ := hrel
                    by_cases h1 : j < b
                    · obtain ⟨G, hG⟩ : ∃ G : Nat → Int, ∀ t, dj[t]! = G t := ⟨fun t => dj[t]!, fun _ => rfl⟩
                      have hcw : ∀ t, t < n → wr.cell? ⟨g, t, none⟩ = some (.int .u16 (G t)) := fun t ht => by rw [← hG]; exact HJ.out.2.1.row.cell (by rw [HJ.out.1]; exact ht)
                      have hfw : ∀ t, t < n → wr.frozen? ⟨g, t, none⟩ = false := fun t ht => HJ.out.2.1.row.fz (by rw [HJ.out.1]; exact ht)
                      have HG := keep hG
                      clear hG
                      have hjn : j < n := by omega
                      have hjz : (j : Int) < (n : Int) := by omega
                      have hj1 : j - 1 < n := by omega
                      go_wp2
                      go_quiet (first | (go_at_call 43; refine Calls.quiet_of_same (Less16c _ _ _)))
                      go_wp2
                      · have hl : ltInt (G j) (G (j - 1)) = false := by simpa using (show (!ltInt (G j) (G (j - 1))) = true by assumption)
                        have HS := keep (su_stop (b := b) (d := dj) (.inr (by rw [HG.out, HG.out]; exact hl)))
                        go_roundw
                        case rel => first | exact ⟨i2, t + 1, fixU b i2 e2, rfl, by go_num, ⟨hai2, hb2, by omega, by rw [fixU_size]; exact HZ2.out, by rw [HF.out, ← HJ.out.2.2, HS.out]; exact HJ.out.2.1.drew _, HR.out⟩⟩ | ((repeat apply Exists.intro); exact ⟨⟨i2, t + 1, fixU b i2 e2, rfl, by go_num, ⟨hai2, hb2, by omega, by rw [fixU_size]; exact HZ2.out, by rw [HF.out, ← HJ.out.2.2, HS.out]; exact HJ.out.2.1.drew _, HR.out⟩⟩, rfl⟩)
                        case measure => simp [intOf16]; omega
                      · have hl : ltInt (G j) (G (j - 1)) = true := by simpa using (show (!ltInt (G j) (G (j - 1))) = false by assumption)
                        have HS := keep (su_go (b := b) h1 (d := dj) (by rw [HG.out, HG.out]; exact hl))
                        go_region
                        all_goals go_wp2
                        go_roundw
                        case rel =>
                          refine ⟨j + 1, swp dj j (j - 1), by go_num, by omega, by omega, by rw [swp_size]; exact HJ.out.1, ?_, by rw [← HS.out]; exact HJ.out.2.2⟩
                          rw [← HG.out, ← HG.out]
                          exact (HJ.out.2.1.drew _).swap (by rw [HJ.out.1]; exact hjn) (by rw [HJ.out.1]; exact hj1)
                        case measure => simp [intOf16]; omega
                    · have HS := keep (su_stop (d := dj) (.inl h1))
                      go_wp2
                      go_roundw
                      case rel => first | exact ⟨i2, t + 1, fixU b i2 e2, rfl, by go_num, ⟨hai2, hb2, by omega, by rw [fixU_size]; exact HZ2.out, by rw [HF.out, ← HJ.out.2.2, HS.out]; exact HJ.out.2.1, HR.out⟩⟩ | ((repeat apply Exists.intro); exact ⟨⟨i2, t + 1, fixU b i2 e2, rfl, by go_num, ⟨hai2, hb2, by omega, by rw [fixU_size]; exact HZ2.out, by rw [HF.out, ← HJ.out.2.2, HS.out]; exact HJ.out.2.1, HR.out⟩⟩, rfl⟩)
                      case measure => simp [intOf16]; omega
                · have h2z : ¬ (b : Int) - (i2 : Int) ≥ 2 := by omega
                  have h2z' : ¬ (2 : Int) ≤ (b : Int) - (i2 : Int) := by omega
                  have HF := keep (show fixU b i2 e2 = e2 by unfold fixU; rw [if_neg h2])
                  go_wp2
                  go_roundw
                  case rel => first | exact ⟨i2, t + 1, fixU b i2 e2, rfl, by go_num, ⟨hai2, hb2, by omega, by rw [fixU_size]; exact HZ2.out, by rw [HF.out]; exact HC2.out, HR.out⟩⟩ | ((repeat apply Exists.intro); exact ⟨⟨i2, t + 1, fixU b i2 e2, rfl, by go_num, ⟨hai2, hb2, by omega, by rw [fixU_size]; exact HZ2.out, by rw [HF.out]; exact HC2.out, HR.out⟩⟩, rfl⟩)
                  case measure => simp [intOf16]; omega
    · have ht5 : t = 5 := by have := H.out.2.2.1; omega
      subst ht5
      have HR := keep (show r = (dk, false) by rw [← H.out.2.2.2.2.2]; rfl)
      go_wp2
      go_ret
      rw [HR.out]
      exact ⟨rfl, H.out.2.2.2.2.1⟩
end Go.Proofs.Ytofebpikihandaa
