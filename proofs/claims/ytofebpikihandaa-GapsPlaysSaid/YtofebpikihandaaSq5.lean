/- The library's sort at numbers of 16 bits: the pattern-defeating quicksort. -/
import Derived.Test.YtofebpikihandaaSq4
namespace Go.Proofs.Ytofebpikihandaa
open Go.RowKit Go.Sort
set_option linter.unusedVariables false
set_option linter.unusedSimpArgs false

def PdqPost (w : World) (g : Nat) (d : Array Int) (a b : Nat) (e : Ending) (w' : World) : Prop := e = .returned (.tuple #[]) ∧ ∃ R, Done w g R w' ∧ Fin d a b R
/-- Where a round stands. -/
structure AtW (w : World) (g : Nat) (d : Array Int) (a b a' b' n : Nat) (dk : Array Int) (W : World) : Prop where
  at_ : At d a b a' b' n dk
  done : Done w g dk W
  lt : g < W.heap.size
theorem AtW.next {w W W' : World} {g : Nat} {d dk d2 : Array Int} {a b a' b' n : Nat} (h : AtW w g d a b a' b' n dk W) (hd : Done W g d2 W') (hp : PermIn a' b' dk d2) : AtW w g d a b a' b' n d2 W' :=
  ⟨h.at_.perm hp, h.done.trans hd, Nat.lt_of_lt_of_le h.lt hd.part.size⟩
theorem AtW.below {w W W' : World} {g : Nat} {d dk : Array Int} {a b a' b' n : Nat} (h : AtW w g d a b a' b' n dk W) (hb : Below W.heap.size W W') : AtW w g d a b a' b' n dk W' :=
  h.next ⟨h.done.row.kept (Part.of_below (fun _ => False) hb) (fun x => x) h.lt, Part.of_below _ hb⟩ (permIn_refl _ _ _)
theorem AtW.drewN {w W : World} {g : Nat} {d dk : Array Int} {a b a' b' n : Nat} (h : AtW w g d a b a' b' n dk W) (q : Nat) : AtW w g d a b a' b' n dk (W.drewN q) := ⟨h.at_, h.done.drew q, h.lt⟩
theorem AtW.bb {w W : World} {g : Nat} {d dk : Array Int} {a b a' b' n : Nat} (h : AtW w g d a b a' b' n dk W) : b' ≤ n := Nat.le_trans h.at_.bb h.at_.bn
def PdqSays (g c n N : Nat) : Prop := ∀ (a b l : Nat) (d : Array Int) (w : World), b - a < N → Rw w g d → g < w.heap.size → a ≤ b → b ≤ n → d.size = n → Go.Sort.Below ltInt a b d → l ≤ 300 →
  Calls Try.prog 35 #[.slice (some ⟨g, 0, none⟩) n c, .int .i64 a, .int .i64 b, .int .i64 l] w (PdqPost w g d a b)

set_option maxHeartbeats 8000000 in
set_option maxRecDepth 1000000 in
theorem pdq_step (g c n N : Nat) (hn : n < 256) (IH : PdqSays g c n N) : PdqSays g c n (N + 1) := by
  intro a b l d w hN hrow hg hab hb hsz hlow hl
  have H0 := keep (show AtW w g d a b a b n d w ∧ l ≤ 300 from ⟨⟨At.start hab hb hsz hlow, Done.refl hrow, hg⟩, hl⟩)
  have HIH := keep IH
  have HN := keep (show n < 256 ∧ b - a ≤ N by omega)
  have HPost := keep (show PdqPost w g d a b = PdqPost w g d a b from rfl)
  clear IH hn hN hrow hg hab hb hsz hlow hl
  go_enter Try.func35, Try.ntmps35
  go_wp2_with fail
  go_loopw [1, 2, 3, 8, 9] (fun va vb vl vB vP wr => ∃ (a' b' l' : Nat) (B P : Bool) (dk : Array Int), va = .int .i64 a' ∧ vb = .int .i64 b' ∧ vl = .int .i64 l' ∧ vB = .bool B ∧ vP = .bool P ∧ Hid (AtW w g d a b a' b' n dk wr ∧ l' ≤ 300)) (fun va vb _ _ _ _ => intOf16 vb - intOf16 va)
  case atStart => exact ⟨a, b, l, true, true, d, rfl, rfl, rfl, rfl, rfl, H0⟩
  case round =>
    obtain ⟨a', b', l', B, P, dk, rfl, rfl, rfl, rfl, rfl, H⟩ := hrel
    clear H0
    obtain ⟨len, hlen⟩ : ∃ len : Nat, (b' : Int) - (a' : Int) = (len : Int) := ⟨b' - a', by have := H.out.1.at_.ab; omega⟩
    have HL := keep (show len = b' - a' ∧ a' ≤ b' ∧ a ≤ a' ∧ b' ≤ b ∧ b' ≤ n ∧ n < 256 by have := H.out.1.at_.ab; have := H.out.1.at_.aa; have := H.out.1.at_.bb; have := H.out.1.bb; have := HN.out.1; omega)
    have az : (a' : Int) ≤ 1000 := by have := HL.out; omega
    have bz : (b' : Int) ≤ 1000 := by have := HL.out; omega
    have lz : (l' : Int) ≤ 300 := by have := H.out.2; omega
    by_cases h12 : (len : Int) ≤ 12
    · have K := keep (insertion_any (c := c) (a := a') (b := b') H.out.1.done.row HL.out.2.1 (by rw [H.out.1.at_.size]; exact HL.out.2.2.2.2.1) (by rw [H.out.1.at_.size]; have := HL.out; omega))
      rw [H.out.1.at_.size] at K
      go_wp2_with (go_at_call 37; refine K.out.mono ?_; rintro e w2 ⟨rfl, hd2⟩; replace hd2 := keep hd2)
      (try simp only [Exit.inBlock, Exit.then])
      exact bodyPost_ret (results_none rfl _ _ _) rfl ⟨rfl, _, H.out.1.done.trans hd2.out, H.out.1.at_.ins⟩
    · have h12b : a' + 12 < b' := by have := HL.out; omega
      by_cases hl0 : l' = 0
      · subst hl0
        have K := keep (heap_any (c := c) (a := a') (b := b') H.out.1.done.row (by omega) (by rw [H.out.1.at_.size]; exact HL.out.2.2.2.2.1) (by rw [H.out.1.at_.size]; have := HL.out; omega))
        rw [H.out.1.at_.size] at K
        go_wp2_with (go_at_call 38; refine K.out.mono ?_; rintro e w2 ⟨rfl, hd2⟩; replace hd2 := keep hd2)
        (try simp only [Exit.inBlock, Exit.then])
        exact bodyPost_ret (results_none rfl _ _ _) rfl ⟨rfl, _, H.out.1.done.trans hd2.out, H.out.1.at_.heap⟩
      · have hl1 : ((l' : Int) == 0) = false := by simp [hl0]
        have hl2 : (l' : Int) - 1 = ((l' - 1 : Nat) : Int) := by omega
        have HLl := keep (show 1 ≤ l' ∧ l' ≤ 300 by have := H.out.2; omega)
        have HB := keep h12b
        clear h12b hl0
        go_upto_if 35 with fail
        go_cut [3] from 19 to 133 (fun vl wx => ∃ (l2 : Nat) (d2 : Array Int), vl = .int .i64 l2 ∧ Hid (AtW w g d a b a' b' n d2 wx ∧ l2 ≤ 300))
        case first =>
          rcases B with _ | _
          · have K := keep (break_any (c := c) (a := a') (b := b') H.out.1.done.row H.out.1.lt HB.out (by rw [H.out.1.at_.size]; exact HL.out.2.2.2.2.1) (by rw [H.out.1.at_.size]; have := HL.out; omega))
            rw [H.out.1.at_.size] at K
            go_wp2_with (go_at_call 39; refine K.out.mono ?_; rintro e w2 ⟨rfl, d2, hd2, hp2⟩; replace hd2 := keep (And.intro hd2 hp2); clear hp2)
            go_meet
            exact ⟨l' - 1, d2, by rw [← hl2], H.out.1.next hd2.out.1 hd2.out.2, by have := HLl.out; omega⟩
          · go_wp2_with fail
            go_meet
            exact ⟨l', dk, rfl, H.out⟩
        case rest =>
          obtain ⟨l2, d2, rfl, H2⟩ := hcut
          clear H HLl hl1 hl2 lz
          obtain ⟨w0, hw0⟩ : ∃ w0, w0 = wc := ⟨_, rfl⟩
          have lz : (l2 : Int) ≤ 300 := by have := H2.out.2; omega
          have K := keep (pivot_any (c := c) (a := a') (b := b') H2.out.1.done.row H2.out.1.lt HB.out (by rw [H2.out.1.at_.size]; exact HL.out.2.2.2.2.1) (by rw [H2.out.1.at_.size]; have := HL.out; omega))
          rw [H2.out.1.at_.size] at K
          clear hw0
          go_upto_if 50 with (go_at_call 40; refine K.out.mono ?_; rintro e w3 ⟨p, t, rfl, hp, hb3⟩; have H3 := keep (H2.out.1.below hb3); have HP := keep hp; clear hb3 hp)
          go_cut [11, 12] from 19 to 133 (fun vp vh wx => ∃ (q : Nat) (t2 : Int) (d3 : Array Int), vp = .int .i64 q ∧ vh = .int .i64 t2 ∧ Hid ((a' ≤ q ∧ q < b') ∧ AtW w g d a b a' b' n d3 wx))
          case first =>
            by_cases ht : t = 2
            · subst ht
              have K2 := keep (reverse_any (c := c) (a := a') (b := b') H3.out.done.row (by have := HB.out; omega) (by rw [H3.out.at_.size]; exact HL.out.2.2.2.2.1) (by rw [H3.out.at_.size]; have := HL.out; omega))
              rw [H3.out.at_.size] at K2
              obtain ⟨q, hq⟩ : ∃ q : Nat, (b' : Int) - 1 - ((p : Int) - (a' : Int)) = (q : Int) := ⟨b' - 1 - (p - a'), by have := HP.out; omega⟩
              have pz : (p : Int) ≤ 1000 := by have := HP.out; omega
              have HQ := keep (show a' ≤ q ∧ q < b' by have := HP.out; omega)
              go_wp2_with (go_at_call 41; refine K2.out.mono ?_; rintro e w4 ⟨rfl, d4, hd4, hp4⟩; replace hd4 := keep (And.intro hd4 hp4); clear hp4)
              go_meet
              exact ⟨q, _, d4, rfl, rfl, HQ.out, H3.out.next hd4.out.1 hd4.out.2⟩
            · have ht2 : (t == 2) = false := by simp [ht]
              go_wp2_with fail
              go_meet
              exact ⟨p, t, d2, rfl, rfl, HP.out, H3.out⟩
          case rest =>
            obtain ⟨q, t2, d3, rfl, rfl, H4⟩ := hcut
            clear K H2 H3 HP
            go_upto_region 15 with fail
            go_cut [68] from 19 to 133 (fun vz wx => ∃ z : Bool, vz = .bool z ∧ Hid ((a' ≤ q ∧ q < b') ∧ AtW w g d a b a' b' n d3 wx))
            case first =>
              by_cases ht : t2 = 1
              · subst ht
                cases B <;> cases P <;> (go_wp2_with fail; go_meet; exact ⟨_, rfl, H4⟩)
              · have ht2 : (t2 == 1) = false := by simp [ht]
                cases B <;> cases P <;> (go_wp2_with fail; go_meet; exact ⟨_, rfl, H4⟩)
            case rest =>
              obtain ⟨z, rfl, H5⟩ := hcut
              clear H4
              go_upto_if 68 with fail
              go_cut [] from 19 to 133 (fun wx => ∃ (d4 : Array Int), Hid (AtW w g d a b a' b' n d4 wx))
              case first =>
                rcases z with _ | _
                · go_wp2_with fail
                  go_meet
                  exact ⟨d3, H5.out.2⟩
                · have K2 := keep (partial_any (c := c) (a := a') (b := b') H5.out.2.done.row (by have := HB.out; omega) (by rw [H5.out.2.at_.size]; exact HL.out.2.2.2.2.1) (by rw [H5.out.2.at_.size]; have := HL.out; omega))
                  rw [H5.out.2.at_.size] at K2
                  have KP := keep (H5.out.2.at_.par (by have := HB.out; omega))
                  generalize partialInsertionSort ltInt d3 a' b' = r at K2 KP
                  obtain ⟨d4, y⟩ := r
                  rcases y with _ | _
                  · go_wp2_with (go_at_call 42; refine K2.out.mono ?_; rintro e w4 ⟨rfl, hd4⟩; replace hd4 := keep hd4)
                    go_meet
                    exact ⟨d4, KP.out.1, H5.out.2.done.trans hd4.out, Nat.lt_of_lt_of_le H5.out.2.lt hd4.out.part.size⟩
                  · go_wp2_with (go_at_call 42; refine K2.out.mono ?_; rintro e w4 ⟨rfl, hd4⟩; replace hd4 := keep hd4)
                    (try simp only [Exit.inBlock, Exit.then])
                    exact bodyPost_ret (results_none rfl _ _ _) rfl ⟨rfl, _, H5.out.2.done.trans hd4.out, KP.out.2 (by trivial)⟩
              case rest =>
                obtain ⟨d4, H6⟩ := hcut
                have HQ := keep H5.out.1
                clear H5
                have hqn : q < n := by have := HQ.out; have := HL.out; omega
                have hqz : (q : Int) < (n : Int) := by omega
                have qz : (q : Int) ≤ 1000 := by have := HQ.out; omega
                go_upto_region 17 with fail
                go_cut [87] from 19 to 133 (fun vz wx => ∃ z : Bool, vz = .bool z ∧ Hid ((z = true → 0 < a' ∧ ltInt d4[a' - 1]! d4[q]! = false) ∧ AtW w g d a b a' b' n d4 wx))
                case first =>
                  by_cases ha0 : 0 < a'
                  · obtain ⟨G, hG⟩ : ∃ G : Nat → Int, ∀ t, d4[t]! = G t := ⟨fun t => d4[t]!, fun _ => rfl⟩
                    have hcw : ∀ t, t < n → wc.cell? ⟨g, t, none⟩ = some (.int .u16 (G t)) := fun t ht => by rw [← hG]; exact H6.out.done.row.cell (by rw [H6.out.at_.size]; exact ht)
                    have HG := keep hG
                    clear hG
                    have ha1 : a' - 1 < n := by have := HL.out; omega
                    have ha1z : (a' : Int) - 1 < (n : Int) := by omega
                    have ha0z : 0 < (a' : Int) := by omega
                    go_quiet (first | (go_at_call 43; refine Calls.quiet_of_same (Less16c _ _ _)))
                    go_wp2_with fail
                    go_meet
                    exact ⟨_, rfl, keep ⟨fun h => ⟨ha0, by rw [HG.out, HG.out]; simpa using h⟩, H6.out.drewN _⟩⟩
                  · have ha0z : decide (0 < (a' : Int)) = false := by simp; omega
                    go_quiet (first | (go_at_call 43; refine Calls.quiet_of_same (Less16c _ _ _)))
                    go_wp2_with fail
                    go_meet
                    exact ⟨_, rfl, keep ⟨fun h => by (first | cases h | (exfalso; simp_all)), H6.out.drewN _⟩⟩
                case rest =>
                  obtain ⟨z, rfl, H7⟩ := hcut
                  clear H6
                  rcases z with _ | _
                  · have K3 := keep (partition_any (c := c) (a := a') (b := b') (q := q) H7.out.2.done.row (by have := HB.out; omega) (by rw [H7.out.2.at_.size]; exact HL.out.2.2.2.2.1) (by rw [H7.out.2.at_.size]; have := HL.out; omega) HQ.out.1 HQ.out.2)
                    rw [H7.out.2.at_.size] at K3
                    unfold PartPost at K3
                    have HA := keep (fun (m : Nat) (d5 : Array Int) (h : Parted d4 d5 a' b' m) => H7.out.2.at_.part h)
                    go_upto_if 113 with (go_at_call 45; refine K3.out.mono ?_; rintro e w5 ⟨m, y, d5, rfl, hm, hd5⟩; have hmb : m < b' := hm.mb; have ham : a' ≤ m := hm.am; have mz : (m : Int) ≤ 1000 := by omega
                                         have H8 := keep (And.intro (HA.out m d5 hm) (show Done w g d5 w5 from H7.out.2.done.trans hd5))
                                         have HLt := keep (Nat.lt_of_lt_of_le H7.out.2.lt hd5.part.size)
                                         clear hm hd5 K3 HA)
                    have hm1 := keep (show ((m + 1 : Nat) : Int) = (m : Int) + 1 by omega)
                    have HM := keep (And.intro ham hmb)
                    clear ham hmb
                    by_cases hlr : (m : Int) - (a' : Int) < (b' : Int) - (m : Int)
                    · have KI := keep (HIH.out a' m l2 d5 w5 (by have := HM.out; have := HL.out; have := HN.out; omega) H8.out.2.row HLt.out HM.out.1 (by have := HM.out; have := HL.out; omega) H8.out.1.size H8.out.1.lowL (by omega))
                      unfold PdqPost at KI
                      go_wp2_with (go_at_call 35; refine KI.out.mono ?_; rintro e w6 ⟨rfl, d6, hd6, hf6⟩
                                   have H9 := keep (show AtW w g d a b (m + 1) b' n d6 w6 from ⟨H8.out.1.left _ hf6.1 hf6.2, H8.out.2.trans hd6, Nat.lt_of_lt_of_le HLt.out hd6.part.size⟩)
                                   clear hd6 hf6)
                      go_roundw
                      case rel => exact ⟨m + 1, b', l2, _, y, d6, by go_num, rfl, rfl, rfl, rfl, keep ⟨H9.out, by omega⟩⟩
                      case measure =>
                        have := HM.out
                        simp [intOf16]
                        omega
                    · have KI := keep (HIH.out (m + 1) b' l2 d5 w5 (by have := HM.out; have := HL.out; have := HN.out; omega) H8.out.2.row HLt.out (by have := HM.out; omega) (by have := HL.out; omega) H8.out.1.size H8.out.1.lowR (by omega))
                      unfold PdqPost at KI
                      rw [hm1.out] at KI
                      go_wp2_with (go_at_call 35; refine KI.out.mono ?_; rintro e w6 ⟨rfl, d6, hd6, hf6⟩
                                   have H9 := keep (show AtW w g d a b a' m n d6 w6 from ⟨H8.out.1.right _ hf6.1 hf6.2, H8.out.2.trans hd6, Nat.lt_of_lt_of_le HLt.out hd6.part.size⟩)
                                   clear hd6 hf6)
                      go_roundw
                      case rel => exact ⟨a', m, l2, _, y, d6, rfl, rfl, rfl, rfl, rfl, keep ⟨H9.out, by omega⟩⟩
                      case measure =>
                        have := HM.out
                        simp [intOf16]
                        omega
                  · have K3 := keep (partitionEqual_any (c := c) (a := a') (b := b') (q := q) H7.out.2.done.row (by have := HB.out; omega) (by rw [H7.out.2.at_.size]; exact HL.out.2.2.2.2.1) (by rw [H7.out.2.at_.size]; have := HL.out; omega) HQ.out.1 HQ.out.2)
                    rw [H7.out.2.at_.size] at K3
                    unfold EPartPost at K3
                    obtain ⟨g1, g2⟩ := H7.out.1 (by trivial)
                    have HA := keep (fun (m : Nat) (d5 : Array Int) (h : EParted d4 d5 d4[q]! a' b' m) => H7.out.2.at_.eq g1 HQ.out.1 HQ.out.2 g2 h)
                    clear g1 g2
                    go_wp2_with (go_at_call 44; refine K3.out.mono ?_; rintro e w5 ⟨m, d5, rfl, hm, hd5⟩; have H8 := keep (And.intro hm hd5); clear hm hd5)
                    go_roundw
                    case rel => exact ⟨m, b', l2, B, P, d5, rfl, rfl, rfl, rfl, rfl, keep ⟨⟨HA.out _ _ H8.out.1, H7.out.2.done.trans H8.out.2, Nat.lt_of_lt_of_le H7.out.2.lt H8.out.2.part.size⟩, by omega⟩⟩
                    case measure =>
                      have h1 := H8.out.1.am
                      have h2 := H8.out.1.mb
                      simp [intOf16]
                      omega
end Go.Proofs.Ytofebpikihandaa
