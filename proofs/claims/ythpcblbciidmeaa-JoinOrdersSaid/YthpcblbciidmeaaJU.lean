/- Chunks and messages are skipped. -/
import Derived.Test.YthpcblbciidmeaaJT
namespace Go.Proofs.Ythpcblbciidmeaa
open Go.RowKit Go.Maps
set_option linter.unusedVariables false

def skC (x : Int × Int) : List Value := [.int .u16 x.1, .int .u16 x.2]
theorem skC_len (x : Int × Int) : (skC x).length = 2 := rfl
/-- The slice at A, of m skips, reads as l. -/
def KS (w : World) (A : Option Addr) (m c : Nat) (l : List (Int × Int)) : Prop := m = l.length ∧ m ≤ c ∧ SR w A (flatF skC l) ∧ ∀ x ∈ l, 0 ≤ x.1 ∧ x.1 < 65536 ∧ 0 ≤ x.2 ∧ x.2 < 65536
theorem KS.at_ {w : World} {A : Option Addr} {n c : Nat} {l : List (Int × Int)} (h : KS w A n c l) {j : Nat} (hj : j < n) :
    ∃ b o x, A = some ⟨b, o, none⟩ ∧ b < w.heap.size ∧ w.cell? ⟨b, o + j * 2, none⟩ = some (.int .u16 x.1) ∧ w.cell? ⟨b, o + j * 2 + 1, none⟩ = some (.int .u16 x.2) ∧ l[j]? = some x := by
  obtain ⟨h1, _, h3, _⟩ := h
  have hl : j < l.length := by omega
  have hg := flatF_get (f := skC) skC_len l j l[j] (List.getElem?_eq_getElem hl)
  obtain ⟨b, o, e, hlt, hc⟩ := h3 (by intro h0; have := flatF_len (f := skC) skC_len l; rw [h0] at this; simp at this; omega)
  have c0 := hc (j * 2 + 0) _ ((hg 0 (by decide)).trans rfl)
  have c1 := hc (j * 2 + 1) _ ((hg 1 (by decide)).trans rfl)
  exact ⟨b, o, l[j], e, hlt, c0, by rw [Nat.add_assoc]; exact c1, List.getElem?_eq_getElem hl⟩
theorem KS.kept {S : Nat → Prop} {w w' : World} {A : Option Addr} {n c : Nat} {l : List (Int × Int)} (h : KS w A n c l) (hp : Part S w w') (hA : ∀ a, A = some a → ¬ S a.block) : KS w' A n c l := ⟨h.1, h.2.1, hp.sr h.2.2.1 hA, h.2.2.2⟩
theorem go_ch (j : Jn) (s : Int) : (goJ j s).ch = j.ch := by
  unfold goJ
  cases hasS j.st s (j.nx s) <;> rfl
theorem goN_ch : ∀ (d : Nat) (j : Jn) (s : Int), (goN d j s).ch = j.ch
  | 0, _, _ => rfl
  | d + 1, j, s => (goN_ch d (goJ j s) s).trans (go_ch j s)
theorem skip_ch {j : Jn} (h : Wf j) (p : Int × Int) : (skipJ j p).ch = j.ch := by
  unfold skipJ
  split
  · rfl
  · rw [(tell_wf (goN_wf _ j p.1 h).1 _).2.2.2, goN_ch]
theorem JG.skip {w w' : World} {G G' : Gh} {j : Jn} (h : JG w G j) {p : Int × Int} (hj : JA w' G' (skipJ j p) (j.oct : Int)) (hf : G'.far = G.far) : JG w' G' (skipJ j p) := by
  have hw := skip_wf h.good.wf p
  exact ⟨by rw [hw.2.1]; exact hj, ⟨hw.1, h.good.ne.skip p, by rw [hw.2.1]; exact h.good.le⟩, by rw [skip_ch h.good.wf, hf]; exact h.ends⟩
theorem JG.step {w w' : World} {G : Gh} {j : Jn} (h : JG w G j) (hb : Below w.heap.size w w') : JG w' G j := ⟨h.ja.step hb, h.good, h.ends⟩
theorem Forward_nil (n : Int) (v : Value) (w : World) : Calls Try.prog 11 #[.pointer none, .int .u32 n, v] w fun e w' => e = .returned (.tuple #[]) ∧ w = w' := by
  go_enter Try.func11, Try.ntmps11
  go_wp2
  exact bodyPost_ret (results_none rfl _ _ _) rfl ⟨rfl, rfl⟩
set_option maxRecDepth 1000000 in
set_option maxHeartbeats 4000000 in
theorem Forward_any {w : World} {G : Gh} {j : Jn} (h : JG w G j) {n : Int} (n0 : 0 ≤ n) (n1 : n < 4294967296) {A : Option Addr} {m c : Nat} {l : List (Int × Int)} (hs : KS w A m c l) (hA : 0 < m → ∀ a, A = some a → ¬ G.O a.block) (hm : m ≤ 1000000) :
    Calls Try.prog 11 #[.pointer (some ⟨G.b, 0, none⟩), .int .u32 n, .slice A m c] w fun e w' => e = .returned (.tuple #[]) ∧ ∃ G', JG w' G' (fwdJ j n l) ∧ Later w G w' G' := by
  have KD := keep (drop_any h n0 n1)
  have HS := keep hs
  have HA := keep hA
  have HM := keep hm
  have HB := keep h.ja.olt
  have hcap := hs.2.1
  clear h n0 n1 hs hA
  obtain ⟨b, k, sb, N, v, pb, pc, far, wm, gs, rs, O, F⟩ := G
  dsimp only at *
  go_enter Try.func11, Try.ntmps11
  go_wp2_with (go_at_call 23; refine KD.out.mono ?_; rintro e w1 ⟨rfl, G1, hj1, hl1⟩; replace hj1 := keep hj1; replace hl1 := keep hl1)
  go_loopw [16] (fun iv wr => ∃ (t : Nat) (Gt : Gh), iv = .int .i64 (t : Int) ∧ t ≤ m ∧ Hid (JG wr Gt ((l.take t).foldl skipJ { j with ch := j.ch.filter fun x => !le32 x.a n }) ∧ Later w ⟨b, k, sb, N, v, pb, pc, far, wm, gs, rs, O, F⟩ wr Gt)) (fun iv _ => m - (intOf iv).toNat)
  case atStart => exact ⟨0, G1, rfl, Nat.zero_le _, keep ⟨hj1.out, hl1.out⟩⟩
  case round =>
    obtain ⟨t, Gt, rfl, ht, HR⟩ := hrel
    by_cases hlt : t < m
    · have hlt' : (t : Int) < (m : Int) := by omega
      have hwt : IntKind.i64.wrap ((t : Int) + 1) = (t : Int) + 1 := wrap_small (by omega) (by omega)
      obtain ⟨g, og, x, eA, hgl, d0, d1, hx⟩ := (HS.out.kept HR.out.2.part (HA.out (by omega))).at_ hlt
      have hxr := HS.out.2.2.2 x (List.mem_of_getElem? hx)
      have hfold : (l.take (t + 1)).foldl skipJ { j with ch := j.ch.filter fun x => !le32 x.a n } = skipJ ((l.take t).foldl skipJ { j with ch := j.ch.filter fun x => !le32 x.a n }) x := by
        rw [List.take_add_one, hx, List.foldl_append]
        rfl
      have hmsz : m ≤ 1000000 := HM.out
      subst eA
      have eb : Gt.b = b := HR.out.2.b
      have esb : Gt.sb = sb := HR.out.2.sb
      obtain ⟨jt, hjt⟩ : ∃ q, (l.take t).foldl skipJ { j with ch := j.ch.filter fun x => !le32 x.a n } = q := ⟨_, rfl⟩
      rw [hjt] at HR hfold
      have hn64 : Gt.n ≤ 64 := by
        have h1 := HR.out.1.good.wf.n1
        have h2 := HR.out.1.ja.n
        omega
      obtain ⟨x0, x1⟩ := x
      dsimp only at d0 d1 hxr
      have J1 := HR.out.1.step (below_lay wr (.cells #[.int .u16 x0, .int .u16 x1] 55))
      have LT := keep hlt
      have HFO := keep hfold
      by_cases hs : x0 < Gt.n
      · obtain ⟨s, rfl⟩ : ∃ s : Nat, x0 = s := ⟨x0.toNat, by omega⟩
        have hs' : s < Gt.n := by omega
        have KF := find_ok J1.ja hn64 hs'
        rw [eb, esb] at KF
        replace KF := keep KF
        cases hl : lt16 x1 (jt.nx s)
        · have KK := skip_more J1.ja J1.good hs' hxr.2.2.1 hxr.2.2.2 hl
          rw [eb, esb] at KK
          replace KK := keep KK
          have HE := keep (show skipJ jt ((s : Int), x1) = tell (goN (((x1 - jt.nx s) % 65536).toNat + 1) jt s) s from by
            unfold skipJ
            rw [if_neg ?_]
            show ¬ (¬ ((0 : Int) ≤ s ∧ (s : Int) < jt.n) ∨ lt16 x1 (jt.nx s) = true)
            rw [hl, J1.ja.n]
            rintro (h1 | h1)
            · exact h1 ⟨by omega, by omega⟩
            · cases h1)
          have J1k := keep J1
          clear J1 hl hs hs' hn64 hfold hjt hlt eb esb hxr hx
          go_wp2_with (first
            | (go_at_call 24; refine KF.out.mono ?_; rintro e w' ⟨rfl, rfl⟩)
            | (go_at_call 25; refine KK.out.mono ?_; rintro e w3 ⟨rfl, G3, hj3, hl3, hf3⟩; replace hj3 := keep hj3; replace hl3 := keep hl3; replace hf3 := keep hf3))
          go_roundw
          case rel => exact ⟨t + 1, G3, by go_num, LT.out, keep ⟨by rw [HFO.out]; exact J1k.out.skip (by rw [HE.out]; exact hj3.out) hf3.out, (HR.out.2.trans (Later.below (below_lay wr _))).trans hl3.out⟩⟩
          case measure => (have := LT.out; simp [intOf]; omega)
        · have KK := skip_less J1.ja hs' hl
          rw [eb, esb] at KK
          replace KK := keep KK
          have HE := keep (show skipJ jt ((s : Int), x1) = jt from by
            unfold skipJ
            rw [if_pos (.inr hl)])
          have J1k := keep J1
          clear J1 hl hs hs' hn64 hfold hjt hlt eb esb hxr hx
          go_wp2_with (first
            | (go_at_call 24; refine KF.out.mono ?_; rintro e w' ⟨rfl, rfl⟩)
            | (go_at_call 25; refine KK.out.mono ?_; rintro e w3 ⟨rfl, rfl⟩))
          go_roundw
          case rel => exact ⟨t + 1, Gt, by go_num, LT.out, keep ⟨by rw [HFO.out, HE.out]; exact J1k.out, HR.out.2.trans (Later.below (below_lay wr _))⟩⟩
          case measure => (have := LT.out; simp [intOf]; omega)
      · have KF := find_no J1.ja hn64 hxr.1 hxr.2.1 hs
        rw [eb] at KF
        replace KF := keep KF
        have HE := keep (show skipJ jt (x0, x1) = jt from by
          unfold skipJ
          rw [if_pos (.inl (fun h1 => hs (by have h2 := h1.2; rw [J1.ja.n] at h2; exact h2)))])
        have J1k := keep J1
        clear J1 hs hn64 hfold hjt hlt eb esb hxr hx
        go_wp2_with (first
          | (go_at_call 24; refine KF.out.mono ?_; rintro e w' ⟨rfl, rfl⟩))
        go_roundw
        case rel => exact ⟨t + 1, Gt, by go_num, LT.out, keep ⟨by rw [HFO.out, HE.out]; exact J1k.out, HR.out.2.trans (Later.below (below_lay wr _))⟩⟩
        case measure => (have := LT.out; simp [intOf]; omega)
    · obtain rfl : t = m := by omega
      have hlt' : ¬ (t : Int) < (t : Int) := by omega
      have HT := keep (show l.take t = l from List.take_of_length_le (by rw [HS.out.1]; exact Nat.le_refl _))
      clear hlt
      go_wp2
      refine bodyPost_end (results_none rfl _ _ _) rfl ⟨rfl, Gt, ?_, HR.out.2⟩
      have h9 := HR.out.1
      rw [HT.out] at h9
      exact h9
end Go.Proofs.Ythpcblbciidmeaa
