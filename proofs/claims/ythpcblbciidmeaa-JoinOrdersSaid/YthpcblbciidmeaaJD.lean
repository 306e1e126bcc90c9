/- A stream is told; numbers up to one are skipped. -/
import Derived.Test.YthpcblbciidmeaaJC
import Derived.Test.YthpcblbciidmeaaSer1
namespace Go.Proofs.Ythpcblbciidmeaa
open Go.RowKit Go.Maps
set_option linter.unusedVariables false

def mapLen (w : World) (k : Nat) : Nat := match w.heap[k]? with
  | some (.map es _) => es.size
  | _ => 0
theorem MapV.len_is {kt : TypeId} {q : IntKind} {w : World} {k c : Nat} {g : VM} (h : MapV w kt q k c g) : mapLen w k = c := by
  obtain ⟨D, ⟨es, cl, hb, F, hs, hD⟩, _, hc⟩ := h
  unfold mapLen
  rw [hb]
  show es.size = c
  rw [← hc, hD]
  simp [Maps.size, length_sorted]
theorem Good.rel {j : Jn} (h : Good j) {s : Int} {m : Msg} (hm : hasS j.st s (j.nx s) = some m) : Good (popJ j s m) := ⟨h.wf.pop s m, h.ne.pop hm, by rw [pop_oct h.wf hm]; exact h.le⟩
set_option maxHeartbeats 4000000 in
theorem tell_any {w : World} {G : Gh} {j : Jn} {o : Int} (h : JA w G j o) (hw : Good j) {s : Nat} (hs : s < G.n) :
    Calls Try.prog 32 #[.pointer (some ⟨G.b, 0, none⟩), .pointer (some ⟨G.sb, s * 2, none⟩)] w fun e w' => e = .returned (.tuple #[]) ∧ ∃ G', JA w' G' (tell j s) o ∧ Later w G w' G' ∧ G'.far = G.far := by
  have H := keep h
  have HG := keep hw
  have HS := keep hs
  clear h hw hs
  obtain ⟨b, k, sb, n, v, pb, pc, far, wm, gs, rs, O, F⟩ := G
  dsimp only at *
  go_enter Try.func32, Try.ntmps32
  go_wp2
  go_loopw [] (fun wr => ∃ (j1 : Jn) (G1 : Gh), Hid (JA wr G1 j1 o ∧ Later w ⟨b, k, sb, n, v, pb, pc, far, wm, gs, rs, O, F⟩ wr G1 ∧ Good j1 ∧ tell j1 s = tell j s ∧ G1.far = far)) (fun wr => mapLen wr (wm s))
  case atStart => exact ⟨j, _, keep ⟨H.out, Later.refl _ _, HG.out, rfl, rfl⟩⟩
  case round =>
    obtain ⟨j1, G1, HR⟩ := hrel
    have eb : G1.b = b := HR.out.2.1.b
    have es : G1.sb = sb := HR.out.2.1.sb
    have hs1 : s < G1.n := by rw [show G1.n = n from HR.out.2.1.n]; exact HS.out
    cases hm : hasS j1.st s (j1.nx s) with
    | none =>
      have K := release_none HR.out.1 HR.out.2.2.1.wf hs1 hm
      rw [eb, es] at K
      replace K := keep K
      have HT := keep (show tell j1 s = j1 from tell_none hm)
      clear hm hs1 eb es
      go_wp2_with (go_at_call 35; refine K.out.mono ?_; rintro e w2 ⟨rfl, hb2⟩; replace hb2 := keep hb2)

      refine bodyPost_end (results_none rfl _ _ _) rfl ⟨rfl, G1, ?_, HR.out.2.1.trans (Later.below hb2.out), HR.out.2.2.2.2⟩
      rw [← HR.out.2.2.2.1, HT.out]
      exact HR.out.1.step hb2.out
    | some m =>
      have K := release_some HR.out.1 HR.out.2.2.1 hs1 hm
      rw [eb, es] at K
      replace K := keep K
      have HM := keep hm
      have HS1 := keep hs1
      clear hm hs1 eb es
      go_wp2_with (go_at_call 35; refine K.out.mono ?_; rintro e w2 ⟨rfl, G2, hj2, hl2, hf2⟩
                   have eb2 : G2.b = b := hl2.b.trans HR.out.2.1.b
                   have es2 : G2.sb = sb := hl2.sb.trans HR.out.2.1.sb
                   have hs2 : s < G2.n := by rw [hl2.n]; exact HS1.out
                   have s1 := hj2.s1 hs2
                   have sf := hj2.sfz (s * 2 + 1)
                   have J3 := hj2.setNx hs2 (IntKind.u16.wrap (j1.nx s + 1))
                   rw [es2] at s1 sf J3
                   replace J3 := keep J3
                   replace hj2 := keep hj2
                   replace hl2 := keep hl2
                   replace hf2 := keep hf2
                   have eo := keep (show G2.O sb from by rw [← es2]; exact hj2.out.sa.osb)
                   clear es2 eb2 hs2
                   dsimp only [relJ] at s1)
      have hw3 := HR.out.2.2.1.rel HM.out
      have e3 : ({ (relJ j1 s m) with nx := setN (relJ j1 s m).nx s (IntKind.u16.wrap (j1.nx s + 1)) } : Jn) = popJ j1 s m := by
        unfold relJ popJ up1
        rw [wrap_u16]
      have J4 := J3.out.1
      rw [e3] at J4
      refine ⟨⟨popJ j1 s m, G2, keep ⟨J4, ?_, hw3, ?_, hf2.out.trans HR.out.2.2.2.2⟩⟩, ?_⟩
      · exact (HR.out.2.1.trans hl2.out).trans ⟨rfl, rfl, rfl, rfl, rfl, J3.out.2.mono fun i hi => by rw [hi]; exact eo.out, fun i hi => .inl hi, fun i hi => .inl hi⟩
      · rw [← tell_some HR.out.2.2.1.wf HM.out]
        exact HR.out.2.2.2.1
      · have h1 := (HR.out.1.sa.maps s HS1.out).len_is
        have h2 := (J4.sa.maps s (by rw [hl2.out.n]; exact HS1.out)).len_is
        rw [hl2.out.wm] at h2
        rw [show G1.wm = wm from HR.out.2.1.wm] at h1 h2
        rw [h1, h2]
        show stc (delS j1.st s (j1.nx s)) s < _
        have h3 := stc_del HR.out.2.2.1.wf.ks (s : Int) (j1.nx s) s
        have h4 := (HR.out.1.sa.maps s HS1.out).some_pos (n := j1.nx s) (v := ((G1.gs s (j1.nx s)).map fun x => Value.agg x.cells.toArray).getD undef) (by
          have := HR.out.1.sa.msg s HS1.out (j1.nx s)
          rw [HM.out] at this
          rw [wgV_at]
          cases hg : G1.gs s (j1.nx s) with
          | none => rw [hg] at this; cases this
          | some x => rfl)
        rw [HM.out] at h3
        simp only [Option.isSome_some, and_self, if_true] at h3
        omega
end Go.Proofs.Ythpcblbciidmeaa
