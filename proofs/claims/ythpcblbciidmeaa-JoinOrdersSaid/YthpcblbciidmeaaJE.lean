/- Numbers up to one are skipped. -/
import Derived.Test.YthpcblbciidmeaaJD
namespace Go.Proofs.Ythpcblbciidmeaa
open Go.RowKit Go.Maps
set_option linter.unusedVariables false

theorem goN_none : ∀ (d : Nat) (j : Jn) (s : Int), 0 ≤ j.nx s → j.nx s < 65536 → (∀ k, hasS j.st s k = none) → goN d j s = { j with nx := setN j.nx s ((j.nx s + d) % 65536) }
  | 0, j, s, h0, h1, _ => by
    have : (j.nx s + (0 : Nat)) % 65536 = j.nx s := by omega
    rw [this, setN_self]
    rfl
  | d + 1, j, s, h0, h1, hn => by
    have e : goJ j s = { j with nx := setN j.nx s (up1 (j.nx s)) } := by
      unfold goJ
      rw [hn]
    show goN d (goJ j s) s = _
    rw [e, goN_none d { j with nx := setN j.nx s (up1 (j.nx s)) } s (by show 0 ≤ setN j.nx s _ s; rw [setN_at]; exact (up1_in _).1) (by show setN j.nx s _ s < 65536; rw [setN_at]; exact (up1_in _).2) hn]
    show ({ j with nx := setN (setN j.nx s (up1 (j.nx s))) s ((setN j.nx s (up1 (j.nx s)) s + d) % 65536) } : Jn) = _
    rw [setN_twice, setN_at]
    congr 2
    unfold up1
    omega
theorem Good.go {j : Jn} (h : Good j) (s : Int) : Good (goJ j s) := ⟨(go_wf h.wf s).1, h.ne.go s, by rw [(go_wf h.wf s).2.1]; exact h.le⟩
theorem go_nx (j : Jn) (s : Int) : (goJ j s).nx s = up1 (j.nx s) := by
  unfold goJ
  cases hm : hasS j.st s (j.nx s) with
  | none => show setN j.nx s _ s = _; rw [setN_at]
  | some m => show setN j.nx s _ s = _; rw [setN_at]
def nxOf (w : World) (sb c : Nat) : Int := match w.cell? ⟨sb, c, none⟩ with | some (.int _ x) => x | _ => 0
theorem less16_lt (a b : Int) : less16 a b = lt16 a b := by
  unfold less16 lessI dist lt16
  exact decide_eq_decide.2 (by omega)
/-- How far it is. -/
def farN (ssn x : Int) : Nat := ((ssn + 1 - x) % 65536).toNat
theorem stc_zero {l : List (Int × Msg)} {s : Int} (h : stc l s = 0) (k : Int) : hasS l s k = none := by
  cases hm : hasS l s k with
  | none => rfl
  | some m =>
    obtain ⟨h1, h2⟩ := hasS_some hm
    have : (k, m) ∈ l.filter fun p => decide (p.2.st = s) := List.mem_filter.2 ⟨h1, decide_eq_true h2⟩
    rw [List.eq_nil_of_length_eq_zero h] at this
    cases this
theorem Good.goN : ∀ (d : Nat) (j : Jn) (s : Int), Good j → Good (goN d j s)
  | 0, _, _, h => h
  | d + 1, j, s, h => Good.goN d _ s (h.go s)
theorem nxOf_is {w : World} {G : Gh} {j : Jn} {o : Int} (h : JA w G j o) {s : Nat} (hs : s < G.n) : nxOf w G.sb (s * 2 + 1) = j.nx s := by
  unfold nxOf
  rw [h.s1 hs]
theorem skip_less {w : World} {G : Gh} {j : Jn} {o : Int} (h : JA w G j o) {s : Nat} (hs : s < G.n) {ssn : Int} (hl : lt16 ssn (j.nx s) = true) :
    Calls Try.prog 25 #[.pointer (some ⟨G.b, 0, none⟩), .pointer (some ⟨G.sb, s * 2, none⟩), .int .u16 ssn] w fun e w' => e = .returned (.tuple #[]) ∧ w = w' := by
  have s1 := h.s1 hs
  have K := Less16_any ssn (j.nx s)
  rw [less16_lt, hl] at K
  replace K := keep K
  clear h hs hl
  obtain ⟨b, k, sb, n, v, pb, pc, far, wm, gs, rs, O, F⟩ := G
  dsimp only at *
  generalize j.nx s = nx at *
  go_enter Try.func25, Try.ntmps25
  go_wp2_with (go_at_call 31; refine (K.out _).mono ?_; rintro e w' ⟨rfl, rfl⟩)
  exact bodyPost_ret (results_none rfl _ _ _) rfl ⟨rfl, rfl⟩
set_option maxRecDepth 1000000 in
set_option maxHeartbeats 4000000 in
theorem skip_more {w : World} {G : Gh} {j : Jn} {o : Int} (h : JA w G j o) (hw : Good j) {s : Nat} (hs : s < G.n) {ssn : Int} (h0 : 0 ≤ ssn) (h1 : ssn < 65536) (hl : lt16 ssn (j.nx s) = false) :
    Calls Try.prog 25 #[.pointer (some ⟨G.b, 0, none⟩), .pointer (some ⟨G.sb, s * 2, none⟩), .int .u16 ssn] w fun e w' => e = .returned (.tuple #[]) ∧ ∃ G', JA w' G' (tell (goN (((ssn - j.nx s) % 65536).toNat + 1) j s) s) o ∧ Later w G w' G' ∧ G'.far = G.far := by
  have s1 := h.s1 hs
  have K := Less16_any ssn (j.nx s)
  rw [less16_lt, hl] at K
  replace K := keep K
  have hD : goN (farN ssn (j.nx s)) j s = goN (((ssn - j.nx s) % 65536).toNat + 1) j s := by
    have := hw.wf.nx s
    have e : farN ssn (j.nx s) = ((ssn - j.nx s) % 65536).toNat + 1 := by
      unfold farN
      unfold lt16 at hl
      have hl := of_decide_eq_false hl
      omega
    rw [e]
  rw [← hD]
  have HSS := keep (And.intro h0 h1)
  have H := keep h
  have HG := keep hw
  have HS := keep hs
  clear h hw hs hl hD h0 h1
  obtain ⟨b, k, sb, n, v, pb, pc, far, wm, gs, rs, O, F⟩ := G
  dsimp only at *
  obtain ⟨ss1, hss1⟩ : ∃ x, IntKind.u16.wrap (ssn + 1) = x := ⟨_, rfl⟩
  have HSS1 := keep hss1
  go_enter Try.func25, Try.ntmps25
  go_wp2_with (go_at_call 31; refine (K.out _).mono ?_; rintro e w' ⟨rfl, rfl⟩)
  go_loopw [] (fun wr => ∃ (j1 : Jn) (G1 : Gh), Hid (JA wr G1 j1 o ∧ Later w ⟨b, k, sb, n, v, pb, pc, far, wm, gs, rs, O, F⟩ wr G1 ∧ Good j1 ∧ goN (farN ssn (j1.nx s)) j1 s = goN (farN ssn (j.nx s)) j s ∧ G1.far = far)) (fun wr => farN ssn (nxOf wr sb (s * 2 + 1)))
  case atStart => exact ⟨j, _, keep ⟨H.out, Later.refl _ _, HG.out, rfl, rfl⟩⟩
  case round =>
    clear s1
    obtain ⟨j1, G1, HR⟩ := hrel
    have eb : G1.b = b := HR.out.2.1.b
    have es : G1.sb = sb := HR.out.2.1.sb
    have ew : G1.wm = wm := HR.out.2.1.wm
    have hs1 : s < G1.n := by rw [show G1.n = n from HR.out.2.1.n]; exact HS.out
    have t0 := HR.out.1.s0 hs1
    have t1 := HR.out.1.s1 hs1
    have HMP := HR.out.1.sa.maps s hs1
    rw [es] at t0 t1
    rw [ew] at t0 HMP
    have HL := HMP.len (t := 64) Try.underlying64 3
    have hn1 := HR.out.2.2.1.wf.nx s
    by_cases hx : stc j1.st s = 0 ∨ j1.nx s = ss1
    · have e2 : ({ j1 with nx := setN j1.nx s ss1 } : Jn) = goN (farN ssn (j1.nx s)) j1 s := by
        have e0 : ss1 = (ssn + 1) % 65536 := by rw [← HSS1.out, wrap_u16]
        rcases hx with hx | hx
        · rw [goN_none _ j1 s hn1.1 hn1.2 (stc_zero hx)]
          have : (j1.nx s + (farN ssn (j1.nx s) : Nat)) % 65536 = ss1 := by
            rw [e0]
            unfold farN
            omega
          rw [this]
        · have : farN ssn (j1.nx s) = 0 := by
            unfold farN
            omega
          rw [this, ← hx, setN_self]
          rfl
      have J3 := HR.out.1.setNx hs1 ss1
      rw [e2, es] at J3
      have K3 := tell_any J3.1 (Good.goN _ _ s HR.out.2.2.1) hs1
      rw [eb, es, HR.out.2.2.2.1] at K3
      have P3 := keep J3.2
      have eo := keep (show G1.O sb from by rw [← es]; exact HR.out.1.sa.osb)
      replace K3 := keep K3
      have tf := HR.out.1.sfz (s * 2 + 1)
      rw [es] at tf
      clear J3 e2 hn1 eb es ew hs1 HMP
      have hcc : stc j1.st s = 0 ∨ (0 < stc j1.st s ∧ j1.nx s = ss1) := by
        rcases Nat.eq_zero_or_pos (stc j1.st s) with h0 | h0
        · exact .inl h0
        · rcases hx with hx | hx
          · omega
          · exact .inr ⟨h0, hx⟩
      clear hx
      rcases hcc with hx | ⟨hc, hx⟩
      · rw [hx] at HL
        have HL' : (Builtin.len_ #[64] 3 #[Value.map (some (wm s))]).run Try.prog wr = .ok (.int .i64 0) wr := HL
        clear HL hx
        go_wp2_with (go_at_call 32; refine K3.out.mono ?_; rintro e w2 ⟨rfl, G2, hj2, hl2, hf2⟩; replace hj2 := keep hj2; replace hl2 := keep hl2; replace hf2 := keep hf2)
        exact bodyPost_end (results_none rfl _ _ _) rfl ⟨rfl, G2, hj2.out, (HR.out.2.1.trans ⟨rfl, rfl, rfl, rfl, rfl, P3.out.mono fun i hi => by rw [hi]; exact eo.out, fun i hi => .inl hi, fun i hi => .inl hi⟩).trans hl2.out, hf2.out.trans HR.out.2.2.2.2⟩
      · rw [hx] at t1
        have hc' : (0 : Int) < ((stc j1.st s : Nat) : Int) := by omega
        clear hx hc
        generalize stc j1.st s = c at HL hc'
        go_wp2_with (go_at_call 32; refine K3.out.mono ?_; rintro e w2 ⟨rfl, G2, hj2, hl2, hf2⟩; replace hj2 := keep hj2; replace hl2 := keep hl2; replace hf2 := keep hf2)
        exact bodyPost_end (results_none rfl _ _ _) rfl ⟨rfl, G2, hj2.out, (HR.out.2.1.trans ⟨rfl, rfl, rfl, rfl, rfl, P3.out.mono fun i hi => by rw [hi]; exact eo.out, fun i hi => .inl hi, fun i hi => .inl hi⟩).trans hl2.out, hf2.out.trans HR.out.2.2.2.2⟩
    · have hc' : (0 : Int) < ((stc j1.st s : Nat) : Int) := by omega
      have hne : ¬ j1.nx s = ss1 := fun e => hx (.inr e)
      have hne' : (j1.nx s != ss1) = true := by simpa using hne
      have HN1 := keep hn1
      have HNE := keep hne
      have HS1 := keep hs1
      have hfar : Hid (farN ssn (j1.nx s) = farN ssn (up1 (j1.nx s)) + 1) := by
        have e0 : ss1 = (ssn + 1) % 65536 := by rw [← HSS1.out, wrap_u16]
        refine keep ?_
        unfold farN up1
        omega
      have hgo : Hid (goN (farN ssn (up1 (j1.nx s))) (goJ j1 s) s = goN (farN ssn (j.nx s)) j s) := by
        refine keep ?_
        rw [← HR.out.2.2.2.1, hfar.out]
        rfl
      have hmeas : Hid (nxOf wr sb (s * 2 + 1) = j1.nx s) := by
        have := nxOf_is HR.out.1 hs1
        rw [es] at this
        exact keep this
      cases hm : hasS j1.st s (j1.nx s) with
      | none =>
        have K3 := release_none HR.out.1 HR.out.2.2.1.wf hs1 hm
        rw [eb, es] at K3
        replace K3 := keep K3
        have e3 : Hid (({ j1 with nx := setN j1.nx s (IntKind.u16.wrap (j1.nx s + 1)) } : Jn) = goJ j1 s) := by
          refine keep ?_
          unfold goJ up1
          rw [hm, wrap_u16]
        clear hx hn1 hm hs1 eb ew HMP hne
        have hes := keep es
        clear es
        generalize stc j1.st s = c at HL hc'
        go_wp2_with (go_at_call 35; refine K3.out.mono ?_; rintro e w2 ⟨rfl, hb2⟩
                     have hj2 := HR.out.1.step hb2
                     have s1 := hj2.s1 HS1.out
                     have sf := hj2.sfz (s * 2 + 1)
                     have J3 := hj2.setNx HS1.out (IntKind.u16.wrap (j1.nx s + 1))
                     rw [hes.out] at s1 sf J3
                     replace J3 := keep J3
                     replace hb2 := keep hb2
                     have eo := keep (show G1.O sb from by rw [← hes.out]; exact HR.out.1.sa.osb)
                     clear hj2 t0 t1 HL)
        have J4 := J3.out.1
        rw [e3.out] at J4
        refine ⟨⟨goJ j1 s, G1, keep ⟨J4, ?_, HR.out.2.2.1.go s, ?_, HR.out.2.2.2.2⟩⟩, ?_⟩
        · exact (HR.out.2.1.trans (Later.below hb2.out)).trans ⟨rfl, rfl, rfl, rfl, rfl, J3.out.2.mono fun i hi => by rw [hi]; exact eo.out, fun i hi => .inl hi, fun i hi => .inl hi⟩
        · rw [go_nx]
          exact hgo.out
        · have h2 := nxOf_is J4 HS1.out
          rw [hes.out, go_nx] at h2
          rw [h2, hmeas.out, hfar.out]
          exact Nat.lt_succ_self _
      | some m =>
        have K3 := release_some HR.out.1 HR.out.2.2.1 hs1 hm
        rw [eb, es] at K3
        replace K3 := keep K3
        have e3 : Hid (({ (relJ j1 s m) with nx := setN (relJ j1 s m).nx s (IntKind.u16.wrap (j1.nx s + 1)) } : Jn) = goJ j1 s) := by
          refine keep ?_
          unfold goJ
          rw [hm]
          unfold relJ popJ up1
          rw [wrap_u16]
        clear hx hn1 hm hs1 eb ew HMP hne
        have hes := keep es
        clear es
        generalize stc j1.st s = c at HL hc'
        go_wp2_with (go_at_call 35; refine K3.out.mono ?_; rintro e w2 ⟨rfl, G2, hj2, hl2, hf2⟩
                     have es2 : G2.sb = sb := hl2.sb.trans hes.out
                     have hs2 : s < G2.n := by rw [hl2.n]; exact HS1.out
                     have s1 := hj2.s1 hs2
                     have sf := hj2.sfz (s * 2 + 1)
                     have J3 := hj2.setNx hs2 (IntKind.u16.wrap (j1.nx s + 1))
                     rw [es2] at s1 sf J3
                     have eo := keep (show G2.O sb from by rw [← es2]; exact hj2.sa.osb)
                     replace J3 := keep J3
                     replace hl2 := keep hl2
                     replace hf2 := keep hf2
                     replace es2 := keep es2
                     clear hj2 t0 t1 HL hs2
                     dsimp only [relJ] at s1)
        have J4 := J3.out.1
        rw [e3.out] at J4
        refine ⟨⟨goJ j1 s, G2, keep ⟨J4, ?_, HR.out.2.2.1.go s, ?_, hf2.out.trans HR.out.2.2.2.2⟩⟩, ?_⟩
        · exact (HR.out.2.1.trans hl2.out).trans ⟨rfl, rfl, rfl, rfl, rfl, J3.out.2.mono fun i hi => by rw [hi]; exact eo.out, fun i hi => .inl hi, fun i hi => .inl hi⟩
        · rw [go_nx]
          exact hgo.out
        · have h2 := nxOf_is J4 (by rw [hl2.out.n]; exact HS1.out)
          rw [es2.out, go_nx] at h2
          rw [h2, hmeas.out, hfar.out]
          exact Nat.lt_succ_self _
end Go.Proofs.Ythpcblbciidmeaa
