/- The ends of the run that a number is in are found, and noted. -/
import Derived.Test.YthpcblbciidmeaaJR
namespace Go.Proofs.Ythpcblbciidmeaa
open Go.RowKit Go.Maps
set_option linter.unusedVariables false

theorem tog_back {l s : List Ch} (hs : Mx l s) (hk : KeysC l) (hn : NumC l) {i : Nat} {x : Ch} (hx : s[i]? = some x) :
    (i = 0 → tog l ((x.a - 1) % 4294967296) = false) ∧ ∀ k, i = k + 1 → tog l ((x.a - 1) % 4294967296) = true ∧ ∃ y, s[k]? = some y ∧ y.a = (x.a - 1) % 4294967296 := by
  have hxl := hs.mem x (List.mem_of_getElem? hx)
  have hxn := hn x hxl
  constructor
  · rintro rfl
    cases ht : tog l ((x.a - 1) % 4294967296) with
    | false => rfl
    | true =>
      obtain ⟨u, hu, e, y, hy, hf⟩ := tog_iff.1 ht
      have : y = x := hk.one hy hxl (by rw [hf.a, e]; omega)
      subst this
      exact absurd hf (hs.hd y hx u hu)
  · rintro k rfl
    have hkl : k < s.length := by have := (List.getElem?_eq_some_iff.1 hx).1; omega
    have hf := hs.fol (List.getElem?_eq_getElem hkl) hx
    have hyl := hs.mem _ (List.getElem_mem hkl)
    have hyn := hn _ hyl
    have e : (s[k]).a = (x.a - 1) % 4294967296 := by rw [hf.a]; omega
    exact ⟨tog_iff.2 ⟨_, hyl, e, x, hxl, hf⟩, _, List.getElem?_eq_getElem hkl, e⟩
theorem tog_fwd {l s : List Ch} (hs : Mx l s) (hk : KeysC l) {i : Nat} {x : Ch} (hx : s[i]? = some x) :
    (s.length ≤ i + 1 → tog l x.a = false) ∧ (i + 1 < s.length → tog l x.a = true ∧ ∃ y, s[i + 1]? = some y ∧ y.a = (x.a + 1) % 4294967296) := by
  have hxl := hs.mem x (List.mem_of_getElem? hx)
  have hil := (List.getElem?_eq_some_iff.1 hx).1
  constructor
  · intro hle
    cases ht : tog l x.a with
    | false => rfl
    | true =>
      obtain ⟨u, hu, e, y, hy, hf⟩ := tog_iff.1 ht
      have : u = x := hk.one hu hxl e
      subst this
      exact absurd hf (hs.tl u (by rw [List.getLast?_eq_getElem?, show s.length - 1 = i by omega, hx]) y hy)
  · intro hlt
    have hf := hs.fol hx (List.getElem?_eq_getElem hlt)
    exact ⟨tog_iff.2 ⟨x, hxl, rfl, _, hs.mem _ (List.getElem_mem hlt), hf⟩, _, List.getElem?_eq_getElem hlt, hf.a⟩
set_option maxRecDepth 1000000 in
set_option maxHeartbeats 4000000 in
theorem mend_none {w : World} {G : Gh} {j : Jn} {o : Int} (h : JA w G j o) {n : Int} (n0 : 0 ≤ n) (n1 : n < 4294967296) (hno : G.pb n = none) :
    Calls Try.prog 34 #[.pointer (some ⟨G.b, 0, none⟩), .int .u32 n] w fun e w' => e = .returned (.tuple #[]) ∧ Below w.heap.size w w' := by
  have HR := rel_map h
  have c0 := (HR w rfl rfl).1
  have L1 := fun W h1 h2 => (HR W h1 h2).2 n n0 n1
  rw [pgV_none hno] at L1
  dsimp only [Option.getD] at L1
  have HS := keep fun W h1 h2 => And.intro (HR W h1 h2).1 (L1 W h1 h2)
  have LX := L1 w rfl rfl
  clear h HR L1 hno n0 n1
  obtain ⟨b, k, sb, N, v, pb, pc, far, wm, gs, rs, O, F⟩ := G
  dsimp only at *
  go_enter Try.func34, Try.ntmps34
  go_wp2
  exact bodyPost_ret (results_none rfl _ _ _) rfl ⟨rfl, Below.refl _ _⟩
set_option maxRecDepth 1000000 in
set_option maxHeartbeats 4000000 in
theorem mend_some {w : World} {G : Gh} {j : Jn} {o : Int} (h : JA w G j o) (hk : KeysC j.ch) (hn : NumC j.ch) (hl : j.ch.length < 4294967296) {n : Int} (n0 : 0 ≤ n) (n1 : n < 4294967296) {p : Nat} (hp : G.pb n = some p) {s : List Ch} (hs : Mx j.ch s) {i0 : Nat} {x : Ch} (hx : s[i0]? = some x) (hxa : x.a = n) {a z : Ch} (ha : s[0]? = some a) (hz : s.getLast? = some z) :
    Calls Try.prog 34 #[.pointer (some ⟨G.b, 0, none⟩), .int .u32 n] w fun e w' => e = .returned (.tuple #[]) ∧ JA w' { G with far := setF G.far a.a z.a } j o ∧ Part G.O w w' := by
  have HR := rel_map h
  have c0 := (HR w rfl rfl).1
  have L1 := fun W h1 h2 => (HR W h1 h2).2 n n0 n1
  rw [pgV_some hp] at L1
  dsimp only [Option.getD] at L1
  have LX := L1 w rfl rfl
  have HH := keep h
  have HK := keep (And.intro hk hn)
  have HS := keep hs
  have HX := keep (And.intro hx hxa)
  have HA := keep (And.intro ha hz)
  have HB := keep h.olt
  have HP := keep hp
  obtain ⟨_, hls, hlj, hnum⟩ := hs.dist hk hn hl ha hz
  have HD := keep hnum
  have HL := keep (show s.length < 4294967296 ∧ 1 ≤ s.length ∧ 0 ≤ a.a ∧ a.a < 4294967296 from ⟨by omega, hls, hn a (hs.mem a (List.mem_of_getElem? ha))⟩)
  clear h HR L1 hk hn hl hs hx hxa ha hz hls hlj hnum
  obtain ⟨b, k, sb, N, v, pb, pc, far, wm, gs, rs, O, F⟩ := G
  dsimp only at *
  go_enter Try.func34, Try.ntmps34
  go_wp2
  go_loopw [4] (fun fv wr => ∃ (i : Nat) (y : Ch), fv = .int .u32 y.a ∧ Hid (s[i]? = some y ∧ Below w.heap.size w wr)) (fun fv wr => ((intOf fv - a.a) % 4294967296).toNat)
  case atStart => exact ⟨i0, x, by rw [HX.out.2], keep ⟨HX.out.1, Below.refl _ _⟩⟩
  case round =>
    clear c0 LX
    obtain ⟨i, y, rfl, HR⟩ := hrel
    have hyr := HK.out.2 y (HS.out.mem y (List.mem_of_getElem? HR.out.1))
    obtain ⟨m, hm⟩ : ∃ q, IntKind.u32.wrap (y.a - 1) = q := ⟨_, rfl⟩
    have hme : m = (y.a - 1) % 4294967296 := by rw [← hm, wrap_u32]
    have KT := together_any (HH.out.step HR.out.2) HK.out.1 (n := m) (by omega) (by omega)
    have TB := tog_back HS.out HK.out.1 HK.out.2 HR.out.1
    rw [← hme] at TB
    cases i with
    | zero =>
      rw [TB.1 rfl] at KT
      replace KT := keep KT
      have HY := keep (show y = a from by
        have := HR.out.1
        rw [HA.out.1] at this
        injection this with this
        exact this.symm)
      clear TB hme hyr
      go_wp2_with (go_at_call 27; refine KT.out.mono ?_; rintro e w2 ⟨rfl, hb2⟩; have B2 := keep (up HR.out.2 hb2); clear hb2)
      go_loopw [5] (fun lv wr => ∃ (i : Nat) (q : Ch), lv = .int .u32 q.a ∧ Hid (s[i]? = some q ∧ Below w.heap.size w wr)) (fun lv wr => ((z.a - intOf lv) % 4294967296).toNat)
      case atStart => exact ⟨i0, x, by rw [HX.out.2], keep ⟨HX.out.1, B2.out⟩⟩
      case round =>
        obtain ⟨i, q, rfl, HQ⟩ := hrel
        have hqr := HK.out.2 q (HS.out.mem q (List.mem_of_getElem? HQ.out.1))
        obtain ⟨m2, hm2⟩ : ∃ v, IntKind.u32.wrap (q.a + 1) = v := ⟨_, rfl⟩
        have hme2 : m2 = (q.a + 1) % 4294967296 := by rw [← hm2, wrap_u32]
        have KT2 := together_any (HH.out.step HQ.out.2) HK.out.1 (n := q.a) (by omega) (by omega)
        have TF := tog_fwd HS.out HK.out.1 HQ.out.1
        rw [← hme2] at TF
        rcases Nat.lt_or_ge (i + 1) s.length with hlt | hge
        · obtain ⟨ht, u, hu, eu⟩ := TF.2 hlt
          rw [ht] at KT2
          replace KT2 := keep KT2
          have HU := keep (And.intro hu eu)
          have HM := keep (show ((z.a - m2) % 4294967296).toNat < ((z.a - q.a) % 4294967296).toNat from by
            have hd := HD.out i q HQ.out.1
            have hd' := HD.out (i + 1) u hu
            have hl := HL.out
            have hz' := HD.out (s.length - 1) z (by rw [← List.getLast?_eq_getElem?]; exact HA.out.2)
            rw [← eu]
            omega)
          clear TF hme2 hqr ht hu eu hlt
          go_wp2_with (go_at_call 27; refine KT2.out.mono ?_; rintro e w3 ⟨rfl, hb3⟩; have B3 := keep (up HQ.out.2 hb3); clear hb3)
          go_roundw
          case rel => exact ⟨i + 1, u, by rw [HU.out.2], keep ⟨HU.out.1, B3.out⟩⟩
          case measure => exact HM.out
        · rw [TF.1 hge] at KT2
          replace KT2 := keep KT2
          have hqz : q = z := by
            have h1 := HA.out.2
            have h2 := (List.getElem?_eq_some_iff.1 HQ.out.1).1
            rw [List.getLast?_eq_getElem?, show s.length - 1 = i by omega, HQ.out.1] at h1
            injection h1
          have haM := HS.out.mem a (List.mem_of_getElem? HA.out.1)
          have hzM := HS.out.mem z (List.mem_of_getLast? HA.out.2)
          have HM := keep (And.intro haM (And.intro hzM (And.intro hqz HY.out)))
          clear TF hme2 hqr hge hqz haM hzM
          have KB9 := keep fun W (hb : Below w.heap.size w W) => show Calls Try.prog 28 #[.pointer (some ⟨b, 0, none⟩), .int .u32 y.a, .int .u32 q.a] W fun e w' => e = .returned (.tuple #[]) ∧ JA w' { (⟨b, k, sb, N, v, pb, pc, far, wm, gs, rs, O, F⟩ : Gh) with far := setF far a.a z.a } j o ∧ Part O W w' from by
            obtain ⟨pa, hpa, _⟩ := HH.out.pa.has a HM.out.1
            obtain ⟨pz, hpz, _⟩ := HH.out.pa.has z HM.out.2.1
            rw [HM.out.2.2.1, HM.out.2.2.2]
            exact bind_any (HH.out.step hb) (HK.out.2 a HM.out.1) (HK.out.2 z HM.out.2.1) hpa hpz
          go_wp2_with (first
            | (go_at_call 27; refine KT2.out.mono ?_; rintro e w3 ⟨rfl, hb3⟩; have B3 := keep (up HQ.out.2 hb3); clear hb3)
            | (go_at_call 28; refine (KB9.out _ B3.out).mono ?_; rintro e w4 ⟨rfl, hj4, hp4⟩; replace hj4 := keep hj4; replace hp4 := keep hp4))
          exact bodyPost_end (results_none rfl _ _ _) rfl ⟨rfl, hj4.out, (Part.of_below O B3.out).trans hp4.out fun i hi => .inl hi⟩
    | succ k9 =>
      obtain ⟨ht, u, hu, eu⟩ := TB.2 k9 rfl
      rw [ht] at KT
      replace KT := keep KT
      have HU := keep (And.intro hu (And.intro eu hme))
      have HM := keep (show ((m - a.a) % 4294967296).toNat < ((y.a - a.a) % 4294967296).toNat from by
        have hd := HD.out (k9 + 1) y HR.out.1
        have hd' := HD.out k9 u hu
        have hl := HL.out
        have hlt := (List.getElem?_eq_some_iff.1 HR.out.1).1
        rw [← eu]
        omega)
      clear TB hme hyr ht hu eu
      go_wp2_with (go_at_call 27; refine KT.out.mono ?_; rintro e w2 ⟨rfl, hb2⟩; have B2 := keep (up HR.out.2 hb2); clear hb2)
      go_roundw
      case rel => exact ⟨k9, u, by rw [HU.out.2.1], keep ⟨HU.out.1, B2.out⟩⟩
      case measure => exact HM.out
/-- What is mended. -/
def MendP (w : World) (G : Gh) (j : Jn) (o n : Int) (w' : World) : Prop := ∃ far', JA w' { G with far := far' } j o ∧ Part G.O w w' ∧ (∀ t, Mx j.ch t → OKf G.far t → OKf far' t) ∧ ∀ t, Mx j.ch t → (∃ x ∈ t, x.a = n) → OKf far' t
theorem mend_any {w : World} {G : Gh} {j : Jn} {o : Int} (h : JA w G j o) (hk : KeysC j.ch) (hn : NumC j.ch) (hl : j.ch.length < 4294967296) {n : Int} (n0 : 0 ≤ n) (n1 : n < 4294967296) :
    Calls Try.prog 34 #[.pointer (some ⟨G.b, 0, none⟩), .int .u32 n] w fun e w' => e = .returned (.tuple #[]) ∧ MendP w G j o n w' := by
  cases hp : G.pb n with
  | none =>
    refine (mend_none h n0 n1 hp).mono ?_
    rintro e w' ⟨rfl, hb⟩
    refine ⟨rfl, G.far, h.step hb, Part.of_below _ hb, fun t _ ho => ho, fun t ht ⟨x, hx, e⟩ => ?_⟩
    obtain ⟨p, hp', _⟩ := h.pa.has x (ht.mem x hx)
    rw [e, hp] at hp'
    cases hp'
  | some p =>
    obtain ⟨_, _, hxl, hxa⟩ := h.pa.op n p hp
    obtain ⟨s, hs, hxs⟩ := mx_ex hk hn hl hxl
    obtain ⟨i0, hx⟩ := List.mem_iff_getElem?.1 hxs
    obtain ⟨a, z, ha, hz, _, _⟩ := hs.ends
    refine (mend_some h hk hn hl n0 n1 hp hs hx hxa ha hz).mono ?_
    rintro e w' ⟨rfl, hj, hpt⟩
    refine ⟨rfl, _, hj, hpt, fun t ht ho => bind_ok hs ht hk hn ha hz (.inl ho), fun t ht ⟨y, hy, e⟩ => bind_ok hs ht hk hn ha hz (.inr ?_)⟩
    have hyc : y = (G.pc n).ch := hk.one (ht.mem y hy) hxl (by rw [e]; exact hxa.symm)
    rw [hyc] at hy
    exact ht.one hs hk hn hy hxs
end Go.Proofs.Ythpcblbciidmeaa
