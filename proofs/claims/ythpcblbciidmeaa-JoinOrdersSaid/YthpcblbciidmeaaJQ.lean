/- A message that is whole comes; a chunk is added. -/
import Derived.Test.YthpcblbciidmeaaJP
import Derived.Test.YthpcblbciidmeaaJM
namespace Go.Proofs.Ythpcblbciidmeaa
open Go.RowKit Go.Maps
set_option linter.unusedVariables false

theorem place_any {w : World} {G : Gh} {j : Jn} {x : MX} (h : JA w G j ((j.oct : Int) + x.bs.length)) (hg : Good j) (hx : MV w x ∧ InF G.F x.da.1) (hs0 : 0 ≤ x.st ∧ x.st < j.n) {k : Int} (hk0 : 0 ≤ k) (hk1 : k < 65536) (hne : x.bs ≠ []) (ho : j.oct + x.bs.length ≤ 65536) :
    Calls Try.prog 22 #[.pointer (some ⟨G.b, 0, none⟩), .agg x.cells.toArray, .int .u16 k] w fun e w' => e = .returned (.tuple #[]) ∧ ∃ G', JA w' G' (comes j x.msg k) (((comes j x.msg k).oct : Nat) : Int) ∧ Later w G w' G' ∧ G'.far = G.far := by
  have hn := h.n
  have hn64 : G.n ≤ 64 := by have := hg.wf.n1; omega
  have hs : x.st.toNat < G.n := by omega
  have hst : x.st = (x.st.toNat : Nat) := by omega
  have hda : x.msg.da.length = x.bs.length := rfl
  by_cases hu : x.un = true
  · have e : (((comes j x.msg k).oct : Nat) : Int) = (j.oct : Int) + x.bs.length := by
      unfold comes
      rw [if_pos (show x.msg.un = true from hu)]
      show ((octC j.ch + octS j.st + octM (j.rd ++ [x.msg]) : Nat) : Int) = _
      rw [octM_app, hda]
      unfold Jn.oct
      omega
    rw [e]
    exact place_un h hg hn64 hx hs hst hu hk0 hk1
  · have hu : x.un = false := by simpa using hu
    by_cases hd : lt16 k (j.nx x.st.toNat) = true ∨ (hasS j.st x.st.toNat k).isSome = true
    · have e : comes j x.msg k = j := by
        unfold comes
        rw [if_neg (show ¬ x.msg.un = true by rw [show x.msg.un = false from hu]; decide), show x.msg.st = (x.st.toNat : Int) from hst, if_pos hd]
      rw [e]
      refine (place_drop h hn64 hx.1 hs hst hu hk0 hk1 hd (by omega)).mono ?_
      rintro e' w' ⟨rfl, h1, h2⟩
      exact ⟨rfl, G, by rw [show (j.oct : Int) + x.bs.length - x.bs.length = j.oct by omega] at h1; exact h1, h2, rfl⟩
    · have hl : lt16 k (j.nx x.st.toNat) = false := by
        cases hc : lt16 k (j.nx x.st.toNat)
        · rfl
        · exact absurd (.inl hc) hd
      have hno : hasS j.st x.st.toNat k = none := hasS_isNone fun hc => hd (.inr hc)
      have e : (((comes j x.msg k).oct : Nat) : Int) = (j.oct : Int) + x.bs.length := by
        unfold comes
        rw [if_neg (show ¬ x.msg.un = true by rw [show x.msg.un = false from hu]; decide), show x.msg.st = (x.st.toNat : Int) from hst, if_neg hd]
        have hgp : Good { j with st := (k, x.msg) :: j.st } := hg.push (by rw [show x.msg.st = (x.st.toNat : Int) from hst, h.n]; omega) ⟨hk0, hk1⟩ hu (by rw [show x.msg.st = (x.st.toNat : Int) from hst]; exact hno) hne ho
        rw [(tell_wf hgp.wf _).2.1, push_oct, hda]
        omega
      rw [e]
      exact place_wait h hg hn64 hx hs hst hu hk0 hk1 hl hno hne ho
theorem chain_same : ∀ (i : Nat) (s : List Ch) (x y : Ch), chain s = true → s[0]? = some x → s[i]? = some y → y.si = x.si ∧ y.ou = x.ou
  | 0, s, x, y, _, hx, hy => by
    rw [hx] at hy
    injection hy with hy
    subst hy
    exact ⟨rfl, rfl⟩
  | i + 1, s, x, y, hc, hx, hy => by
    have hi : i < s.length := by have := (List.getElem?_eq_some_iff.1 hy).1; omega
    have h1 := chain_same i s x _ hc hx (List.getElem?_eq_getElem hi)
    have h2 := fol_iff.1 (chain_get s i _ y hc (List.getElem?_eq_getElem hi) hy)
    exact ⟨h2.si.symm.trans h1.1, h2.ou.symm.trans h1.2⟩
def AddP (w : World) (G : Gh) (j : Jn) (x : CX) (e : Ending) (w' : World) : Prop :=
  ∃ (r : Int) (j' : Jn) (G' : Gh), e = .returned (.int .i64 r) ∧ AddR j x.c0 r j' ∧ JA w' G' j' (j'.oct : Int) ∧ Ends j'.ch G'.far ∧ Later w G w' G'
theorem Add_nil (x : CX) (w : World) : Calls Try.prog 10 #[.pointer none, .agg x.cells.toArray] w fun e w' => e = .returned (.int .i64 1) ∧ Below w.heap.size w w' := by
  have L0 := keep (below_lay w (.cells x.cells.toArray 34))
  have KR := keep fun w => refusal_nil x w
  obtain ⟨xk, xf, xa, xb, xo, xs, xp, ⟨x1, x2, x3⟩, ⟨x4, x5, x6⟩, ⟨x7, x8, x9⟩, ⟨x10, x11, x12⟩, ⟨x13, x14, x15⟩, xps, xbs⟩ := x
  dsimp only [CX.cells] at *
  go_enter Try.func10, Try.ntmps10
  go_wp2_with (go_at_call 19; refine (KR.out _).mono ?_; rintro e w2 ⟨rfl, hb2⟩; replace hb2 := keep hb2)
  go_ret
  exact ⟨rfl, up L0.out hb2.out⟩
set_option maxRecDepth 1000000 in
set_option maxHeartbeats 4000000 in
theorem Add_err {w : World} {G : Gh} {j : Jn} (h : JA w G j (j.oct : Int)) (hg : Good j) (hE : Ends j.ch G.far) {x : CX} (hx : CV w x) (he : addE j x.ch ≠ 0) :
    Calls Try.prog 10 #[.pointer (some ⟨G.b, 0, none⟩), .agg x.cells.toArray] w (AddP w G j x) := by
  have L0 := keep (below_lay w (.cells x.cells.toArray 34))
  have HJ := keep (And.intro h hE)
  have KR := keep (refusal_any (h.step (below_lay w (.cells x.cells.toArray 34))) hg (hx.step (below_lay w (.cells x.cells.toArray 34))))
  obtain ⟨r, hr⟩ : ∃ r, addE j x.ch = r := ⟨_, rfl⟩
  have HR := keep (show r = addE j x.c0 ∧ r ≠ 0 from ⟨hr.symm, by rw [← hr]; exact he⟩)
  rw [hr] at KR he
  have hrz : (r != 0) = true := by simpa using he
  clear h hg hE hx hr he
  obtain ⟨b, kk, sb, n, v, pb, pc, far, wm, gs, rs, O, F⟩ := G
  obtain ⟨xk, xf, xa, xb, xo, xs, xp, ⟨x1, x2, x3⟩, ⟨x4, x5, x6⟩, ⟨x7, x8, x9⟩, ⟨x10, x11, x12⟩, ⟨x13, x14, x15⟩, xps, xbs⟩ := x
  dsimp only [CX.cells] at *
  go_enter Try.func10, Try.ntmps10
  go_wp2_with (go_at_call 19; refine KR.out.mono ?_; rintro e w2 ⟨rfl, hb2⟩; replace hb2 := keep hb2)
  go_ret
  have L2 := up L0.out hb2.out
  exact ⟨r, j, _, rfl, ⟨HR.out.1, fun _ => rfl, fun h0 => absurd h0 HR.out.2⟩, HJ.out.1.step L2, HJ.out.2, Later.below L2⟩
end Go.Proofs.Ythpcblbciidmeaa
