/- Package topic: Subscribe, Drop. -/
import Derived.Test.YtnbicbnighpkjaaYD
namespace Go.Proofs.Ytnbicbnighpkjaa
open Go.RowKit Go.Maps
set_option linter.unusedVariables false
set_option linter.unusedSimpArgs false

theorem txt_ne {s : ByteArray} (h : 0 < s.size) : (s.toList == []) = false ∧ s.toList.isEmpty = false ∧ ¬ s.toList = [] := by
  have hl : s.toList.length = s.size := by rw [toL_data, Array.length_toList]; rfl
  have hne : ¬ s.toList = [] := fun e => by rw [e] at hl; simp at hl; omega
  refine ⟨by simpa using hne, by simpa using hne, hne⟩
theorem txt_nil {s : ByteArray} (h : s.size = 0) : s = ⟨#[]⟩ := by
  cases s
  rename_i d
  congr
  exact Array.eq_empty_of_size_eq_zero h
theorem putN_self {α : Type} {f : Nat → Option α} {n : Nat} {y : Option α} (h : f n = y) : putN f n y = f := by
  funext k
  unfold putN
  by_cases e : k = n
  · rw [if_pos e, e, h]
  · rw [if_neg e]
theorem dropP_len (x : Pt) (s : ByteArray) : (dropP x s).ws.length ≤ x.ws.length := List.length_filter_le ..
def chkS (M : Mo) (p : Int) (s : ByteArray) (md : Int) : Int := if hasB M p = false ∨ md < 0 ∨ 2 < md ∨ s.size = 0 then 1 else if 256 < s.size then 10 else if (M.at p).isSome = true then 0 else 11
def subscribeE (M : Mo) (p : Int) (s : ByteArray) (md : Int) : Int := if chkS M p s md = 0 then match M.at p with
  | some x => subE x s
  | none => 0 else chkS M p s md
def subscribeM (M : Mo) (p : Int) (s : ByteArray) (md : Int) : Mo := if chkS M p s md = 0 then match M.at p with
  | some x => { M with P := putN M.P p.toNat (some (subP x s md)) }
  | none => M else M
def chkD (M : Mo) (p : Int) : Int := if hasB M p = false then 1 else if (M.at p).isSome = true then 0 else 11
def dropEM (M : Mo) (p : Int) (s : ByteArray) : Int := if chkD M p = 0 then match M.at p with
  | some x => dropE x s
  | none => 0 else chkD M p
def dropM (M : Mo) (p : Int) (s : ByteArray) : Mo := if chkD M p = 0 then match M.at p with
  | some x => { M with P := putN M.P p.toNat (some (if (x.sub s).isSome = true then dropP x s else x)) }
  | none => M else M
section
variable {lo : Nat} {ow : Ow} {R : Gr} {W : World}
set_option maxHeartbeats 4000000 in
set_option maxRecDepth 1000000 in
theorem Subscribe_any (h : RA lo ow R W) {p : Int} (hp : (Lit.int .i64 p).wf = true) {s : ByteArray} (hs : s.size ≤ 300) (md : Int) :
    Calls Try.prog 24 #[ptr R.b, .int .i64 p, .string s, .int .i64 md] W fun e w' => e = .returned (.int .i64 (subscribeE R.mo p s md)) ∧ RP lo ow W R.b (subscribeM R.mo p s md) w' := by
  have K := keep (has_any h p)
  obtain ⟨d0, d1, d2, d3⟩ := h.c0
  have L := h.look hp W rfl
  have hj := R.js_at p
  have hat := R.at_mo p
  have HS := keep (RP.of h.rl (Below.refl _ W))
  have bad : chkS R.mo p s md ≠ 0 → subscribeE R.mo p s md = chkS R.mo p s md ∧ subscribeM R.mo p s md = R.mo := fun hb => by
    unfold subscribeE subscribeM
    rw [if_neg hb, if_neg hb]
    exact ⟨rfl, rfl⟩
  cases hb : hasB R.mo p with
  | false =>
    have e1 : chkS R.mo p s md = 1 := by unfold chkS; rw [if_pos (.inl hb)]
    obtain ⟨e2, e3⟩ := bad (by rw [e1]; decide)
    rw [e2, e3, e1]
    rw [hb] at K
    clear h hp L hj hat e1 e2 e3 hb bad
    unfold ptr at K ⊢
    go_enter Try.func24, Try.ntmps24
    go_wp2_with (go_at_call 38; refine K.out.mono ?_; rintro e w2 ⟨rfl, rfl⟩)
    go_ret
    exact ⟨rfl, HS.out⟩
  | true =>
    rw [hb] at K
    have hbp := hasB_iff.1 hb
    by_cases m0 : md < 0
    · have e1 : chkS R.mo p s md = 1 := by unfold chkS; rw [if_pos (.inr (.inl m0))]
      obtain ⟨e2, e3⟩ := bad (by rw [e1]; decide)
      rw [e2, e3, e1]
      clear h hp L hj hat e1 e2 e3 hb bad hbp
      unfold ptr at K ⊢
      go_enter Try.func24, Try.ntmps24
      go_wp2_with (go_at_call 38; refine K.out.mono ?_; rintro e w2 ⟨rfl, rfl⟩)
      go_ret
      exact ⟨rfl, HS.out⟩
    by_cases m2 : 2 < md
    · have e1 : chkS R.mo p s md = 1 := by unfold chkS; rw [if_pos (.inr (.inr (.inl m2)))]
      obtain ⟨e2, e3⟩ := bad (by rw [e1]; decide)
      rw [e2, e3, e1]
      clear h hp L hj hat e1 e2 e3 hb bad hbp
      unfold ptr at K ⊢
      go_enter Try.func24, Try.ntmps24
      go_wp2_with (go_at_call 38; refine K.out.mono ?_; rintro e w2 ⟨rfl, rfl⟩)
      go_ret
      exact ⟨rfl, HS.out⟩
    by_cases s0 : s.size = 0
    · have e1 : chkS R.mo p s md = 1 := by unfold chkS; rw [if_pos (.inr (.inr (.inr s0)))]
      obtain ⟨e2, e3⟩ := bad (by rw [e1]; decide)
      rw [e2, e3, e1]
      obtain rfl := txt_nil s0
      clear h hp L hj hat e1 e2 e3 hb bad hbp s0 hs
      unfold ptr at K ⊢
      go_enter Try.func24, Try.ntmps24
      go_wp2_with (go_at_call 38; refine K.out.mono ?_; rintro e w2 ⟨rfl, rfl⟩)
      go_ret
      exact ⟨rfl, HS.out⟩
    obtain ⟨t1, t2, t3⟩ := txt_ne (s := s) (by omega)
    by_cases s1 : 256 < s.size
    · have e1 : chkS R.mo p s md = 10 := by unfold chkS; rw [if_neg (fun q => by rcases q with q | q | q | q; (rw [hb] at q; cases q); exact m0 q; exact m2 q; exact s0 q), if_pos s1]
      obtain ⟨e2, e3⟩ := bad (by rw [e1]; decide)
      rw [e2, e3, e1]
      have s1I : (256 : Int) < (s.size : Int) := by omega
      clear h hp L hj hat e1 e2 e3 hb bad hbp s0 hs s1
      unfold ptr at K ⊢
      go_enter Try.func24, Try.ntmps24
      go_wp2_with (go_at_call 38; refine K.out.mono ?_; rintro e w2 ⟨rfl, rfl⟩)
      go_ret
      exact ⟨rfl, HS.out⟩
    have s1I : ¬ (256 : Int) < (s.size : Int) := by omega
    cases hm : R.at p with
    | none =>
      rw [hm] at hj hat
      have e1 : chkS R.mo p s md = 11 := by unfold chkS; rw [if_neg (fun q => by rcases q with q | q | q | q; (rw [hb] at q; cases q); exact m0 q; exact m2 q; exact s0 q), if_neg s1, if_neg (by rw [hat]; decide)]
      obtain ⟨e2, e3⟩ := bad (by rw [e1]; decide)
      rw [e2, e3, e1]
      rw [hj] at L
      dsimp only [Option.map, Option.getD] at L
      clear h hp hj hat e1 e2 e3 hb bad hbp s0 hs s1 hm
      unfold ptr at K ⊢
      go_enter Try.func24, Try.ntmps24
      go_wp2_with (go_at_call 38; refine K.out.mono ?_; rintro e w2 ⟨rfl, rfl⟩)
      go_ret
      exact ⟨rfl, HS.out⟩
    | some m =>
      obtain ⟨a1, a2, a3, a4, a5, a6⟩ := h.at_ms hm
      rw [hm] at hj hat
      have e1 : chkS R.mo p s md = 0 := by unfold chkS; rw [if_neg (fun q => by rcases q with q | q | q | q; (rw [hb] at q; cases q); exact m0 q; exact m2 q; exact s0 q), if_neg s1, if_pos (by rw [hat]; rfl)]
      have e2 : subscribeE R.mo p s md = subE m.pt s := by unfold subscribeE; rw [if_pos e1, hat]; rfl
      have e3 : subscribeM R.mo p s md = { R.mo with P := putN R.mo.P p.toNat (some (subP m.pt s md)) } := by unfold subscribeM; rw [if_pos e1, hat]; rfl
      rw [e2, e3]
      rw [hj] at L
      dsimp only [Option.map, Option.getD] at L
      have hq : ∀ y, y = subP m.pt s md → y.ws.length ≤ R.room ∧ y.lost ≤ R.u := fun y hy => by
        subst hy
        unfold subP
        split
        · exact ⟨by unfold Gm.pt; dsimp only; rw [List.length_map]; exact a5, a6⟩
        · exact ⟨by unfold Gm.pt; dsimp only; rw [List.length_map]; exact a5, a6⟩
      have KS := keep ((subscribe_any a3 h.ok h.lo (t := s) (by omega) (md := md) ⟨by omega, by omega⟩).mono fun e w' ⟨g1, g2⟩ => (⟨g1, h.turn a2 g2 (hq _ rfl).1 (hq _ rfl).2⟩ : e = Ending.returned (.int .i64 (subE m.pt s)) ∧ RP lo ow W R.b { R.mo with P := putN R.mo.P p.toNat (some (subP m.pt s md)) } w'))
      clear h hp hj hat e1 e2 e3 hb bad hbp s0 hs s1 hm a1 a2 a3 a4 a5 a6 hq HS
      unfold ptr at K L KS ⊢
      go_enter Try.func24, Try.ntmps24
      go_wp2_with (first | (go_at_call 38; refine K.out.mono ?_; rintro e w2 ⟨rfl, rfl⟩) | (go_at_call 39; refine KS.out.mono ?_; rintro e w2 ⟨rfl, hR⟩; have HR := keep hR; clear hR))
      go_ret
      exact ⟨rfl, HR.out⟩
set_option maxHeartbeats 4000000 in
set_option maxRecDepth 1000000 in
theorem Drop_any (h : RA lo ow R W) {p : Int} (hp : (Lit.int .i64 p).wf = true) {s : ByteArray} (hs : s.size ≤ 300) :
    Calls Try.prog 25 #[ptr R.b, .int .i64 p, .string s] W fun e w' => e = .returned (.int .i64 (dropEM R.mo p s)) ∧ RP lo ow W R.b (dropM R.mo p s) w' := by
  have K := keep (has_any h p)
  obtain ⟨d0, d1, d2, d3⟩ := h.c0
  have L := h.look hp W rfl
  have hj := R.js_at p
  have hat := R.at_mo p
  have HS := keep (RP.of h.rl (Below.refl _ W))
  have bad : chkD R.mo p ≠ 0 → dropEM R.mo p s = chkD R.mo p ∧ dropM R.mo p s = R.mo := fun hb => by
    unfold dropEM dropM
    rw [if_neg hb, if_neg hb]
    exact ⟨rfl, rfl⟩
  cases hb : hasB R.mo p with
  | false =>
    have e1 : chkD R.mo p = 1 := by unfold chkD; rw [if_pos hb]
    obtain ⟨e2, e3⟩ := bad (by rw [e1]; decide)
    rw [e2, e3, e1]
    rw [hb] at K
    clear h hp L hj hat e1 e2 e3 hb bad
    unfold ptr at K ⊢
    go_enter Try.func25, Try.ntmps25
    go_wp2_with (go_at_call 38; refine K.out.mono ?_; rintro e w2 ⟨rfl, rfl⟩)
    go_ret
    exact ⟨rfl, HS.out⟩
  | true =>
    rw [hb] at K
    cases hm : R.at p with
    | none =>
      rw [hm] at hj hat
      have e1 : chkD R.mo p = 11 := by unfold chkD; rw [if_neg (by rw [hb]; decide), if_neg (by rw [hat]; decide)]
      obtain ⟨e2, e3⟩ := bad (by rw [e1]; decide)
      rw [e2, e3, e1]
      rw [hj] at L
      dsimp only [Option.map, Option.getD] at L
      clear h hp hj hat e1 e2 e3 hb bad hs hm
      unfold ptr at K ⊢
      go_enter Try.func25, Try.ntmps25
      go_wp2_with (go_at_call 38; refine K.out.mono ?_; rintro e w2 ⟨rfl, rfl⟩)
      go_ret
      exact ⟨rfl, HS.out⟩
    | some m =>
      obtain ⟨a1, a2, a3, a4, a5, a6⟩ := h.at_ms hm
      rw [hm] at hj hat
      have e1 : chkD R.mo p = 0 := by unfold chkD; rw [if_neg (by rw [hb]; decide), if_pos (by rw [hat]; rfl)]
      have e2 : dropEM R.mo p s = dropE m.pt s := by unfold dropEM; rw [if_pos e1, hat]; rfl
      have e3 : dropM R.mo p s = { R.mo with P := putN R.mo.P p.toNat (some (if (m.pt.sub s).isSome = true then dropP m.pt s else m.pt)) } := by unfold dropM; rw [if_pos e1, hat]; rfl
      rw [e2, e3]
      rw [hj] at L
      dsimp only [Option.map, Option.getD] at L
      have hwl : m.pt.ws.length = m.ws.length := by unfold Gm.pt; dsimp only; rw [List.length_map]
      have hq : ∀ y, y = (if (m.pt.sub s).isSome = true then dropP m.pt s else m.pt) → y.ws.length ≤ R.room ∧ y.lost ≤ R.u := fun y hy => by
        subst hy
        split
        · exact ⟨by have := dropP_len m.pt s; omega, a6⟩
        · exact ⟨by omega, a6⟩
      have KS := keep ((drop_any a3 h.ok h.lo (t := s) hs).mono fun e w' ⟨g1, g2⟩ => (⟨g1, h.turn a2 g2 (hq _ rfl).1 (hq _ rfl).2⟩ : e = Ending.returned (.int .i64 (dropE m.pt s)) ∧ RP lo ow W R.b { R.mo with P := putN R.mo.P p.toNat (some (if (m.pt.sub s).isSome = true then dropP m.pt s else m.pt)) } w'))
      obtain ⟨z, hz⟩ : ∃ z, (if (m.pt.sub s).isSome = true then dropP m.pt s else m.pt) = z := ⟨_, rfl⟩
      rw [hz] at KS ⊢
      clear h hp hj hat e1 e2 e3 hb bad hs hm a1 a2 a3 a4 a5 a6 hq HS hwl hz
      unfold ptr at K L KS ⊢
      go_enter Try.func25, Try.ntmps25
      go_wp2_with (first | (go_at_call 38; refine K.out.mono ?_; rintro e w2 ⟨rfl, rfl⟩) | (go_at_call 40; refine KS.out.mono ?_; rintro e w2 ⟨rfl, hR⟩; have HR := keep hR; clear hR))
      go_ret
      exact ⟨rfl, HR.out⟩
end
end Go.Proofs.Ytnbicbnighpkjaa
