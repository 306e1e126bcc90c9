/- Law 19: what a party's queue is while others publish and it pulls, in order (for TopicRuns). -/
import Derived.Test.YtnbicbnighpkjaaYJ
import Derived.Test.YtnbicbnighpkjaaNums
import Derived.Test.YtnbicbnighpkjaaBits
namespace Go.Proofs.Ytnbicbnighpkjaa
open Go.RowKit Go.Maps
set_option linter.unusedVariables false
set_option linter.unusedSimpArgs false

def itm (k : Nat) : It := ⟨tS, 0, (k : Int), false, [b8 (k : Int)]⟩
def itms (a n : Nat) : List It := (List.range' a n).map itm
theorem itms_len (a n : Nat) : (itms a n).length = n := by unfold itms; simp
theorem itms_cons (a n : Nat) : itms a (n + 1) = itm a :: itms (a + 1) n := by unfold itms; rw [List.range'_succ]; rfl
theorem itms_snoc (a n : Nat) : itms a (n + 1) = itms a n ++ [itm (a + n)] := by
  unfold itms
  rw [List.range'_concat, List.map_append]
  simp
/-- Party 1 hears in order: it pulled up to nx, up to q waits, cnt were published; did it fail? -/
structure RM (rm nx q cnt : Nat) (fl : Bool) (M : Mo) : Prop where
  np : M.np = 3
  room : M.room = rm
  u : M.u ≤ 2 + cnt
  p0 : ∃ x, M.P 0 = some x
  p1 : ∃ x, M.P 1 = some x ∧ x.sub tS = some (0, fl) ∧ x.ws = itms nx (q - nx)
  p2 : M.P 2 = none
  nn : M.N tS = cnt
  le : nx ≤ q ∧ q ≤ cnt
  ff : fl = false → q = cnt
section
variable {rm nx q cnt : Nat} {fl : Bool} {M : Mo}
theorem pubI_itm (h : M.N tS = cnt) : pubI M 0 tS false [b8 (cnt : Int)] = itm cnt := by unfold pubI itm; rw [h]
theorem hand3 {M : Mo} {y : It} (hy : y.fr = 0) (h2 : M.P 2 = none) {x : Pt} (h1 : M.P 1 = some x) : handN M y 3 = if takeB x M.room y = true then 1 else 0 := by
  rw [handN_succ, handN_succ, handN_succ]
  have a0 : handB M y 0 = false := by
    unfold handB
    rw [hy]
    cases M.P 0 <;> rfl
  have a1 : handB M y 1 = takeB x M.room y := by
    unfold handB
    rw [h1, hy]
    rfl
  have a2 : handB M y 2 = false := by unfold handB; rw [h2]
  rw [a0, a1, a2, show handN M y 0 = 0 from rfl]
  simp
theorem handTo3 {M : Mo} {y : It} (hy : y.fr = 0) (h2 : M.P 2 = none) {x : Pt} (h1 : M.P 1 = some x) : (handTo M y 3).P 0 = M.P 0 ∧ (handTo M y 3).P 1 = some (takeP x M.room y) ∧ (handTo M y 3).P 2 = none := by
  unfold handTo
  dsimp only
  rw [hy]
  refine ⟨?_, ?_, ?_⟩
  · rw [if_neg (by simp)]
  · rw [if_pos (by simp), h1]
    rfl
  · rw [h2]
    split <;> rfl
theorem RM.pub (h : RM rm nx q cnt fl M) (hr : 1 ≤ rm) : pubE M 0 tS 1 = 0 ∧
    (fl = true → pubC M 0 tS false [b8 (cnt : Int)] = 0 ∧ RM rm nx q (cnt + 1) true (pubM M 0 tS false [b8 (cnt : Int)])) ∧
    (fl = false → q - nx < rm → pubC M 0 tS false [b8 (cnt : Int)] = 1 ∧ RM rm nx (cnt + 1) (cnt + 1) false (pubM M 0 tS false [b8 (cnt : Int)])) ∧
    (fl = false → ¬ q - nx < rm → pubC M 0 tS false [b8 (cnt : Int)] = 0 ∧ RM rm nx q (cnt + 1) true (pubM M 0 tS false [b8 (cnt : Int)])) := by
  obtain ⟨x0, h0⟩ := h.p0
  obtain ⟨x, h1, hs, hw⟩ := h.p1
  have hle := h.le
  obtain ⟨e1, e2, e3⟩ := pub_ok (M := M) (n := 0) (by rw [h.np]; decide) h0 (s := tS) ⟨by decide, by decide⟩ false (bs := [b8 (cnt : Int)]) (show 1 ≤ 16384 by decide)
  have e2' : pubM M 0 tS false [b8 (cnt : Int)] = handTo (pubN M tS) (itm cnt) 3 := by
    have : pubM M 0 tS false [b8 (cnt : Int)] = handTo (pubN M tS) (pubI M 0 tS false [b8 (cnt : Int)]) M.np := e2
    rw [this, pubI_itm h.nn, h.np]
  have e3' : pubC M 0 tS false [b8 (cnt : Int)] = handN (pubN M tS) (itm cnt) 3 := by
    have : pubC M 0 tS false [b8 (cnt : Int)] = handN (pubN M tS) (pubI M 0 tS false [b8 (cnt : Int)]) M.np := e3
    rw [this, pubI_itm h.nn, h.np]
  have hN1 : (pubN M tS).P 1 = some x := h1
  have hN2 : (pubN M tS).P 2 = none := h.p2
  have hNr : (pubN M tS).room = rm := h.room
  have c := hand3 (M := pubN M tS) (y := itm cnt) rfl hN2 hN1
  obtain ⟨t0, t1, t2⟩ := handTo3 (M := pubN M tS) (y := itm cnt) rfl hN2 hN1
  rw [hNr] at c t1
  have base : ∀ (fl' : Bool) (q' : Nat), (takeP x rm (itm cnt)).sub tS = some (0, fl') → (takeP x rm (itm cnt)).ws = itms nx (q' - nx) → nx ≤ q' ∧ q' ≤ cnt + 1 → (fl' = false → q' = cnt + 1) → RM rm nx q' (cnt + 1) fl' (pubM M 0 tS false [b8 (cnt : Int)]) := fun fl' q' a1 a2 a3 a4 => by
    rw [e2']
    exact ⟨h.np, h.room, by show M.u + 1 ≤ _; have := h.u; omega, ⟨x0, t0.trans h0⟩, ⟨_, t1, a1, a2⟩, t2, by show (if tS = tS then M.N tS + 1 else M.N tS) = _; rw [if_pos rfl, h.nn], a3, a4⟩
  have hlen : x.ws.length = q - nx := by rw [hw, itms_len]
  refine ⟨e1, fun hf => ?_, fun hf hlt => ?_, fun hf hlt => ?_⟩
  · subst hf
    obtain ⟨k1, k2⟩ := take_failed (x := x) (room := rm) (y := itm cnt) hs
    rw [k1] at base
    rw [e3', c, k2]
    exact ⟨rfl, base true q hs hw ⟨hle.1, by omega⟩ (fun e => by cases e)⟩
  · subst hf
    have hq := h.ff rfl
    obtain ⟨k1, k2⟩ := take_room (x := x) (room := rm) (y := itm cnt) hs (by rw [hlen]; exact hlt)
    rw [k1] at base
    rw [e3', c, k2]
    refine ⟨rfl, base false (cnt + 1) hs ?_ ⟨by omega, Nat.le_refl _⟩ (fun _ => rfl)⟩
    dsimp only
    rw [hw, show cnt + 1 - nx = (q - nx) + 1 by omega, itms_snoc, show nx + (q - nx) = cnt by omega]
  · subst hf
    have hq := h.ff rfl
    have k : takeP x rm (itm cnt) = { x with sub := putF x.sub tS (some (0, true)) } ∧ takeB x rm (itm cnt) = false := by
      have hnl : ¬ x.ws.length < rm := by rw [hlen]; exact hlt
      unfold takeP takeB
      rw [show (itm cnt).tp = tS from rfl, hs]
      dsimp only
      refine ⟨?_, ?_⟩
      · rw [if_neg (show ¬ (false = true) by decide), if_neg hnl, if_neg (show ¬ (fullB x tS 0 = true) from (show ¬ (false = true) by decide))]
        rfl
      · rw [if_neg (show ¬ (false = true) by decide), if_neg hnl]
        rfl
    rw [k.1] at base
    rw [e3', c, k.2]
    exact ⟨rfl, base true q (show putF x.sub tS (some ((0 : Int), true)) tS = some (0, true) from putF_same _ _ _) hw ⟨hle.1, by omega⟩ (fun e => by cases e)⟩
theorem RM.failed (h : RM rm nx q cnt fl M) : failedB M 1 tS = fl := by
  obtain ⟨x, h1, hs, hw⟩ := h.p1
  unfold failedB
  rw [show M.at 1 = M.P 1 from at_nat M 1, h1]
  dsimp only
  rw [hs]
theorem RM.pull (h : RM rm nx q cnt fl M) (hlt : nx < q) : pullI M 1 = itm nx ∧ pullB M 1 = true ∧ RM rm (nx + 1) q cnt fl (pullM M 1) := by
  obtain ⟨x, h1, hs, hw⟩ := h.p1
  rw [show q - nx = (q - (nx + 1)) + 1 by omega, itms_cons] at hw
  obtain ⟨e1, e2, e3⟩ := pull_cons (M := M) (n := 1) h1 hw
  refine ⟨e1, e2, ?_⟩
  have e3' : pullM M 1 = { M with P := putN M.P 1 (some { x with ws := itms (nx + 1) (q - (nx + 1)) }) } := e3
  rw [e3']
  obtain ⟨x0, h0⟩ := h.p0
  exact ⟨h.np, h.room, h.u, ⟨x0, (by dsimp only; exact (if_neg (show ¬ ((0 : Nat) = 1) by decide)).trans h0)⟩, ⟨{ x with ws := itms (nx + 1) (q - (nx + 1)) }, (by dsimp only; exact if_pos rfl), hs, rfl⟩, (by dsimp only; exact (if_neg (show ¬ ((2 : Nat) = 1) by decide)).trans h.p2), h.nn, ⟨hlt, h.le.2⟩, h.ff⟩
theorem RM.none_ (h : RM rm nx q cnt fl M) (he : ¬ nx < q) : pullI M 1 = itZ ∧ pullB M 1 = false ∧ pullM M 1 = M ∧ nx = q := by
  obtain ⟨x, h1, hs, hw⟩ := h.p1
  have hle := h.le
  rw [show q - nx = 0 by omega] at hw
  obtain ⟨e1, e2, e3⟩ := pull_nil (M := M) (n := 1) h1 hw
  exact ⟨e1, e2, e3, by omega⟩
end
/-- The first steps: 0 and 1 join, one item is published that nobody hears, 1 subscribes. -/
def R0 (rm : Nat) : Mo := joinM (joinM (newM 3 rm) 0) 1
def R1 (rm : Nat) : Mo := pubM (R0 rm) 0 tS false [b8 0]
def R2 (rm : Nat) (md : Int) (M : Mo) : Mo := subscribeM M 1 tS md
theorem r0_facts (rm : Nat) : joinE (newM 3 rm) 0 = 0 ∧ joinE (joinM (newM 3 rm) 0) 1 = 0 ∧ (newM 3 rm).u = 0 ∧ (joinM (newM 3 rm) 0).u = 1 ∧ (R0 rm).u = 2 := ⟨rfl, rfl, rfl, rfl, rfl⟩
theorem r0_is (rm : Nat) : R0 rm = { newM 3 rm with P := putN (putN (fun _ => none) 0 (some ptZ)) 1 (some ptZ), u := 2 } := by
  obtain ⟨_, e1⟩ := join_ok (M := newM 3 rm) (n := 0) (by show 0 < 3; decide) rfl
  have e1' : joinM (newM 3 rm) 0 = _ := e1
  obtain ⟨_, e2⟩ := join_ok (M := joinM (newM 3 rm) 0) (n := 1) (by rw [e1']; show 1 < 3; decide) (by rw [e1']; rfl)
  have e2' : joinM (joinM (newM 3 rm) 0) 1 = _ := e2
  unfold R0
  rw [e2', e1']
  rfl
theorem r1_is (rm : Nat) : pubE (R0 rm) 0 tS 1 = 0 ∧ pubC (R0 rm) 0 tS false [b8 0] = 0 ∧ (R1 rm).np = 3 ∧ (R1 rm).room = rm ∧ (R1 rm).u = 3 ∧ (R1 rm).P 0 = some ptZ ∧ (R1 rm).P 1 = some ptZ ∧ (R1 rm).P 2 = none ∧ (R1 rm).N tS = 1 := by
  have e0 := r0_is rm
  have p0 : (R0 rm).P 0 = some ptZ := by rw [e0]; rfl
  have p1 : (R0 rm).P 1 = some ptZ := by rw [e0]; rfl
  have p2 : (R0 rm).P 2 = none := by rw [e0]; rfl
  have hn : (R0 rm).np = 3 := by rw [e0]; rfl
  obtain ⟨e1, e2, e3⟩ := pub_ok (M := R0 rm) (n := 0) (by rw [hn]; decide) p0 (s := tS) ⟨by decide, by decide⟩ false (bs := [b8 0]) (show 1 ≤ 16384 by decide)
  have e2' : R1 rm = handTo (pubN (R0 rm) tS) (pubI (R0 rm) 0 tS false [b8 0]) (R0 rm).np := e2
  have e3' : pubC (R0 rm) 0 tS false [b8 0] = handN (pubN (R0 rm) tS) (pubI (R0 rm) 0 tS false [b8 0]) (R0 rm).np := e3
  rw [hn] at e2' e3'
  have q1 : (pubN (R0 rm) tS).P 1 = some ptZ := p1
  have q2 : (pubN (R0 rm) tS).P 2 = none := p2
  obtain ⟨t0, t1, t2⟩ := handTo3 (M := pubN (R0 rm) tS) (y := pubI (R0 rm) 0 tS false [b8 0]) rfl q2 q1
  have c := hand3 (M := pubN (R0 rm) tS) (y := pubI (R0 rm) 0 tS false [b8 0]) rfl q2 q1
  obtain ⟨k1, k2⟩ := take_not (x := ptZ) (room := (pubN (R0 rm) tS).room) (y := pubI (R0 rm) 0 tS false [b8 0]) rfl
  rw [k2] at c
  rw [k1] at t1
  refine ⟨e1, e3'.trans c, ?_, ?_, ?_, ?_, ?_, ?_, ?_⟩
  · rw [e2', e0]; rfl
  · rw [e2', e0]; rfl
  · rw [e2', e0]; rfl
  · rw [e2', t0]; exact p0
  · rw [e2', t1]
  · rw [e2', t2]
  · rw [e2', e0]; rfl
theorem r2_rm (rm : Nat) : subscribeE (R1 rm) 1 tS 0 = 0 ∧ RM rm 1 1 1 false (subscribeM (R1 rm) 1 tS 0) := by
  obtain ⟨_, _, a1, a2, a3, a4, a5, a6, a7⟩ := r1_is rm
  obtain ⟨e1, e2⟩ := sub_new (M := R1 rm) (n := 1) (by rw [a1]; decide) a5 (s := tS) ⟨by decide, by decide⟩ (md := 0) ⟨by decide, by decide⟩ rfl (by decide)
  refine ⟨e1, ?_⟩
  have e2' : subscribeM (R1 rm) 1 tS 0 = _ := e2
  rw [e2']
  exact ⟨a1, a2, by show (R1 rm).u ≤ _; omega, ⟨ptZ, (by dsimp only; exact (if_neg (show ¬ ((0 : Nat) = 1) by decide)).trans a4)⟩, ⟨{ ptZ with sub := putF ptZ.sub tS (some (0, false)), c := ptZ.c + 1 }, (by dsimp only; exact if_pos rfl), (show putF ptZ.sub tS (some ((0 : Int), false)) tS = some (0, false) from putF_same _ _ _), rfl⟩, (by dsimp only; exact (if_neg (show ¬ ((2 : Nat) = 1) by decide)).trans a6), a7, ⟨Nat.le_refl _, Nat.le_refl _⟩, fun _ => rfl⟩
end Go.Proofs.Ytnbicbnighpkjaa
