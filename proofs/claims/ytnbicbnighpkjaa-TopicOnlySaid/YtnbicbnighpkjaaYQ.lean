/- Law 19: who did not subscribe gets nothing (TopicOnly). -/
import Derived.Test.YtnbicbnighpkjaaYJ
namespace Go.Proofs.Ytnbicbnighpkjaa
open Go.RowKit Go.Maps
set_option linter.unusedVariables false
set_option linter.unusedSimpArgs false

/-- Five parties at most; x: those that have joined; nothing was published. -/
structure OP (x : Nat → Option Pt) (M : Mo) : Prop where
  np : M.np = 5
  room : M.room = 9
  u : M.u ≤ 5
  P : M.P = x
  N : ∀ s, M.N s = 0
def J5 (j : Nat) : Nat → Option Pt := fun n => if n < j then some ptZ else none
def X1 (s : ByteArray) (md : Int) : Pt := { ptZ with sub := putF ptZ.sub s (some (md, false)), c := 1 }
section
variable {x : Nat → Option Pt} {M : Mo}
theorem OP.join {j : Nat} (h : OP (J5 j) M) (hj : j < 5) (hu : M.u ≤ j) : joinE M (j : Int) = 0 ∧ OP (J5 (j + 1)) (joinM M (j : Int)) ∧ (joinM M (j : Int)).u ≤ j + 1 := by
  obtain ⟨e1, e2⟩ := join_ok (M := M) (n := j) (by rw [h.np]; exact hj) (by rw [h.P]; unfold J5; rw [if_neg (by omega)])
  rw [e2]
  refine ⟨e1, ⟨h.np, h.room, by show M.u + 1 ≤ 5; omega, ?_, h.N⟩, by show M.u + 1 ≤ _; omega⟩
  dsimp only
  rw [h.P]
  funext n
  unfold putN J5
  by_cases e : n = j
  · rw [if_pos e, if_pos (by omega)]
  · rw [if_neg e]
    by_cases e2 : n < j
    · rw [if_pos e2, if_pos (by omega)]
    · rw [if_neg e2, if_neg (by omega)]
theorem OP.sub (h : OP x M) {n : Nat} (hn : n < 5) (hx : x n = some ptZ) {s : ByteArray} (hs : 0 < s.size ∧ s.size ≤ 256) {md : Int} (hm : 0 ≤ md ∧ md ≤ 2) : subscribeE M (n : Int) s md = 0 ∧ OP (putN x n (some (X1 s md))) (subscribeM M (n : Int) s md) := by
  obtain ⟨e1, e2⟩ := sub_new (M := M) (n := n) (by rw [h.np]; exact hn) (x := ptZ) (by rw [h.P]; exact hx) hs hm rfl (by decide)
  refine ⟨e1, ?_⟩
  rw [e2]
  exact ⟨h.np, h.room, h.u, by dsimp only; rw [h.P]; rfl, h.N⟩
theorem OP.drop (h : OP x M) {n : Nat} (hn : n < 5) {y : Pt} (hx : x n = some y) {s : ByteArray} (hs : (y.sub s).isSome = true) : dropEM M (n : Int) s = 0 ∧ OP (putN x n (some (dropP y s))) (dropM M (n : Int) s) := by
  have ha : M.at (n : Int) = some y := by rw [at_nat, h.P]; exact hx
  have hc : chkD M (n : Int) = 0 := by unfold chkD; rw [if_neg (by rw [has_nat (by rw [h.np]; exact hn)]; decide), ha]; rfl
  refine ⟨?_, ?_⟩
  · unfold dropEM
    rw [if_pos hc, ha]
    dsimp only
    unfold dropE
    rw [if_pos hs]
  · unfold dropM
    rw [if_pos hc, ha]
    dsimp only
    rw [if_pos hs]
    exact ⟨h.np, h.room, h.u, by dsimp only; rw [h.P]; rfl, h.N⟩
theorem OP.leave (h : OP x M) {n : Nat} (hn : n < 5) {y : Pt} (hx : x n = some y) : leaveE M (n : Int) = 0 ∧ OP (putN x n none) (leaveM M (n : Int)) := by
  have ha : M.at (n : Int) = some y := by rw [at_nat, h.P]; exact hx
  have hc : leaveE M (n : Int) = 0 := by unfold leaveE; rw [if_neg (by rw [has_nat (by rw [h.np]; exact hn)]; decide), ha]; rfl
  refine ⟨hc, ?_⟩
  unfold leaveM
  rw [if_pos hc]
  exact ⟨h.np, h.room, h.u, by dsimp only; rw [h.P]; rfl, h.N⟩
end
/-- Who hears what ahead of the publishing. -/
def Z7 (a b : ByteArray) : Nat → Option Pt := putN (putN (putN (putN (putN (putN (putN (J5 5) 0 (some (X1 a 0))) 1 (some (X1 b 0))) 2 (some (X1 a 0))) 2 (some (dropP (X1 a 0) a))) 3 (some (X1 a 0))) 3 none) 4 (some (X1 a 2))
theorem z7_at (a b : ByteArray) : Z7 a b 0 = some (X1 a 0) ∧ Z7 a b 1 = some (X1 b 0) ∧ Z7 a b 2 = some (dropP (X1 a 0) a) ∧ Z7 a b 3 = none ∧ Z7 a b 4 = some (X1 a 2) := ⟨rfl, rfl, rfl, rfl, rfl⟩
theorem x1_same (s : ByteArray) (md : Int) : (X1 s md).sub s = some (md, false) := putF_same _ _ _
theorem x1_ne {s t : ByteArray} (md : Int) (h : t ≠ s) : (X1 s md).sub t = none := putF_ne _ _ h
theorem only_facts {a b : ByteArray} (hab : a ≠ b) (ha : 0 < a.size ∧ a.size ≤ 256) {M : Mo} (h : OP (Z7 a b) M) {bs : List UInt8} (hb : bs.length ≤ 1000) :
    pubC M 0 a true bs = 1 ∧ pubE M 0 a bs.length = 0 ∧ pullI (pubM M 0 a true bs) 4 = ⟨a, 0, 0, true, bs⟩ ∧ pullB (pubM M 0 a true bs) 4 = true ∧
    ∀ n : Nat, n < 5 → waitN (pullM (pubM M 0 a true bs) 4) (n : Int) = 0 := by
  obtain ⟨z0, z1, z2, z3, z4⟩ := z7_at a b
  obtain ⟨e1, e2, e3⟩ := pub_ok (M := M) (n := 0) (by rw [h.np]; decide) (x := X1 a 0) (by rw [h.P]; exact z0) (s := a) ha true (bs := bs) (by omega)
  obtain ⟨y, hy⟩ : ∃ y, pubI M 0 a true bs = y := ⟨_, rfl⟩
  have hyI : y = ⟨a, 0, 0, true, bs⟩ := by rw [← hy]; unfold pubI; rw [h.N]; rfl
  have hyt : y.tp = a := by rw [hyI]
  have hyf : y.fr = 0 := by rw [hyI]
  have e2' : pubM M 0 a true bs = handTo (pubN M a) y 5 := by rw [← hy, ← h.np]; exact e2
  have e3' : pubC M 0 a true bs = handN (pubN M a) y 5 := by rw [← hy, ← h.np]; exact e3
  have hP : ∀ n, (pubN M a).P n = Z7 a b n := fun n => by show M.P n = _; rw [h.P]
  have hR : (pubN M a).room = 9 := h.room
  obtain ⟨t1, t1'⟩ := take_not (x := X1 b 0) (room := 9) (y := y) (by rw [hyt]; exact x1_ne 0 hab)
  obtain ⟨t2, t2'⟩ := take_not (x := dropP (X1 a 0) a) (room := 9) (y := y) (by rw [hyt]; exact putF_same _ _ _)
  obtain ⟨t4, t4'⟩ := take_room (x := X1 a 2) (room := 9) (y := y) (m := 2) (by rw [hyt]; exact x1_same a 2) (show 0 < 9 by decide)
  have b0 : handB (pubN M a) y 0 = false := by unfold handB; rw [hP, z0, hyf]; rfl
  have b1 : handB (pubN M a) y 1 = false := by unfold handB; rw [hP, z1, hR]; dsimp only; rw [t1']; exact Bool.and_false _
  have b2 : handB (pubN M a) y 2 = false := by unfold handB; rw [hP, z2, hR]; dsimp only; rw [t2']; exact Bool.and_false _
  have b3 : handB (pubN M a) y 3 = false := by unfold handB; rw [hP, z3]
  have b4 : handB (pubN M a) y 4 = true := by unfold handB; rw [hP, z4, hR]; dsimp only; rw [t4', hyf]; rfl
  have hc : handN (pubN M a) y 5 = 1 := by
    rw [handN_succ, handN_succ, handN_succ, handN_succ, handN_succ, b0, b1, b2, b3, b4]
    rfl
  have hat : ∀ n : Nat, (handTo (pubN M a) y 5).P n = if n < 5 ∧ (n : Int) ≠ 0 then (Z7 a b n).map (fun x => takeP x 9 y) else Z7 a b n := fun n => by
    unfold handTo
    dsimp only
    rw [hP, hR, hyf]
  have p0 : (handTo (pubN M a) y 5).P 0 = some (X1 a 0) := by rw [hat, if_neg (by simp)]; exact z0
  have p1 : (handTo (pubN M a) y 5).P 1 = some (X1 b 0) := by rw [hat, if_pos (by simp), z1, Option.map_some, t1]
  have p2 : (handTo (pubN M a) y 5).P 2 = some (dropP (X1 a 0) a) := by rw [hat, if_pos (by simp), z2, Option.map_some, t2]
  have p3 : (handTo (pubN M a) y 5).P 3 = none := by rw [hat, if_pos (by simp), z3]; rfl
  have p4 : (handTo (pubN M a) y 5).P 4 = some { X1 a 2 with ws := [y] } := by rw [hat, if_pos (by simp), z4, Option.map_some, t4]; rfl
  obtain ⟨g1, g2, g3⟩ := pull_cons (M := handTo (pubN M a) y 5) (n := 4) p4 (y := y) (r := []) rfl
  have g3' : pullM (handTo (pubN M a) y 5) 4 = { handTo (pubN M a) y 5 with P := putN (handTo (pubN M a) y 5).P 4 (some { X1 a 2 with ws := [] }) } := g3
  rw [e2', e3', hc]
  refine ⟨rfl, e1, (show pullI (handTo (pubN M a) y 5) 4 = y from g1).trans hyI, g2, fun n hn => ?_⟩
  rw [g3']
  unfold waitN
  rw [at_nat]
  dsimp only
  obtain ⟨v, hv⟩ : ∃ v : Pt, v = { X1 a 2 with ws := [] } := ⟨_, rfl⟩
  have hvw : v.ws = [] := by rw [hv]
  have hn5 : n = 0 ∨ n = 1 ∨ n = 2 ∨ n = 3 ∨ n = 4 := by omega
  have key : putN (handTo (pubN M a) y 5).P 4 (some v) n = none ∨ ∃ z, putN (handTo (pubN M a) y 5).P 4 (some v) n = some z ∧ z.ws = [] := by
    rcases hn5 with rfl | rfl | rfl | rfl | rfl
    · exact .inr ⟨_, p0, rfl⟩
    · exact .inr ⟨_, p1, rfl⟩
    · exact .inr ⟨_, p2, rfl⟩
    · exact .inl p3
    · exact .inr ⟨v, putN_same _ _ _, hvw⟩
  rw [hv] at key
  rcases key with k | ⟨z, k, kz⟩
  · rw [k]
  · rw [k]
    dsimp only
    rw [kz]
    rfl
def OQ (w : World) (b : Nat) (x : Nat → Option Pt) (W : World) : Prop := ∃ M, RQ w b M W ∧ OP x M
section
variable {w W : World} {b : Nat} {x : Nat → Option Pt}
theorem oq_sub (h : OQ w b x W) {n : Nat} (hn : n < 5) (hx : x n = some ptZ) {s : ByteArray} (hs : 0 < s.size ∧ s.size ≤ 256) {md : Int} (hm : 0 ≤ md ∧ md ≤ 2) : Calls Try.prog 24 #[ptr b, .int .i64 (n : Int), .string s, .int .i64 md] W fun e w' => e = .returned (.int .i64 0) ∧ Hid (OQ w b (putN x n (some (X1 s md))) w') := by
  obtain ⟨M, h1, h2⟩ := h
  obtain ⟨e1, e2⟩ := h2.sub hn hx hs hm
  have K := Subscribe_q h1 (wf_nat (n := n) (by omega)) (s := s) (by omega) md
  rw [e1] at K
  exact K.mono fun e w' ⟨k1, k2⟩ => ⟨k1, keep ⟨_, k2.out, e2⟩⟩
theorem oq_drop (h : OQ w b x W) {n : Nat} (hn : n < 5) {y : Pt} (hx : x n = some y) {s : ByteArray} (hs : (y.sub s).isSome = true) (hl : s.size ≤ 256) : Calls Try.prog 25 #[ptr b, .int .i64 (n : Int), .string s] W fun e w' => e = .returned (.int .i64 0) ∧ Hid (OQ w b (putN x n (some (dropP y s))) w') := by
  obtain ⟨M, h1, h2⟩ := h
  obtain ⟨e1, e2⟩ := h2.drop hn hx hs
  have K := Drop_q h1 (wf_nat (n := n) (by omega)) (s := s) (by omega)
  rw [e1] at K
  exact K.mono fun e w' ⟨k1, k2⟩ => ⟨k1, keep ⟨_, k2.out, e2⟩⟩
theorem oq_leave (h : OQ w b x W) {n : Nat} (hn : n < 5) {y : Pt} (hx : x n = some y) : Calls Try.prog 23 #[ptr b, .int .i64 (n : Int)] W fun e w' => e = .returned (.int .i64 0) ∧ Hid (OQ w b (putN x n none) w') := by
  obtain ⟨M, h1, h2⟩ := h
  obtain ⟨e1, e2⟩ := h2.leave hn hx
  have K := Leave_q h1 (wf_nat (n := n) (by omega))
  rw [e1] at K
  exact K.mono fun e w' ⟨k1, k2⟩ => ⟨k1, keep ⟨_, k2.out, e2⟩⟩
end
end Go.Proofs.Ytnbicbnighpkjaa
