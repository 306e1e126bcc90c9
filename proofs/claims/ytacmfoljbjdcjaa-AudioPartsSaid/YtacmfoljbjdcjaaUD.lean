/- Law 20: two speakers' sound is told apart at a listener (AudioMany). -/
import Derived.Test.YtacmfoljbjdcjaaUB
import Derived.Test.YtacmfoljbjdcjaaBits
namespace Go.Proofs.Ytacmfoljbjdcjaa
open Go.RowKit Go.Maps
set_option linter.unusedVariables false
set_option linter.unusedSimpArgs false

/-- One speaker's sound: from a on, by steps of d; what is known of it behind i packets; the packet number i. -/
def knS (d a : Int) (i : Nat) : Sp := if i = 0 then spZ else ⟨true, 9, (a + d * ((i : Int) - 1)) % 65536, d * ((i : Int) - 1)⟩
def sayP (d a : Int) (i : Nat) : Pk := ⟨false, 0, (a + d * (i : Int)) % 65536, 0, 9, []⟩
theorem kn_step {d a : Int} (hd : d = 1 ∨ d = 2) {i : Nat} (hi : i < 16) : befB (knS d a i) (sayP d a i) = true ∧ folI (knS d a i) (sayP d a i) = d * (i : Int) ∧ nxtS (knS d a i) (sayP d a i) = knS d a (i + 1) := by
  have e : nxtS (knS d a i) (sayP d a i) = ⟨true, 9, (a + d * (i : Int)) % 65536, folI (knS d a i) (sayP d a i)⟩ := rfl
  have e2 : knS d a (i + 1) = ⟨true, 9, (a + d * (i : Int)) % 65536, d * (i : Int)⟩ := by
    unfold knS
    rw [if_neg (by omega), show (((i + 1 : Nat) : Int) - 1) = (i : Int) by omega]
  rw [e, e2]
  by_cases h0 : i = 0
  · subst h0
    refine ⟨rfl, ?_, ?_⟩
    · show (0 : Int) = d * 0
      omega
    · have : folI (knS d a 0) (sayP d a 0) = 0 := rfl
      rw [this]
      congr 1
      show (0 : Int) = d * 0
      omega
  · have hk : knS d a i = ⟨true, 9, (a + d * ((i : Int) - 1)) % 65536, d * ((i : Int) - 1)⟩ := by unfold knS; rw [if_neg h0]
    have hf : folI (knS d a i) (sayP d a i) = d * (i : Int) := by
      rw [hk]
      unfold folI sayP
      dsimp only
      rw [if_neg (by decide), if_pos rfl]
      rcases hd with rfl | rfl <;> omega
    refine ⟨?_, hf, by rw [hf]⟩
    rw [hk]
    unfold befB sayP less16 lessI dist
    dsimp only
    have : decide (0 < ((a + d * (i : Int)) % 65536 - (a + d * ((i : Int) - 1)) % 65536) % 65536 ∧ ((a + d * (i : Int)) % 65536 - (a + d * ((i : Int) - 1)) % 65536) % 65536 < 32768) = true := by
      apply decide_eq_true
      rcases hd with rfl | rfl <;> omega
    rw [this]
    rfl
def hdA (t : Nat) : Pk := ⟨false, 0, (t : Int), 0, 1, []⟩
def hdB (t : Nat) : Pk := ⟨false, 0, 2 * (t : Int), 0, 2, []⟩
def tl : Nat → Nat → List Pk
  | _, 0 => []
  | x, n + 1 => hdA x :: hdB x :: tl (x + 1) n
theorem tl_snoc : ∀ (n x : Nat), tl x (n + 1) = tl x n ++ [hdA (x + n), hdB (x + n)]
  | 0, x => rfl
  | n + 1, x => by
    have h := tl_snoc n (x + 1)
    rw [show x + 1 + n = x + (n + 1) by omega] at h
    show hdA x :: hdB x :: tl (x + 1) (n + 1) = hdA x :: hdB x :: (tl (x + 1) n ++ _)
    rw [h]
theorem tl_len : ∀ (n x : Nat), (tl x n).length = 2 * n
  | 0, _ => rfl
  | n + 1, x => by
    show (tl (x + 1) n).length + 1 + 1 = _
    rw [tl_len n (x + 1)]
    omega
/-- The three parties, when i packets of the first one and j of the second one were said, and l waits for the third. -/
structure MS (a b : Int) (i j : Nat) (l : List Pk) (M : Fm) : Prop where
  np : M.np = 3
  rm : M.room = 64
  u : M.u ≤ i + j
  p0 : ∃ x, M.P 0 = some x ∧ x.sp 1 = knS 2 b j ∧ x.ws.length = j
  p1 : ∃ x, M.P 1 = some x ∧ x.sp 0 = knS 1 a i ∧ x.ws.length = i
  p2 : ∃ x, M.P 2 = some x ∧ x.sp 0 = knS 1 a i ∧ x.sp 1 = knS 2 b j ∧ x.ws = l
theorem at_nat (M : Fm) (n : Nat) : M.at (n : Int) = M.P n := by
  unfold Fm.at
  rw [if_pos (by omega)]
  rfl
theorem has_nat {M : Fm} {n : Nat} (h : n < M.np) : hasB M (n : Int) = true := hasB_iff.2 ⟨by omega, by omega⟩
theorem hear_ok {M : Fm} {n : Nat} (h : n < M.np) {x : Lm} (hx : M.P n = some x) {y : Pk} (hk : y.kd < 128) (hb : y.bs.length ≤ 1188) : hearE M (n : Int) y.kd y.bs.length = 0 ∧ hearM M (n : Int) y = handTo (moreM M) n y M.np ∧ hearN M (n : Int) y = handN (moreM M) n y M.np := by
  have hf : fE y.kd y.bs.length = 0 := by unfold fE; rw [if_neg (by omega), if_neg (by omega)]
  have e : hearE M (n : Int) y.kd y.bs.length = 0 := by
    unfold hearE
    rw [if_neg (by rw [has_nat h]; decide), if_neg (by rw [hf]; decide), at_nat, hx]
    rfl
  refine ⟨e, ?_, ?_⟩
  · unfold hearM
    rw [if_pos e]
    rfl
  · unfold hearN
    rw [if_pos e]
    rfl
theorem take_ok {x : Lm} {n : Nat} {d a : Int} (hd : d = 1 ∨ d = 2) {i : Nat} (hi : i < 16) (hs : x.sp n = knS d a i) (hw : x.ws.length < 64) : takeL x n 64 (sayP d a i) = { x with sp := putN x.sp n (knS d a (i + 1)), ws := x.ws ++ [⟨false, 0, d * (i : Int), 0, (n : Int) + 1, []⟩] } := by
  obtain ⟨h1, h2, h3⟩ := kn_step (a := a) hd hi
  unfold takeL newP
  rw [hs, if_pos h1, if_pos hw, h2, h3]
  rfl
theorem MS.sayA {a b : Int} {i j : Nat} {l : List Pk} {M : Fm} (h : MS a b i j l M) (hi : i < 16) (hl : l.length < 64) : hearE M 0 0 0 = 0 ∧ MS a b (i + 1) j (l ++ [hdA i]) (hearM M 0 (sayP 1 a i)) := by
  obtain ⟨x0, p0, s0, w0⟩ := h.p0
  obtain ⟨x1, p1, s1, w1⟩ := h.p1
  obtain ⟨x2, p2, s2, t2, w2⟩ := h.p2
  obtain ⟨e1, e2, _⟩ := hear_ok (M := M) (n := 0) (by rw [h.np]; decide) p0 (y := sayP 1 a i) (by show (0 : Int) < 128; decide) (by show (0 : Nat) ≤ 1188; decide)
  refine ⟨e1, ?_⟩
  have e2' : hearM M 0 (sayP 1 a i) = handTo (moreM M) 0 (sayP 1 a i) M.np := e2
  rw [e2', h.np]
  have q1 := take_ok (x := x1) (n := 0) (d := 1) (a := a) (.inl rfl) hi s1 (by omega)
  have q2 := take_ok (x := x2) (n := 0) (d := 1) (a := a) (.inl rfl) hi s2 (by rw [w2]; exact hl)
  have r1 : (handTo (moreM M) 0 (sayP 1 a i) 3).P 1 = some (takeL x1 0 64 (sayP 1 a i)) := by
    show (if 1 < 3 ∧ 1 ≠ 0 then (M.P 1).map (fun x => takeL x 0 M.room (sayP 1 a i)) else M.P 1) = _
    rw [if_pos (by decide), p1, h.rm]
    rfl
  have r2 : (handTo (moreM M) 0 (sayP 1 a i) 3).P 2 = some (takeL x2 0 64 (sayP 1 a i)) := by
    show (if 2 < 3 ∧ 2 ≠ 0 then (M.P 2).map (fun x => takeL x 0 M.room (sayP 1 a i)) else M.P 2) = _
    rw [if_pos (by decide), p2, h.rm]
    rfl
  have r0 : (handTo (moreM M) 0 (sayP 1 a i) 3).P 0 = some x0 := p0
  refine ⟨h.np, h.rm, by show M.u + 1 ≤ _; have := h.u; omega, ⟨x0, r0, s0, w0⟩, ⟨_, r1, ?_, ?_⟩, ⟨_, r2, ?_, ?_, ?_⟩⟩
  · rw [q1]; exact putN_same x1.sp 0 (knS 1 a (i + 1))
  · rw [q1]; dsimp only; rw [List.length_append, w1]; rfl
  · rw [q2]; exact putN_same x2.sp 0 (knS 1 a (i + 1))
  · rw [q2]; exact (putN_ne x2.sp (knS 1 a (i + 1)) (show (1 : Nat) ≠ 0 by decide)).trans t2
  · rw [q2]
    dsimp only
    rw [w2]
    congr 2
    unfold hdA
    congr 1
    omega
theorem MS.sayB {a b : Int} {i j : Nat} {l : List Pk} {M : Fm} (h : MS a b i j l M) (hj : j < 16) (hl : l.length < 64) : hearE M 1 0 0 = 0 ∧ MS a b i (j + 1) (l ++ [hdB j]) (hearM M 1 (sayP 2 b j)) := by
  obtain ⟨x0, p0, s0, w0⟩ := h.p0
  obtain ⟨x1, p1, s1, w1⟩ := h.p1
  obtain ⟨x2, p2, s2, t2, w2⟩ := h.p2
  obtain ⟨e1, e2, _⟩ := hear_ok (M := M) (n := 1) (by rw [h.np]; decide) p1 (y := sayP 2 b j) (by show (0 : Int) < 128; decide) (by show (0 : Nat) ≤ 1188; decide)
  refine ⟨e1, ?_⟩
  have e2' : hearM M 1 (sayP 2 b j) = handTo (moreM M) 1 (sayP 2 b j) M.np := e2
  rw [e2', h.np]
  have q1 := take_ok (x := x0) (n := 1) (d := 2) (a := b) (.inr rfl) hj s0 (by omega)
  have q2 := take_ok (x := x2) (n := 1) (d := 2) (a := b) (.inr rfl) hj t2 (by rw [w2]; exact hl)
  have r0 : (handTo (moreM M) 1 (sayP 2 b j) 3).P 0 = some (takeL x0 1 64 (sayP 2 b j)) := by
    show (if 0 < 3 ∧ 0 ≠ 1 then (M.P 0).map (fun x => takeL x 1 M.room (sayP 2 b j)) else M.P 0) = _
    rw [if_pos (by decide), p0, h.rm]
    rfl
  have r2 : (handTo (moreM M) 1 (sayP 2 b j) 3).P 2 = some (takeL x2 1 64 (sayP 2 b j)) := by
    show (if 2 < 3 ∧ 2 ≠ 1 then (M.P 2).map (fun x => takeL x 1 M.room (sayP 2 b j)) else M.P 2) = _
    rw [if_pos (by decide), p2, h.rm]
    rfl
  have r1 : (handTo (moreM M) 1 (sayP 2 b j) 3).P 1 = some x1 := p1
  refine ⟨h.np, h.rm, by show M.u + 1 ≤ _; have := h.u; omega, ⟨_, r0, ?_, ?_⟩, ⟨x1, r1, s1, w1⟩, ⟨_, r2, ?_, ?_, ?_⟩⟩
  · rw [q1]; exact putN_same x0.sp 1 (knS 2 b (j + 1))
  · rw [q1]; dsimp only; rw [List.length_append, w0]; rfl
  · rw [q2]; exact (putN_ne x2.sp (knS 2 b (j + 1)) (show (0 : Nat) ≠ 1 by decide)).trans s2
  · rw [q2]; exact putN_same x2.sp 1 (knS 2 b (j + 1))
  · rw [q2]
    dsimp only
    rw [w2]
    rfl
def LM (j : Nat) : Fm := match j with
  | 0 => newM 3 64
  | j + 1 => listenM (LM j) (j : Int)
theorem lm_ok : ∀ {j : Nat}, j < 3 → listenE (LM j) (j : Int) = 0
  | 0, _ => (show listenE (LM 0) 0 = 0 from by kernel_rfl)
  | 1, _ => (show listenE (LM 1) 1 = 0 from by kernel_rfl)
  | 2, _ => (show listenE (LM 2) 2 = 0 from by kernel_rfl)
  | n + 3, h => absurd h (by omega)
theorem MS.start (a b : Int) : MS a b 0 0 [] (LM 3) := by
  have h : (LM 3).P 0 = some lmZ ∧ (LM 3).P 1 = some lmZ ∧ (LM 3).P 2 = some lmZ := ⟨by kernel_rfl, by kernel_rfl, by kernel_rfl⟩
  exact ⟨by kernel_rfl, by kernel_rfl, of_decide_eq_true (by kernel_rfl), ⟨_, h.1, rfl, rfl⟩, ⟨_, h.2.1, rfl, rfl⟩, ⟨_, h.2.2, rfl, rfl, rfl⟩⟩
/-- While the third one pulls. -/
structure PS (k : Nat) (l : List Pk) (M : Fm) : Prop where
  p0 : ∃ x, M.P 0 = some x ∧ x.ws.length = k
  p1 : ∃ x, M.P 1 = some x ∧ x.ws.length = k
  p2 : ∃ x, M.P 2 = some x ∧ x.ws = l
theorem MS.ps {a b : Int} {k : Nat} {l : List Pk} {M : Fm} (h : MS a b k k l M) : PS k l M := by
  obtain ⟨x0, p0, s0, w0⟩ := h.p0
  obtain ⟨x1, p1, s1, w1⟩ := h.p1
  obtain ⟨x2, p2, s2, t2, w2⟩ := h.p2
  exact ⟨⟨_, p0, w0⟩, ⟨_, p1, w1⟩, ⟨_, p2, w2⟩⟩
theorem PS.pull {k : Nat} {l : List Pk} {M : Fm} (h : PS k l M) : pullI M 2 = l.headD pkZ ∧ pullB M 2 = !l.isEmpty ∧ PS k (l.drop 1) (pullM M 2) := by
  obtain ⟨x2, p2, w2⟩ := h.p2
  have e : M.at 2 = some x2 := (at_nat M 2).trans p2
  unfold pullI pullB pullM
  rw [e]
  dsimp only
  rw [w2]
  refine ⟨rfl, rfl, ?_⟩
  obtain ⟨x0, p0, w0⟩ := h.p0
  obtain ⟨x1, p1, w1⟩ := h.p1
  exact ⟨⟨x0, (putN_ne M.P (some { x2 with ws := l.drop 1 }) (show (0 : Nat) ≠ 2 by decide)).trans p0, w0⟩, ⟨x1, (putN_ne M.P (some { x2 with ws := l.drop 1 }) (show (1 : Nat) ≠ 2 by decide)).trans p1, w1⟩, ⟨{ x2 with ws := l.drop 1 }, putN_same M.P 2 _, rfl⟩⟩
theorem PS.wait {k : Nat} {l : List Pk} {M : Fm} (h : PS k l M) : waitN M 0 = k ∧ waitN M 1 = k := by
  obtain ⟨x0, p0, w0⟩ := h.p0
  obtain ⟨x1, p1, w1⟩ := h.p1
  have e0 : M.at 0 = some x0 := (at_nat M 0).trans p0
  have e1 : M.at 1 = some x1 := (at_nat M 1).trans p1
  unfold waitN
  rw [e0, e1]
  exact ⟨w0, w1⟩
end Go.Proofs.Ytacmfoljbjdcjaa
