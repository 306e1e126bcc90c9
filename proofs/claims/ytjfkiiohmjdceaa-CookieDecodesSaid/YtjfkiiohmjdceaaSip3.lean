/- Package sip: rounds, take, begin, end. -/
import Derived.Test.YtjfkiiohmjdceaaSip2
namespace Go.Proofs.Ytjfkiiohmjdceaa
open Go.RowKit
set_option linter.unusedVariables false

/-- n rounds. -/
def rn : Nat → V4 → V4
  | 0, v => v
  | n + 1, v => rnd (rn n v)
theorem Round_any (v u : V4) (h : Hid (rnd v = u)) (w : World) :
    Calls Try.prog 48 #[.agg #[.int .u64 (v.a.toNat : Int), .int .u64 (v.b.toNat : Int), .int .u64 (v.c.toNat : Int), .int .u64 (v.d.toNat : Int)]] w fun e w' => e = .returned (.agg #[.int .u64 (u.a.toNat : Int), .int .u64 (u.b.toNat : Int), .int .u64 (u.c.toNat : Int), .int .u64 (u.d.toNat : Int)]) ∧ Below w.heap.size w w' := by
  have := Round_some v.a v.b v.c v.d w
  rw [show (⟨v.a, v.b, v.c, v.d⟩ : V4) = v from rfl, h.out] at this
  exact this

set_option maxRecDepth 100000 in
theorem rounds_any (v : V4) (n : Nat) (hn : n < 100) (w : World) :
    Calls Try.prog 44 #[.agg #[.int .u64 (v.a.toNat : Int), .int .u64 (v.b.toNat : Int), .int .u64 (v.c.toNat : Int), .int .u64 (v.d.toNat : Int)], .int .i64 n] w fun e w' => e = .returned (.agg #[.int .u64 ((rn n v).a.toNat : Int), .int .u64 ((rn n v).b.toNat : Int), .int .u64 ((rn n v).c.toNat : Int), .int .u64 ((rn n v).d.toNat : Int)]) ∧ Below w.heap.size w w' := by
  go_enter Try.func44, Try.ntmps44
  go_wp2_with fail
  go_loopw [6] (fun i wr => ∃ j : Nat, j ≤ n ∧ i = .int .i64 j ∧ Hid (At wr w.heap.size (rn j v) ∧ At wr (w.heap.size + 1) .zero ∧ Below w.heap.size w wr)) (fun i _ => n - (intOf i).toNat)
  case atStart => exact ⟨0, Nat.zero_le _, rfl, heap_alloc2_old w _ _, heap_alloc2_new w _ _, (below_lay w _).alloc (by simp) _⟩
  case round =>
    obtain ⟨j, hj, rfl, hr⟩ := hrel
    obtain ⟨u, hu⟩ : ∃ u, rn j v = u := ⟨_, rfl⟩
    have hA := hr.out.1
    rw [hu] at hA
    have HA := keep hA
    obtain ⟨⟨k0, k1, k2, k3⟩, f0, f1, f2, f3⟩ := hA.all
    clear hA
    by_cases hlt : j < n
    · obtain ⟨x, hx⟩ : ∃ x, rnd u = x := ⟨_, rfl⟩
      have hX := keep hx
      have hs : Hid (rn (j + 1) v = x) := by show rnd (rn j v) = x; rw [hu, hx]
      clear hu hx
      go_wp2_with (go_at_call 48; refine (Round_any u x hX _).mono ?_; rintro e w2 ⟨rfl, hb2⟩
                   have hA2 := HA.out.step hb2
                   obtain ⟨⟨q0, q1, q2, q3⟩, p0, p1, p2, p3⟩ := hA2.all
                   replace hA2 := keep hA2
                   replace hb2 := keep hb2
                   clear k0 k1 k2 k3 f0 f1 f2 f3)
      go_roundw
      case rel =>
        refine ⟨j + 1, by omega, by go_num, ?_⟩
        rw [hs.out]
        refine ⟨hA2.out.lay x, (hr.out.2.1.step hb2.out).else_ (by omega) _ _ _ _, below4 (hr.out.2.2.trans (hb2.out.mono hr.out.2.2.size)) (Nat.le_refl _) _ _ _ _⟩
      case measure => simp [intOf]; omega
    · obtain rfl : j = n := by omega
      obtain ⟨⟨q0, q1, q2, q3⟩, p0, p1, p2, p3⟩ := hr.out.2.1.all
      have hU := keep hu
      clear hu
      go_wp2_with fail
      refine bodyPost_ret (ret4 rfl _ _ (w.heap.size + 1) u rfl (hr.out.2.1.lay u)) rfl ⟨?_, below4 hr.out.2.2 (by omega) _ _ _ _⟩
      rw [hU.out]
      rfl
theorem rounds_at (a b c d : BitVec 64) (u : V4) (n : Nat) (k : Int) (hk : k = n) (hn : n < 100) (h : Hid (rn n ⟨a, b, c, d⟩ = u)) (w : World) :
    Calls Try.prog 44 #[.agg #[.int .u64 (a.toNat : Int), .int .u64 (b.toNat : Int), .int .u64 (c.toNat : Int), .int .u64 (d.toNat : Int)], .int .i64 k] w fun e w' => e = .returned (.agg #[.int .u64 (u.a.toNat : Int), .int .u64 (u.b.toNat : Int), .int .u64 (u.c.toNat : Int), .int .u64 (u.d.toNat : Int)]) ∧ Below w.heap.size w w' := by
  subst hk
  have := rounds_any ⟨a, b, c, d⟩ n hn w
  rw [h.out] at this
  exact this

/-- A word is taken. -/
def tk (v : V4) (x : BitVec 64) : V4 :=
  let u := rn 2 ⟨v.a, v.b, v.c, v.d ^^^ x⟩
  ⟨u.a ^^^ x, u.b, u.c, u.d⟩
set_option maxRecDepth 100000 in
theorem take_any (v u : V4) (x : BitVec 64) (h : Hid (tk v x = u)) (w : World) :
    Calls Try.prog 36 #[.agg #[.int .u64 (v.a.toNat : Int), .int .u64 (v.b.toNat : Int), .int .u64 (v.c.toNat : Int), .int .u64 (v.d.toNat : Int)], .int .u64 (x.toNat : Int)] w fun e w' => e = .returned (.agg #[.int .u64 (u.a.toNat : Int), .int .u64 (u.b.toNat : Int), .int .u64 (u.c.toNat : Int), .int .u64 (u.d.toNat : Int)]) ∧ Below w.heap.size w w' := by
  obtain ⟨y, hy⟩ : ∃ y, v.d ^^^ x = y := ⟨_, rfl⟩
  obtain ⟨r, hr⟩ : ∃ r, rn 2 ⟨v.a, v.b, v.c, y⟩ = r := ⟨_, rfl⟩
  obtain ⟨z, hz⟩ : ∃ z, r.a ^^^ x = z := ⟨_, rfl⟩
  have X1 := xor64 v.d x
  rw [hy] at X1
  have X2 := xor64 r.a x
  rw [hz] at X2
  have hu : Hid (u = ⟨z, r.b, r.c, r.d⟩) := by
    show _ = _
    rw [← h.out]
    unfold tk
    simp only [hy, hr, hz]
  have hR := keep hr
  clear hy hr hz h
  go_enter Try.func36, Try.ntmps36
  go_wp2_with (go_at_call 44; refine (rounds_at _ _ _ _ r 2 _ rfl (by decide) hR _).mono ?_; rintro e w2 ⟨rfl, hb2⟩
               have hA := keep ((show At _ w.heap.size ⟨v.a, v.b, v.c, y⟩ from heap_alloc2_old w _ _).step hb2)
               have hZ := keep ((show At _ (w.heap.size + 1) .zero from heap_alloc2_new w _ _).step hb2)
               have hB := keep ((((Below.refl w.heap.size w).alloc (Nat.le_refl _) _).alloc (by simp) _).trans (hb2.mono (by simp; omega)))
               obtain ⟨⟨k0, k1, k2, k3⟩, f0, f1, f2, f3⟩ := hA.out.all
               obtain ⟨⟨q0, q1, q2, q3⟩, p0, p1, p2, p3⟩ := hZ.out.all
               clear hb2)
  rw [hu.out]
  have hZ' := (hZ.out.else_ (g := w.heap.size) (by omega) (.int .u64 (r.a.toNat : Int)) (.int .u64 (r.b.toNat : Int)) (.int .u64 (r.c.toNat : Int)) (.int .u64 (r.d.toNat : Int)))
  have hZ2 := At.apart hZ' ⟨w.heap.size, 0, none⟩ (.int .u64 (z.toNat : Int)) (by show w.heap.size + 1 ≠ w.heap.size; omega)
  exact bodyPost_ret (ret4 rfl _ _ (w.heap.size + 1) ⟨z, r.b, r.c, r.d⟩ rfl (hZ2.lay ⟨z, r.b, r.c, r.d⟩)) rfl ⟨rfl, below4 ((below4 hB.out (Nat.le_refl _) _ _ _ _).setCell (p := ⟨w.heap.size, 0, none⟩) (Nat.le_refl _) _) (by omega) _ _ _ _⟩

/-- The four numbers ahead of the first word. -/
def beg (k m : BitVec 64) : V4 := ⟨k ^^^ 8317987319222330741, m ^^^ 7237128888997146477, k ^^^ 7816392313619706465, m ^^^ 8387220255154660723⟩
set_option maxRecDepth 100000 in
theorem begin_any (k m : BitVec 64) (u : V4) (h : Hid (beg k m = u)) (w : World) :
    Calls Try.prog 34 #[.int .u64 (k.toNat : Int), .int .u64 (m.toNat : Int)] w fun e w' => e = .returned (.agg #[.int .u64 (u.a.toNat : Int), .int .u64 (u.b.toNat : Int), .int .u64 (u.c.toNat : Int), .int .u64 (u.d.toNat : Int)]) ∧ Below w.heap.size w w' := by
  obtain ⟨a, b, c, d⟩ := u
  have X1 := xor64 k 8317987319222330741
  have X2 := xor64 m 7237128888997146477
  have X3 := xor64 k 7816392313619706465
  have X4 := xor64 m 8387220255154660723
  obtain ⟨h1, h2, h3, h4⟩ : k ^^^ 8317987319222330741 = a ∧ m ^^^ 7237128888997146477 = b ∧ k ^^^ 7816392313619706465 = c ∧ m ^^^ 8387220255154660723 = d := by
    have := h.out
    unfold beg at this
    injection this with h1 h2 h3 h4
    exact ⟨h1, h2, h3, h4⟩
  rw [h1] at X1
  rw [h2] at X2
  rw [h3] at X3
  rw [h4] at X4
  replace X1 : bits .xor .u64 (k.toNat : Int) 8317987319222330741 = a.toNat := X1
  replace X2 : bits .xor .u64 (m.toNat : Int) 7237128888997146477 = b.toNat := X2
  replace X3 : bits .xor .u64 (k.toNat : Int) 7816392313619706465 = c.toNat := X3
  replace X4 : bits .xor .u64 (m.toNat : Int) 8387220255154660723 = d.toNat := X4
  clear h1 h2 h3 h4 h
  go_enter Try.func34, Try.ntmps34
  go_wp2_with fail
  exact bodyPost_ret (ret4 rfl _ _ w.heap.size ⟨a, b, c, d⟩ rfl (heap_alloc_new w _)) rfl ⟨rfl, below_lay w _⟩

/-- The code, behind the last word. -/
def fin (v : V4) : BitVec 64 :=
  let u := rn 4 ⟨v.a, v.b, v.c ^^^ 255, v.d⟩
  u.a ^^^ u.b ^^^ u.c ^^^ u.d
set_option maxRecDepth 100000 in
theorem end_any (v : V4) (x : BitVec 64) (h : Hid (fin v = x)) (w : World) :
    Calls Try.prog 37 #[.agg #[.int .u64 (v.a.toNat : Int), .int .u64 (v.b.toNat : Int), .int .u64 (v.c.toNat : Int), .int .u64 (v.d.toNat : Int)]] w fun e w' => e = .returned (.int .u64 (x.toNat : Int)) ∧ Below w.heap.size w w' := by
  obtain ⟨y, hy⟩ : ∃ y, v.c ^^^ 255 = y := ⟨_, rfl⟩
  obtain ⟨r, hr⟩ : ∃ r, rn 4 ⟨v.a, v.b, y, v.d⟩ = r := ⟨_, rfl⟩
  obtain ⟨z1, h1⟩ : ∃ z, r.a ^^^ r.b = z := ⟨_, rfl⟩
  obtain ⟨z2, h2⟩ : ∃ z, z1 ^^^ r.c = z := ⟨_, rfl⟩
  obtain ⟨z3, h3⟩ : ∃ z, z2 ^^^ r.d = z := ⟨_, rfl⟩
  have X1 := xor64 v.c 255
  rw [hy] at X1
  replace X1 : bits .xor .u64 (v.c.toNat : Int) 255 = y.toNat := X1
  have Y1 := xor64 r.a r.b
  rw [h1] at Y1
  have Y2 := xor64 z1 r.c
  rw [h2] at Y2
  have Y3 := xor64 z2 r.d
  rw [h3] at Y3
  have hx : Hid (z3 = x) := by
    show _ = _
    rw [← h.out]
    unfold fin
    simp only [hy, hr, h1, h2, h3]
  have hR := keep hr
  clear hy hr h1 h2 h3 h
  go_enter Try.func37, Try.ntmps37
  go_wp2_with (go_at_call 44; refine (rounds_at _ _ _ _ r 4 _ rfl (by decide) hR _).mono ?_; rintro e w2 ⟨rfl, hb2⟩
               have hA := keep ((show At _ w.heap.size ⟨v.a, v.b, y, v.d⟩ from heap_alloc_new w _).step hb2)
               have hB := keep ((below_lay w _).trans (hb2.mono (by simp)))
               obtain ⟨⟨k0, k1, k2, k3⟩, f0, f1, f2, f3⟩ := hA.out.all
               clear hb2)
  go_ret
  rw [hx.out]
  exact ⟨rfl, below4 hB.out (Nat.le_refl _) _ _ _ _⟩
end Go.Proofs.Ytjfkiiohmjdceaa
