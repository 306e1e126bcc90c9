/- cookie.numbers: what its iterator hands on, for every loop body that keeps states' and numbers' blocks as they were. -/
import Derived.Test.YtjfkiiohmjdceaaK1
import Derived.Test.YtjfkiiohmjdceaaRange
import Derived.Shelf.RegionOpen
import Derived.OwnWalkIn
import Derived.TacticsInMore
import Derived.LoopNIn
import Derived.LoopIn
namespace Go.Proofs.Ytjfkiiohmjdceaa
open Go.RowKit
attribute [local go_sem] Oper.semAt_some
set_option linter.unusedVariables false

/-- States' and numbers' blocks are as they were. -/
structure KN (A B : World) : Prop where
  all : ∀ (k : Nat) cs t fr, (t = 28 ∨ t = 54) → A.heap[k]? = some (.cells cs t fr) → B.heap[k]? = some (.cells cs t fr)
theorem KN.refl (A : World) : KN A A := ⟨fun _ _ _ _ _ h => h⟩
theorem KN.trans {A B C : World} (h : KN A B) (k : KN B C) : KN A C := ⟨fun i cs t fr ht hi => k.all i cs t fr ht (h.all i cs t fr ht hi)⟩
theorem KN.of_below {A B : World} (h : Below A.heap.size A B) : KN A B := ⟨fun i cs t fr _ hi => (h.block i (Array.getElem?_eq_some_iff.1 hi).1).trans hi⟩
theorem KN.putObj {A : World} {l : Nat} {o : Obj} (o' : Obj) (h : A.heap[l]? = some o) (ho : o.isCells = false) : KN A (A.putObj l o') :=
  ⟨fun k cs t fr _ hk => by
    refine (World.putObj_heap_other fun e => ?_).trans hk
    subst e
    rw [h] at hk
    cases hk
    cases ho⟩
/-- The three blocks of the iterator's. -/
structure NB (W : World) (B1 B2 B3 : Nat) (s : CS) : Prop where
  b1 : W.heap[B1]? = some (.cells #[.int .u64 s.made] 54 (0, 0))
  b2 : W.heap[B2]? = some (.cells #[.int .u64 s.life] 54 (0, 0))
  b3 : W.heap[B3]? = some (.cells s.cells 28 (0, 0))
theorem NB.kept {A B : World} {B1 B2 B3 : Nat} {s : CS} (h : NB A B1 B2 B3 s) (k : KN A B) : NB B B1 B2 B3 s :=
  ⟨k.all _ _ _ _ (.inr rfl) h.b1, k.all _ _ _ _ (.inr rfl) h.b2, k.all _ _ _ _ (.inl rfl) h.b3⟩
theorem NB.c1 {W : World} {B1 B2 B3 : Nat} {s : CS} (h : NB W B1 B2 B3 s) : W.cell? ⟨B1, 0, none⟩ = some (.int .u64 s.made) := by rw [cell_of_row _ _ _ _ _ _ h.b1]; rfl
theorem NB.c2 {W : World} {B1 B2 B3 : Nat} {s : CS} (h : NB W B1 B2 B3 s) : W.cell? ⟨B2, 0, none⟩ = some (.int .u64 s.life) := by rw [cell_of_row _ _ _ _ _ _ h.b2]; rfl
theorem NB.c3 {W : World} {B1 B2 B3 : Nat} {s : CS} (h : NB W B1 B2 B3 s) (j : Nat) (v : Value) (hv : s.cells[j]? = some v) : W.cell? ⟨B3, j, none⟩ = some v := by rw [cell_of_row _ _ _ _ _ _ h.b3]; exact hv

theorem three_new (w : World) (a b c : Obj) : (((w.alloc a).alloc b).alloc c).drew.heap[w.heap.size]? = some a ∧ (((w.alloc a).alloc b).alloc c).drew.heap[w.heap.size + 1]? = some b ∧ (((w.alloc a).alloc b).alloc c).drew.heap[w.heap.size + 1 + 1]? = some c := by
  have h2 := heap_alloc_new ((w.alloc a).alloc b) c
  have h1 := heap_alloc_new (w.alloc a) b
  simp only [World.size_alloc] at h1 h2
  refine ⟨?_, ?_, h2⟩
  · rw [heap_drew, heap_alloc_old _ _ (by simp; omega), heap_alloc_old _ _ (by simp)]
    exact heap_alloc_new w a
  · rw [heap_drew, heap_alloc_old _ _ (by simp)]
    exact h1
theorem three_below (w : World) (a b c : Obj) : Below w.heap.size w (((w.alloc a).alloc b).alloc c).drew := ((((Below.refl _ w).alloc (Nat.le_refl _) _).alloc (by simp) _).alloc (by simp; omega) _).drew
theorem nb_new (w : World) (s : CS) : NB (((w.alloc (.cells s.cells 28)).alloc (.cells #[.int .u64 s.made] 54)).alloc (.cells #[.int .u64 s.life] 54)).drew (w.heap.size + 1) (w.heap.size + 1 + 1) w.heap.size s ∧
    Below w.heap.size w (((w.alloc (.cells s.cells 28)).alloc (.cells #[.int .u64 s.made] 54)).alloc (.cells #[.int .u64 s.life] 54)).drew ∧ w.heap.size ≤ w.heap.size + 1 ∧ w.heap.size ≤ w.heap.size + 1 + 1 := by
  obtain ⟨h0, h1, h2⟩ := three_new w (.cells s.cells 28) (.cells #[.int .u64 s.made] 54) (.cells #[.int .u64 s.life] 54)
  exact ⟨⟨h1, h2, h0⟩, three_below w _ _ _, by omega, by omega⟩
theorem nb_new' (w : World) (s : CS) : NB (((w.alloc (.cells s.cells 28)).alloc (.cells #[.int .u64 s.life] 54)).alloc (.cells #[.int .u64 s.made] 54)).drew (w.heap.size + 1 + 1) (w.heap.size + 1) w.heap.size s ∧
    Below w.heap.size w (((w.alloc (.cells s.cells 28)).alloc (.cells #[.int .u64 s.life] 54)).alloc (.cells #[.int .u64 s.made] 54)).drew ∧ w.heap.size ≤ w.heap.size + 1 + 1 ∧ w.heap.size ≤ w.heap.size + 1 := by
  obtain ⟨h0, h1, h2⟩ := three_new w (.cells s.cells 28) (.cells #[.int .u64 s.life] 54) (.cells #[.int .u64 s.made] 54)
  exact ⟨⟨h2, h1, h0⟩, three_below w _ _ _, by omega, by omega⟩

theorem numbers_any (s : CS) (hm : s.may) (w : World) :
    Calls Try.prog 19 #[.agg s.cells] w fun e w' => ∃ B1 B2 B3, e = .returned (.func (.func 32) #[] #[.pointer (some ⟨B1, 0, none⟩), .pointer (some ⟨B2, 0, none⟩), .pointer (some ⟨B3, 0, none⟩)]) ∧ NB w' B1 B2 B3 s ∧ Below w.heap.size w w' ∧ w.heap.size ≤ B1 ∧ w.heap.size ≤ B2 ∧ w.heap.size ≤ B3 := by
  obtain ⟨made, life, tag, peer, fst, pf, room, out, inn, t0, t1⟩ := s
  obtain ⟨⟨m0, m1⟩, l0, l1⟩ := hm
  dsimp only at m0 m1 l0 l1
  dsimp only [CS.cells]
  have w1 : IntKind.u64.wrap made = made := by rw [IntKind.wrap_u64]; omega
  have w2 : IntKind.u64.wrap life = life := by rw [IntKind.wrap_u64]; omega
  replace w1 := keep w1
  replace w2 := keep w2
  go_enter Try.func19, Try.ntmps19
  go_wp2_with fail
  go_cut [3, 4] from 5 to 11 (fun x y wx => ∃ B1 B2, x = .pointer (some ⟨B1, 0, none⟩) ∧ y = .pointer (some ⟨B2, 0, none⟩) ∧ Hid (NB wx B1 B2 w.heap.size ⟨made, life, tag, peer, fst, pf, room, out, inn, t0, t1⟩ ∧ Below w.heap.size w wx ∧ w.heap.size ≤ B1 ∧ w.heap.size ≤ B2))
  case first =>
    go_region_with fail
    all_goals (try go_wp2_with fail)
    all_goals go_meet
    all_goals rw [w1.out, w2.out]
    all_goals first | exact ⟨_, _, rfl, rfl, keep (nb_new w ⟨made, life, tag, peer, fst, pf, room, out, inn, t0, t1⟩)⟩ | exact ⟨_, _, rfl, rfl, keep (nb_new' w ⟨made, life, tag, peer, fst, pf, room, out, inn, t0, t1⟩)⟩
  case rest =>
    obtain ⟨B1, B2, rfl, rfl, H⟩ := hcut
    go_wp2_with fail
    go_ret
    obtain ⟨h1, h2, h3, h4⟩ := H.out
    exact ⟨B1, B2, w.heap.size, rfl, h1, h2, h3, h4, Nat.le_refl _⟩

theorem or_low32 (a x : Int) (h0 : 0 ≤ a) (h1 : a < 65536) (h2 : 0 ≤ x) (h3 : x < 65536) : bits .or .u32 (a * 65536) x = a * 65536 + x := by
  obtain ⟨m, rfl⟩ := Int.eq_ofNat_of_zero_le h0
  obtain ⟨k, rfl⟩ := Int.eq_ofNat_of_zero_le h2
  have h := Nat.shiftLeft_add_eq_or_of_lt (i := 16) (show k < 2 ^ 16 by omega) m
  rw [Nat.shiftLeft_eq] at h
  have e : (m : Int) * 65536 = ((m * 2 ^ 16 : Nat) : Int) := by omega
  rw [e, u32_or_nat _ _ (by omega) (by omega), ← h]
  omega

abbrev encN (x : Int) : Array Value := #[.int .u32 x]
/-- What comes is the next number. -/
def Next (s : CS) (xs : List Int) (x : Int) (W : World) : Prop := ∃ r, nums s = xs ++ x :: r

set_option maxRecDepth 100000 in
set_option maxHeartbeats 4000000 in
theorem numbers1_in (l B1 B2 B3 : Nat) (s : CS) (hs : s.ok) (hm : s.may) (K : List Int → World → Prop) (W : World) (hB : NB W B1 B2 B3 s)
    (hY : ∀ xs x W1, K xs W1 → Next s xs x W1 → YieldAt Fence.wide (2 - 1) Try.prog l (encN x) W1 fun e W' => e = .returned (.bool true) ∧ K (xs ++ [x]) W' ∧ KN W1 W')
    (h0 : K [] W) :
    CallsIn Fence.wide 2 Try.prog 32 #[.func (.yield l) #[] #[], .pointer (some ⟨B1, 0, none⟩), .pointer (some ⟨B2, 0, none⟩), .pointer (some ⟨B3, 0, none⟩)] W fun e W' => (∃ v, e = .returned v) ∧ ∃ xs, xs = nums s ∧ K xs W' := by
  obtain ⟨made, life, tag, peer, fst, pf, room, out, inn, t0, t1⟩ := s
  have m0 := hm.1.1
  have m1 := hm.1.2
  have l0 := hm.2.1
  have l1 := hm.2.2
  have o0 := hs.out
  have i0 := hs.inn
  dsimp only at m0 m1 l0 l1 o0 i0
  have HO := keep (or_low32 out inn o0.1 o0.2 i0.1 i0.2)
  have H1 := keep (high_any made (by omega) (by omega))
  have H2 := keep (low_any made (by omega) (by omega))
  have H3 := keep (high_any life (by omega) (by omega))
  have H4 := keep (low_any life (by omega) (by omega))
  have F1 : Fence.wide.fn 22 := trivial
  have F2 : Fence.wide.fn 23 := trivial
  clear hs hm
  refine callsIn_of_wp Try.func32 rfl trivial ?_ rfl
  simp only [Try.ntmps32, List.size_toArray, List.length_cons, List.length_nil, Nat.reduceAdd, Nat.reduceSub, Array.replicate_succ, Array.replicate_zero, List.push_toArray, List.append_toArray, List.nil_append, List.cons_append]
  -- 0
  have hc := hB.c1
  obtain ⟨fn0, tm0, as0, bd0, hy, hR0⟩ := hY [] (made / 4294967296) W h0 ⟨[made % 4294967296, life / 4294967296, life % 4294967296, tag, peer, fst, pf, room, t0, t1, out * 65536 + inn], rfl⟩
  replace hy : (Instr.yield l #[.int .u32 (made / 4294967296)]).run Try.prog W = .ok (.round l fn0 tm0 as0 bd0) W := hy
  replace hR0 := keep hR0
  gi_wp2_with (gi_at_call 22; refine (callsIn_wide.2 (H1.out _)).mono ?_; rintro e w2 ⟨rfl, rfl⟩)
  refine hR0.out.mono ?_
  rintro e W1 ⟨rfl, hJ1, hk1⟩
  have hB1 := hB.kept hk1
  clear hy hR0 hk1 hB hc H1
  -- 1
  have hc := hB1.c1
  obtain ⟨fn1, tm1, as1, bd1, hy, hR1⟩ := hY [made / 4294967296] (made % 4294967296) W1 hJ1 ⟨[life / 4294967296, life % 4294967296, tag, peer, fst, pf, room, t0, t1, out * 65536 + inn], rfl⟩
  replace hy : (Instr.yield l #[.int .u32 (made % 4294967296)]).run Try.prog W1 = .ok (.round l fn1 tm1 as1 bd1) W1 := hy
  replace hR1 := keep hR1
  gi_wp2_with (gi_at_call 23; refine (callsIn_wide.2 (H2.out _)).mono ?_; rintro e w2 ⟨rfl, rfl⟩)
  refine hR1.out.mono ?_
  rintro e W2 ⟨rfl, hJ2, hk2⟩
  have hB2 := hB1.kept hk2
  clear hy hR1 hk2 hB1 hc H2
  -- 2
  have hc := hB2.c2
  obtain ⟨fn2, tm2, as2, bd2, hy, hR2⟩ := hY [made / 4294967296, made % 4294967296] (life / 4294967296) W2 hJ2 ⟨[life % 4294967296, tag, peer, fst, pf, room, t0, t1, out * 65536 + inn], rfl⟩
  replace hy : (Instr.yield l #[.int .u32 (life / 4294967296)]).run Try.prog W2 = .ok (.round l fn2 tm2 as2 bd2) W2 := hy
  replace hR2 := keep hR2
  gi_wp2_with (gi_at_call 22; refine (callsIn_wide.2 (H3.out _)).mono ?_; rintro e w2 ⟨rfl, rfl⟩)
  refine hR2.out.mono ?_
  rintro e W3 ⟨rfl, hJ3, hk3⟩
  have hB3 := hB2.kept hk3
  clear hy hR2 hk3 hB2 hc H3
  -- 3
  have hc := hB3.c2
  obtain ⟨fn3, tm3, as3, bd3, hy, hR3⟩ := hY [made / 4294967296, made % 4294967296, life / 4294967296] (life % 4294967296) W3 hJ3 ⟨[tag, peer, fst, pf, room, t0, t1, out * 65536 + inn], rfl⟩
  replace hy : (Instr.yield l #[.int .u32 (life % 4294967296)]).run Try.prog W3 = .ok (.round l fn3 tm3 as3 bd3) W3 := hy
  replace hR3 := keep hR3
  gi_wp2_with (gi_at_call 23; refine (callsIn_wide.2 (H4.out _)).mono ?_; rintro e w2 ⟨rfl, rfl⟩)
  refine hR3.out.mono ?_
  rintro e W4 ⟨rfl, hJ4, hk4⟩
  have hB4 := hB3.kept hk4
  clear hy hR3 hk4 hB3 hc H4
  -- 4
  have hc := hB4.c3 2 (.int .u32 tag) rfl
  obtain ⟨fn4, tm4, as4, bd4, hy, hR4⟩ := hY [made / 4294967296, made % 4294967296, life / 4294967296, life % 4294967296] (tag) W4 hJ4 ⟨[peer, fst, pf, room, t0, t1, out * 65536 + inn], rfl⟩
  replace hy : (Instr.yield l #[.int .u32 (tag)]).run Try.prog W4 = .ok (.round l fn4 tm4 as4 bd4) W4 := hy
  replace hR4 := keep hR4
  gi_wp2
  refine hR4.out.mono ?_
  rintro e W5 ⟨rfl, hJ5, hk5⟩
  have hB5 := hB4.kept hk5
  clear hy hR4 hk5 hB4 hc
  -- 5
  have hc := hB5.c3 3 (.int .u32 peer) rfl
  obtain ⟨fn5, tm5, as5, bd5, hy, hR5⟩ := hY [made / 4294967296, made % 4294967296, life / 4294967296, life % 4294967296, tag] (peer) W5 hJ5 ⟨[fst, pf, room, t0, t1, out * 65536 + inn], rfl⟩
  replace hy : (Instr.yield l #[.int .u32 (peer)]).run Try.prog W5 = .ok (.round l fn5 tm5 as5 bd5) W5 := hy
  replace hR5 := keep hR5
  gi_wp2
  refine hR5.out.mono ?_
  rintro e W6 ⟨rfl, hJ6, hk6⟩
  have hB6 := hB5.kept hk6
  clear hy hR5 hk6 hB5 hc
  -- 6
  have hc := hB6.c3 4 (.int .u32 fst) rfl
  obtain ⟨fn6, tm6, as6, bd6, hy, hR6⟩ := hY [made / 4294967296, made % 4294967296, life / 4294967296, life % 4294967296, tag, peer] (fst) W6 hJ6 ⟨[pf, room, t0, t1, out * 65536 + inn], rfl⟩
  replace hy : (Instr.yield l #[.int .u32 (fst)]).run Try.prog W6 = .ok (.round l fn6 tm6 as6 bd6) W6 := hy
  replace hR6 := keep hR6
  gi_wp2
  refine hR6.out.mono ?_
  rintro e W7 ⟨rfl, hJ7, hk7⟩
  have hB7 := hB6.kept hk7
  clear hy hR6 hk7 hB6 hc
  -- 7
  have hc := hB7.c3 5 (.int .u32 pf) rfl
  obtain ⟨fn7, tm7, as7, bd7, hy, hR7⟩ := hY [made / 4294967296, made % 4294967296, life / 4294967296, life % 4294967296, tag, peer, fst] (pf) W7 hJ7 ⟨[room, t0, t1, out * 65536 + inn], rfl⟩
  replace hy : (Instr.yield l #[.int .u32 (pf)]).run Try.prog W7 = .ok (.round l fn7 tm7 as7 bd7) W7 := hy
  replace hR7 := keep hR7
  gi_wp2
  refine hR7.out.mono ?_
  rintro e W8 ⟨rfl, hJ8, hk8⟩
  have hB8 := hB7.kept hk8
  clear hy hR7 hk8 hB7 hc
  -- 8
  have hc := hB8.c3 6 (.int .u32 room) rfl
  obtain ⟨fn8, tm8, as8, bd8, hy, hR8⟩ := hY [made / 4294967296, made % 4294967296, life / 4294967296, life % 4294967296, tag, peer, fst, pf] (room) W8 hJ8 ⟨[t0, t1, out * 65536 + inn], rfl⟩
  replace hy : (Instr.yield l #[.int .u32 (room)]).run Try.prog W8 = .ok (.round l fn8 tm8 as8 bd8) W8 := hy
  replace hR8 := keep hR8
  gi_wp2
  refine hR8.out.mono ?_
  rintro e W9 ⟨rfl, hJ9, hk9⟩
  have hB9 := hB8.kept hk9
  clear hy hR8 hk9 hB8 hc
  -- 9
  have hc := hB9.c3 9 (.int .u32 t0) rfl
  obtain ⟨fn9, tm9, as9, bd9, hy, hR9⟩ := hY [made / 4294967296, made % 4294967296, life / 4294967296, life % 4294967296, tag, peer, fst, pf, room] (t0) W9 hJ9 ⟨[t1, out * 65536 + inn], rfl⟩
  replace hy : (Instr.yield l #[.int .u32 (t0)]).run Try.prog W9 = .ok (.round l fn9 tm9 as9 bd9) W9 := hy
  replace hR9 := keep hR9
  gi_wp2
  refine hR9.out.mono ?_
  rintro e W10 ⟨rfl, hJ10, hk10⟩
  have hB10 := hB9.kept hk10
  clear hy hR9 hk10 hB9 hc
  -- 10
  have hc := hB10.c3 10 (.int .u32 t1) rfl
  obtain ⟨fn10, tm10, as10, bd10, hy, hR10⟩ := hY [made / 4294967296, made % 4294967296, life / 4294967296, life % 4294967296, tag, peer, fst, pf, room, t0] (t1) W10 hJ10 ⟨[out * 65536 + inn], rfl⟩
  replace hy : (Instr.yield l #[.int .u32 (t1)]).run Try.prog W10 = .ok (.round l fn10 tm10 as10 bd10) W10 := hy
  replace hR10 := keep hR10
  gi_wp2
  refine hR10.out.mono ?_
  rintro e W11 ⟨rfl, hJ11, hk11⟩
  have hB11 := hB10.kept hk11
  clear hy hR10 hk11 hB10 hc
  -- 11
  have hc := hB11.c3 7 (.int .u16 out) rfl
  have hc' := hB11.c3 8 (.int .u16 inn) rfl
  obtain ⟨fn11, tm11, as11, bd11, hy, hR11⟩ := hY [made / 4294967296, made % 4294967296, life / 4294967296, life % 4294967296, tag, peer, fst, pf, room, t0, t1] (out * 65536 + inn) W11 hJ11 ⟨[], rfl⟩
  replace hy : (Instr.yield l #[.int .u32 (out * 65536 + inn)]).run Try.prog W11 = .ok (.round l fn11 tm11 as11 bd11) W11 := hy
  replace hR11 := keep hR11
  have HO' := HO.out
  gi_wp2
  refine hR11.out.mono ?_
  rintro e W12 ⟨rfl, hJ12, hk12⟩
  have hB12 := hB11.kept hk12
  clear hy hR11 hk12 hB11 hc hc'
  gi_wp2
  go_end0
  exact ⟨⟨_, rfl⟩, _, rfl, hJ12⟩
end Go.Proofs.Ytjfkiiohmjdceaa
