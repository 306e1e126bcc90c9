/- Whether a chunk may stand in a queue; an append that tells where the row lies. -/
import Derived.Test.YtbkepkiaabeliaaQ11
import Derived.Maps.AppendAt
namespace Go.Proofs.Ytbkepkiaabeliaa
open Go.RowKit Go.Maps
set_option linter.unusedVariables false

/-- An append as a step of a region that draws its order; where the row lies then. -/
theorem step_appendA {P : Program} {w : World} {ops : Array Oper} {o : Oper} {a : Act} {Q : Exit → Act → World → Prop} {S : Nat} {K : Act → World → Prop} {E : Prop} (hS : 0 < S) (hgd : o.guard = none) (s x : Operand) (t : TypeId) (ho : o.op = .call { callee := .builtin .append, args := #[s, x], argTypes := #[t, t] })
    (base : Nat) (e : TypeId) (i : TypeInfo) (z : Value) (ht : P.underlying t = some (.slice e)) (hi : P.info? e = some i) (hz : i.zero = some z) (hsize : i.size = S) (hz1 : z.cells.size = S)
    (v : Value) (n : Nat) (xs : List Value) (hs : a.eval s = v) (hown : w.ownsRow base e S v n xs) (b : Addr) (m c : Nat) (news : List Value) (hx : a.eval x = .slice (some b) m c) (hm : news.length = m * S) (hr : ∀ j u, news[j]? = some u → w.cell? (b.add j) = some u) (h1 : ∀ u ∈ news, u.oneCell' = true)
    (h63 : n + m ≤ maxLen) (hbytes : (n + m) * i.bytes ≤ 140737488355328) (hbase : base ≤ w.heap.size)
    (h : ∀ A' c' w', w'.ownsRow base e S (.slice A' (n + m) c') (n + m) (xs ++ news) → w.grownBy w' v.ownBlock → ((Value.slice A' (n + m) c').ownBlock = v.ownBlock ∨ (Value.slice A' (n + m) c').ownBlock = some w.heap.size) → K (a.put o.dst (.slice A' (n + m) c')) w') : if Region.wanted o (yielded ops a.tmps) = true then Oper.wp P o a w K Q else E := by
  have hw : Region.wanted o (yielded ops a.tmps) = true := by simp [Region.wanted, hgd]
  rw [if_pos hw]
  obtain ⟨v', w', hrun, h2, h3, _, h5⟩ := run_append_own_at (P := P) w base t o.type e i z S i.bytes ht hi hz hsize rfl hz1 hS v n xs hown b m c news hm hr h1 h63 hbytes hbase
  obtain ⟨A', c', rfl, _⟩ := own_shape2' h2
  unfold Oper.wp execOp
  simp only [ho, resolve, invoke, builtin, Sem.run_bind, Sem.run_pure, Result.andThen_ok, List.map_toArray, List.map_cons, List.map_nil, hs, hx, hrun]
  exact h A' c' w' h2 h3 h5
theorem laid4 (w : World) (t : TypeId) (x0 x1 x2 x3 : Value) : ∀ j u, [x0, x1, x2, x3][j]? = some u → (w.alloc (.cells #[x0, x1, x2, x3] t)).cell? ((⟨w.heap.size, 0, none⟩ : Addr).add j) = some u := by
  intro j u hj
  rw [Addr.add_lit, Nat.zero_add, cell_of_row _ _ _ _ _ _ (heap_alloc_new w _)]
  simpa using hj
def unfitB (x : CZ) : Bool := x.kd != 0 || x.da.2.1 == 0
theorem unfit_any (x : CZ) (w : World) : Calls Try.prog 45 #[.agg x.cells.toArray] w fun e w' => e = .returned (.bool (unfitB x)) ∧ Below w.heap.size w w' := by
  have HB := keep (below_lay w (.cells x.cells.toArray 51))
  obtain ⟨xk, xf, xa, xb, xo, xs, xp, ⟨x1, x2, x3⟩, ⟨x4, x5, x6⟩, ⟨x7, x8, x9⟩, ⟨x10, x11, x12⟩, ⟨x13, x14, x15⟩, xbl, xdu, xsk, xpr, xbs⟩ := x
  dsimp only [CZ.cells, unfitB] at *
  by_cases h : xk = 0
  · subst h
    go_enter Try.func45, Try.ntmps45
    go_wp2
    all_goals (go_ret; exact ⟨ret_bool (by rw [Bool.eq_iff_iff]; simp), HB.out⟩)
  · have h' : (xk != 0) = true := by simpa using h
    clear h
    go_enter Try.func45, Try.ntmps45
    go_wp2
    all_goals (go_ret; exact ⟨ret_bool (by simp [h']), HB.out⟩)
theorem cIndex_any (s : SL) (l : List CZ) (w : World) (h : ZS w s l) (hn : s.2.1 ≤ 1000000) :
    Calls Try.prog 67 #[.slice s.1 s.2.1 s.2.2, .func (.func 45) #[] #[]] w fun e w' => (∃ z : Int, e = .returned (.int .i64 z) ∧ Hid (0 ≤ z ↔ l.any unfitB = true)) ∧ Below w.heap.size w w' := by
  have H := keep h
  have HL := keep h.1.1
  clear h
  obtain ⟨s1, n, s3⟩ := s
  dsimp only at HL hn ⊢
  go_enter Try.func67, Try.ntmps67
  go_wp2
  go_loopw [5, 8] (fun _ i wr => ∃ j : Nat, j ≤ n ∧ i = .int .i64 j ∧ Hid (∀ y ∈ l.take j, unfitB y = false) ∧ Below w.heap.size w wr) (fun _ i _ => n - (intOf i).toNat)
  case atStart => exact ⟨0, Nat.zero_le _, rfl, keep (by simp), Below.refl _ _⟩
  case round =>
    obtain ⟨j, hj, rfl, hno, hb⟩ := hrel
    have HB := keep hb
    clear hb
    by_cases hlt : j < n
    · obtain ⟨b, o, x, hA, hbl, hz, hlj, _⟩ := (H.out.step HB.out).at_ hlt
      dsimp only at hA
      subst hA
      have HJ := keep hlj
      have KU := fun w => unfit_any x w
      obtain ⟨r, hr⟩ : ∃ r, r = unfitB x := ⟨_, rfl⟩
      rw [← hr] at KU
      have HR := keep hr
      replace KU := keep KU
      clear hr hlj
      obtain ⟨xk, xf, xa, xb, xo, xs, xp, ⟨x1, x2, x3⟩, ⟨x4, x5, x6⟩, ⟨x7, x8, x9⟩, ⟨x10, x11, x12⟩, ⟨x13, x14, x15⟩, xbl, xdu, xsk, xpr, xbs⟩ := x
      dsimp only [Z12] at hz
      dsimp only [CZ.cells] at KU
      obtain ⟨z0, z1, z2, z3, z4, z5, z6, z7, z8, z9, z10, z11⟩ := hz
      cases r
      · go_wp2_with (go_at_call 45; refine (KU.out _).mono ?_; rintro e w1 ⟨rfl, hb1⟩; replace hb1 := keep hb1)
        go_roundw
        case rel =>
          refine ⟨j + 1, by omega, by go_num, keep fun y hy => ?_, HB.out.trans (hb1.out.mono HB.out.size)⟩
          rw [List.take_add_one, HJ.out] at hy
          rcases List.mem_append.1 hy with hy | hy
          · exact hno.out y hy
          · simp at hy
            rw [hy, HR.out]
        case measure => simp [intOf]; omega
      · go_wp2_with (go_at_call 45; refine (KU.out _).mono ?_; rintro e w1 ⟨rfl, hb1⟩; replace hb1 := keep hb1)
        go_ret
        exact ⟨⟨_, rfl, keep ⟨fun _ => List.any_eq_true.2 ⟨_, List.mem_of_getElem? HJ.out, HR.out.symm⟩, fun _ => by omega⟩⟩, HB.out.trans (hb1.out.mono HB.out.size)⟩
    · obtain rfl : n = j := by omega
      go_wp2
      go_ret
      have hno := hno.out
      rw [List.take_of_length_le (by have := HL.out; omega)] at hno
      refine ⟨⟨_, rfl, keep ⟨fun h => absurd h (by decide), fun h => ?_⟩⟩, HB.out⟩
      obtain ⟨y, hy, hu⟩ := List.any_eq_true.1 h
      rw [hno y hy] at hu
      cases hu
theorem cContains_any (s : SL) (l : List CZ) (w : World) (h : ZS w s l) (hn : s.2.1 ≤ 1000000) :
    Calls Try.prog 44 #[.slice s.1 s.2.1 s.2.2, .func (.func 45) #[] #[]] w fun e w' => e = .returned (.bool (l.any unfitB)) ∧ Below w.heap.size w w' := by
  have K := keep (cIndex_any s l w h hn)
  clear h hn
  go_enter Try.func44, Try.ntmps44
  go_wp2_with (go_at_call 67; refine K.out.mono ?_; rintro e w1 ⟨⟨z, rfl, hz⟩, hb1⟩; replace hb1 := keep hb1)
  go_ret
  refine ⟨ret_bool ?_, hb1.out⟩
  rw [Bool.eq_iff_iff, decide_eq_true_eq]
  exact hz.out
end Go.Proofs.Ytbkepkiaabeliaa
