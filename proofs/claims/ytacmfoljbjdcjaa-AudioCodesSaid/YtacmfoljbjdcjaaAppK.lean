/- append onto a row of the call's own whose elements are of any fixed number of cells. Over every program. -/
import Derived.Test.YtacmfoljbjdcjaaApp2
namespace Go.Proofs.Ytacmfoljbjdcjaa
open Go.RowKit
set_option linter.unusedVariables false

section
variable {P : Program} {w : World} {ops : Array Oper} {rest : List Oper} {o : Oper} {a : Act} {Q : Exit → Act → World → Prop}
/-- out = append(out, x..): out is nil or a row of the call's own; the elements are of S cells. -/
theorem run_append_toK {S : Nat} (hS : 0 < S) (base : Nat) (t ty e : TypeId) (i : TypeInfo) (z : Value) (ht : P.underlying t = some (.slice e)) (hi : P.info? e = some i) (hz : i.zero = some z) (hsize : i.size = S) (hz1 : z.cells.size = S)
    (v : Value) (n : Nat) (xs : List Value) (hown : w.ownsRow base e S v n xs) (B : Option Addr) (m c : Nat) (news : List Value) (hm : m * S = news.length) (hr : SR w B news) (h1 : ∀ u ∈ news, u.oneCell' = true)
    (h63 : n + m ≤ maxLen) (hbytes : (n + m) * i.bytes ≤ 140737488355328) (hbase : base ≤ w.heap.size) :
    ∃ v' w', (Builtin.append_ #[t, t] ty #[v, .slice B m c]).run P w = .ok v' w' ∧ w'.ownsRow base e S v' (n + m) (xs ++ news) ∧ w.grownBy w' v.ownBlock := by
  have fin : ∀ (b : Addr), (∀ j u, news[j]? = some u → w.cell? (b.add j) = some u) → ∃ v' w', (Builtin.append_ #[t, t] ty #[v, .slice (some b) m c]).run P w = .ok v' w' ∧ w'.ownsRow base e S v' (n + m) (xs ++ news) ∧ w.grownBy w' v.ownBlock := by
    intro b hb
    obtain ⟨v', w', hrun, h2, h3, _⟩ := run_append_own (P := P) w base t ty e i z S i.bytes ht hi hz hsize rfl hz1 hS v n xs hown b m c news (by omega) hb h1 h63 hbytes hbase
    exact ⟨v', w', hrun, h2, h3⟩
  rcases news with _ | ⟨x, l⟩
  · obtain rfl : m = 0 := (Nat.mul_eq_zero.1 (show m * S = 0 from hm)).resolve_right (by omega)
    rcases B with _ | b
    · exact ⟨v, w, run_append_bare2 base t ty e i S ht hi v n xs hown c, by simpa using hown, ⟨rfl, rfl, rfl, Nat.le_refl _, fun _ _ _ => rfl⟩⟩
    · exact fin b (fun j u hj => by simp at hj)
  · obtain ⟨b, o, rfl, _, hc⟩ := hr (by simp)
    exact fin _ (fun j u hj => by rw [Addr.add_lit]; exact hc j u hj)
theorem wpl_appendK {S : Nat} (hS : 0 < S) (hg : Region.wanted o (yielded ops a.tmps) = true) (s x : Operand) (t : TypeId) (ho : o.op = .call { callee := .builtin .append, args := #[s, x], argTypes := #[t, t] })
    (base : Nat) (e : TypeId) (i : TypeInfo) (z : Value) (ht : P.underlying t = some (.slice e)) (hi : P.info? e = some i) (hz : i.zero = some z) (hsize : i.size = S) (hz1 : z.cells.size = S)
    (v : Value) (n : Nat) (xs : List Value) (hs : a.eval s = v) (hown : w.ownsRow base e S v n xs) (B : Option Addr) (m c : Nat) (news : List Value) (hx : a.eval x = .slice B m c) (hm : m * S = news.length) (hr : SR w B news) (h1 : ∀ u ∈ news, u.oneCell' = true)
    (h63 : n + m ≤ maxLen) (hbytes : (n + m) * i.bytes ≤ 140737488355328) (hbase : base ≤ w.heap.size)
    (h : ∀ A' c' w', Hid (w'.ownsRow base e S (.slice A' (n + m) c') (n + m) (xs ++ news)) → Below base w w' → Hid (w.grownBy w' v.ownBlock) → wpList P ops Q rest (a.put o.dst (.slice A' (n + m) c')) w') : wpList P ops Q (o :: rest) a w := by
  refine wpl_wanted hg fun K hK => ?_
  obtain ⟨v', w', hrun, h2, h3⟩ := run_append_toK (P := P) hS base t o.type e i z ht hi hz hsize hz1 v n xs hown B m c news hm hr h1 h63 hbytes hbase
  obtain ⟨A', c', rfl, _⟩ := own_shape2' h2
  unfold Oper.wp execOp
  simp only [ho, resolve, invoke, builtin, Sem.run_bind, Sem.run_pure, Result.andThen_ok, List.map_toArray, List.map_cons, List.map_nil, hs, hx, hrun]
  exact hK _ _ (h A' c' w' (show _ from h2) ((Below.refl base w).grown h3 hbase fun k hk => (hown.lt k hk).1) (show _ from h3))
/-- The same as a step of a region that draws its order. -/
theorem step_appendK {S : Nat} {K : Act → World → Prop} {E : Prop} (hS : 0 < S) (hgd : o.guard = none) (s x : Operand) (t : TypeId) (ho : o.op = .call { callee := .builtin .append, args := #[s, x], argTypes := #[t, t] })
    (base : Nat) (e : TypeId) (i : TypeInfo) (z : Value) (ht : P.underlying t = some (.slice e)) (hi : P.info? e = some i) (hz : i.zero = some z) (hsize : i.size = S) (hz1 : z.cells.size = S)
    (v : Value) (n : Nat) (xs : List Value) (hs : a.eval s = v) (hown : w.ownsRow base e S v n xs) (B : Option Addr) (m c : Nat) (news : List Value) (hx : a.eval x = .slice B m c) (hm : m * S = news.length) (hr : SR w B news) (h1 : ∀ u ∈ news, u.oneCell' = true)
    (h63 : n + m ≤ maxLen) (hbytes : (n + m) * i.bytes ≤ 140737488355328) (hbase : base ≤ w.heap.size)
    (h : ∀ A' c' w', Hid (w'.ownsRow base e S (.slice A' (n + m) c') (n + m) (xs ++ news)) → Below base w w' → K (a.put o.dst (.slice A' (n + m) c')) w') : if Region.wanted o (yielded ops a.tmps) = true then Oper.wp P o a w K Q else E := by
  have hw : Region.wanted o (yielded ops a.tmps) = true := by simp [Region.wanted, hgd]
  rw [if_pos hw]
  obtain ⟨v', w', hrun, h2, h3⟩ := run_append_toK (P := P) hS base t o.type e i z ht hi hz hsize hz1 v n xs hown B m c news hm hr h1 h63 hbytes hbase
  obtain ⟨A', c', rfl, _⟩ := own_shape2' h2
  unfold Oper.wp execOp
  simp only [ho, resolve, invoke, builtin, Sem.run_bind, Sem.run_pure, Result.andThen_ok, List.map_toArray, List.map_cons, List.map_nil, hs, hx, hrun]
  exact h A' c' w' (show _ from h2) ((Below.refl base w).grown h3 hbase fun k hk => (hown.lt k hk).1)
end
end Go.Proofs.Ytacmfoljbjdcjaa
