/- A map in memory whose keys are texts, by its values: which value stands at each text. -/
import Derived.WalkSpells
import Derived.KernelRfl
import Derived.Test.YtnbicbnighpkjaaProg
import Derived.Test.YtnbicbnighpkjaaPart
import Derived.Test.YtnbicbnighpkjaaMV
import Derived.Maps.OwnSet
namespace Go.Proofs.Ytnbicbnighpkjaa
open Go.RowKit Go.Maps
set_option linter.unusedVariables false

abbrev KS (s : ByteArray) : Lit := .string s.data.toList
theorem KS_lit (s : ByteArray) : WideAt.IsKeyLit (KS s) := by simp [WideAt.IsKeyLit]
theorem KS_inj {s t : ByteArray} (h : KS s = KS t) : s = t := by
  injection h with h
  cases s
  cases t
  congr
  exact Array.toList_inj.1 h
theorem KS_ne {s t : ByteArray} (h : s ≠ t) : KS s ≠ KS t := fun e => h (KS_inj e)
abbrev VS := ByteArray → Option Value
def putS (g : VS) (n : ByteArray) (v : Value) : VS := fun m => if m = n then some v else g m
def delS (g : VS) (n : ByteArray) : VS := fun m => if m = n then none else g m
/-- The map D has the values of g. -/
structure ShS (D : DV) (g : VS) : Prop where
  tidy : Tidy D
  only : ∀ k, has D k = true → ∃ n v, k = KS n ∧ g n = some v
  there : ∀ n v, g n = some v → ∀ z, D.atKey (KS n) z = .held v
theorem ShS.nil : ShS (.map []) fun _ => none := ⟨tidy_empty, fun k h => (by cases h), fun _ _ h => (by cases h)⟩
theorem ShS.has_ {D : DV} {g : VS} (h : ShS D g) (n : ByteArray) : has D (KS n) = (g n).isSome := by
  cases hg : g n with
  | some v => exact has_true_of_atKey (h.there n v hg)
  | none =>
    cases hc : has D (KS n) with
    | false => rfl
    | true =>
      obtain ⟨m, v, e, hm⟩ := h.only _ hc
      rw [← KS_inj e, hg] at hm
      cases hm
theorem ShS.at_ {D : DV} {g : VS} (h : ShS D g) (n : ByteArray) (z : Value) : D.atKey (KS n) (.held z) = .held ((g n).getD z) := by
  cases hg : g n with
  | some v => exact h.there n v hg _
  | none => exact atKey_of_not_has (by rw [h.has_ n, hg]; rfl) _
theorem ShS.put {D : DV} {g : VS} (h : ShS D g) (n : ByteArray) (v : Value) : ShS (D.put (KS n) (.held v)) (putS g n v) := by
  refine ⟨h.tidy.put (KS_lit n) _, fun k hk => ?_, fun m u hm z => ?_⟩
  · by_cases e : k = KS n
    · exact ⟨n, v, e, by unfold putS; rw [if_pos rfl]⟩
    · rw [has_put_other e] at hk
      obtain ⟨m, u, e1, hm⟩ := h.only k hk
      refine ⟨m, u, e1, ?_⟩
      unfold putS
      rw [if_neg fun e2 => e (by rw [e1, e2]), hm]
  · unfold putS at hm
    by_cases e : m = n
    · rw [if_pos e] at hm
      injection hm with hm
      subst e hm
      exact atKey_put_same h.tidy.isMap (KS_lit m) _ z
    · rw [if_neg e] at hm
      rw [atKey_put_other (KS_ne e)]
      exact h.there m u hm z
theorem ShS.del {D : DV} {g : VS} (h : ShS D g) (n : ByteArray) : ShS (D.del (KS n)) (delS g n) := by
  refine ⟨h.tidy.del _, fun k hk => ?_, fun m u hm z => ?_⟩
  · by_cases e : k = KS n
    · rw [e, has_del_same] at hk; cases hk
    · rw [has_del_other e] at hk
      obtain ⟨m, u, e1, hm⟩ := h.only k hk
      refine ⟨m, u, e1, ?_⟩
      unfold delS
      rw [if_neg fun e2 => e (by rw [e1, e2]), hm]
  · unfold delS at hm
    by_cases e : m = n
    · rw [if_pos e] at hm; cases hm
    · rw [if_neg e] at hm
      rw [atKey_del_other (KS_ne e)]
      exact h.there m u hm z
/-- The block k is a map that has the c values of g. -/
def MapS (w : World) (kt : TypeId) (k c : Nat) (g : VS) : Prop := ∃ D : DV, w.ownsMap Try.prog kt VE k c D ∧ ShS D g ∧ Maps.size D = c
section
variable {kt : TypeId} {w : World} {k c : Nat} {g : VS}
theorem MapS.lt (h : MapS w kt k c g) : k < w.heap.size := by
  obtain ⟨D, hD, _⟩ := h
  exact hD.lt
theorem MapS.made (w : World) (kt : TypeId) : MapS (w.alloc (.map #[] 0)) kt w.heap.size 0 fun _ => none :=
  ⟨_, World.ownsMap_made w Try.prog kt VE, ShS.nil, rfl⟩
theorem MapS.same {w' : World} (h : MapS w kt k c g) (hb : w'.heap[k]? = w.heap[k]?) : MapS w' kt k c g := by
  obtain ⟨D, ⟨es, cl, h1, r⟩, h2⟩ := h
  exact ⟨D, ⟨es, cl, hb.trans h1, r⟩, h2⟩
theorem MapS.kept {S : Nat → Prop} {w' : World} (h : MapS w kt k c g) (hp : Part S w w') (hk : ¬ S k) : MapS w' kt k c g := h.same (hp.block k h.lt hk)
theorem MapS.some_pos (h : MapS w kt k c g) {n : ByteArray} {v : Value} (hg : g n = some v) : 0 < c := by
  obtain ⟨D, hD, hS, hc⟩ := h
  rcases Nat.eq_zero_or_pos c with h0 | h0
  · have h1 := hS.has_ n
    rw [hg] at h1
    obtain ⟨es, e, _⟩ := hS.tidy
    rw [e] at h1 hc
    rw [h0] at hc
    have : es = [] := List.length_eq_zero_iff.1 hc
    rw [this] at h1
    cases h1
  · exact h0
/-- m[k]. -/
theorem MapS.look (h : MapS w kt k c g) (hk : Try.prog.underlying kt = some .string) {t e : TypeId} (ht : Try.prog.underlying t = some (.map kt e)) {z : Value} (hz : (zeroValue e).run Try.prog w = .ok z w) {n : ByteArray} (hn : n.size ≤ maxLen) :
    (Instr.lookup t (.map (some k)) (.string n) false).run Try.prog w = .ok ((g n).getD z) w := by
  obtain ⟨D, hD, hS, _⟩ := h
  obtain ⟨v, ps, hrun, hv⟩ := hD.lookup (string_keyed hk) ht hz (zd := .held z) (zp := []) rfl (WideMaps.keyOf_string_mk hk hn)
  have := VE_inv hv
  rw [hS.at_] at this
  injection this with this
  rw [this]
  exact hrun
theorem MapS.len (h : MapS w kt k c g) {t e : TypeId} (ht : Try.prog.underlying t = some (.map kt e)) (ty : TypeId) : (Builtin.len_ #[t] ty #[.map (some k)]).run Try.prog w = .ok (.int .i64 c) w := by
  obtain ⟨D, hD, hS, hc⟩ := h
  have := hD.len ht ty
  rwa [hc] at this
theorem MapS.drop (h : MapS w kt k c g) (hk : Try.prog.underlying kt = some .string) {t e : TypeId} (ht : Try.prog.underlying t = some (.map kt e)) {n : ByteArray} (hn : n.size ≤ maxLen) (ty : TypeId) :
    ∃ w', (Builtin.delete_ #[t, kt] ty #[.map (some k), .string n]).run Try.prog w = .ok (.tuple #[]) w' ∧ MapS w' kt k (c - if (g n).isSome = true then 1 else 0) (delS g n) ∧ w.grownBy w' (some k) ∧ w'.heap.size = w.heap.size := by
  obtain ⟨D, hD, hS, hc⟩ := h
  obtain ⟨w', hrun, hD', hT⟩ := hD.drop (string_keyed hk) ht (WideMaps.keyOf_string_mk hk hn) ty
  have hs := size_del (k := KS n) hS.tidy
  rw [hS.has_ n, hc] at hs
  have e : Maps.size (D.del (KS n)) = c - if (g n).isSome = true then 1 else 0 := by omega
  have h1 := tight hD'
  rw [e] at h1
  refine ⟨w', hrun, ⟨_, h1, hS.del n, e⟩, hT.grown, ?_⟩
  obtain ⟨es, cl, es', cl', _, rfl⟩ := hT
  simp [Go.ChangeMaps.setBlock]
theorem MapS.store (h : MapS w kt k c g) (hk : Try.prog.underlying kt = some .string) {t e : TypeId} (ht : Try.prog.underlying t = some (.map kt e)) {n : ByteArray} (hn : n.size ≤ maxLen) (hc9 : c < maxLen) (v : Value) :
    ∃ w', (Instr.mapUpdate t (.map (some k)) (.string n) v).run Try.prog w = .ok () w' ∧ MapS w' kt k (if (g n).isSome = true then c else c + 1) (putS g n v) ∧ w.grownBy w' (some k) ∧ w'.heap.size = w.heap.size := by
  obtain ⟨D, hD, hS, hc⟩ := h
  obtain ⟨w', hrun, hD', hT⟩ := hD.store (string_keyed hk) ht hc9 (WideMaps.keyOf_string_mk hk hn) (val := v) (d := .held v) (ps := []) rfl
  have e : Maps.size (D.put (KS n) (.held v)) = if (g n).isSome = true then c else c + 1 := by rw [size_put hS.tidy, hS.has_ n, hc]
  have h1 := tight hD'
  rw [e] at h1
  refine ⟨w', hrun, ⟨_, h1, hS.put n v, e⟩, hT.grown, ?_⟩
  obtain ⟨es, cl, es', cl', _, rfl⟩ := hT
  simp [Go.ChangeMaps.setBlock]
end
section
variable (w : World) {ops : Array Oper} {rest : List Oper} {o : Oper} {a : Act} {Q : Exit → Act → World → Prop} {kt e : TypeId} {k c : Nat} {g : VS}
theorem wpl_lookS (hg : o.guard = none) (m x : Operand) (t : TypeId) (hop : o.op = Op.lookup t m x false) (hk : Try.prog.underlying kt = some .string) (ht : Try.prog.underlying t = some (.map kt e)) {z : Value} (hz : (zeroValue e).run Try.prog w = .ok z w)
    (hm : a.eval m = .map (some k)) (h : MapS w kt k c g) {n : ByteArray} (hx : a.eval x = .string n) (hn : n.size ≤ maxLen) (hK : wpList Try.prog ops Q rest (a.put o.dst ((g n).getD z)) w) : wpList Try.prog ops Q (o :: rest) a w := by
  refine wpList_plain hg fun K' hK' => ?_
  have hrun := h.look hk ht hz hn
  unfold Oper.wp
  simp [execOp, hop, hm, hx, hrun, Result.andThen]
  exact hK' _ _ hK
theorem wpl_delS (hg : o.guard = none) (m x : Operand) (t : TypeId) (hop : o.op = Op.call { callee := Callee.builtin Builtin.delete, args := #[m, x], argTypes := #[t, kt] }) (hk : Try.prog.underlying kt = some .string) (ht : Try.prog.underlying t = some (.map kt e))
    (hm : a.eval m = .map (some k)) (h : MapS w kt k c g) {n : ByteArray} (hx : a.eval x = .string n) (hn : n.size ≤ maxLen)
    (hK : ∀ w', MapS w' kt k (c - if (g n).isSome = true then 1 else 0) (delS g n) → w.grownBy w' (some k) → w'.heap.size = w.heap.size → wpList Try.prog ops Q rest (a.put o.dst (.tuple #[])) w') : wpList Try.prog ops Q (o :: rest) a w := by
  refine wpList_plain hg fun K' hK' => ?_
  obtain ⟨w', hrun, h1, h2, h3⟩ := h.drop hk ht hn o.type
  unfold Oper.wp
  simp [execOp, hop, resolve, invoke, builtin, hm, hx, hrun, Result.andThen]
  exact hK' _ _ (hK w' h1 h2 h3)
theorem wpl_lenS (hg : o.guard = none) (m : Operand) (t : TypeId) (hop : o.op = Op.call { callee := Callee.builtin Builtin.len, args := #[m], argTypes := #[t] }) (ht : Try.prog.underlying t = some (.map kt e)) (hm : a.eval m = .map (some k)) (h : MapS w kt k c g)
    (hK : wpList Try.prog ops Q rest (a.put o.dst (.int .i64 c)) w) : wpList Try.prog ops Q (o :: rest) a w := by
  refine wpList_plain hg fun K' hK' => ?_
  unfold Oper.wp
  simp [execOp, hop, resolve, invoke, builtin, hm, h.len ht o.type, Result.andThen]
  exact hK' _ _ hK
theorem wpl_putS (hg : o.guard = none) (m x v : Operand) (t : TypeId) (hop : o.op = Op.mapUpdate t m x v) (hk : Try.prog.underlying kt = some .string) (ht : Try.prog.underlying t = some (.map kt e))
    (hm : a.eval m = .map (some k)) (h : MapS w kt k c g) (hc9 : c < maxLen) {n : ByteArray} {u : Value} (hx : a.eval x = .string n) (hn : n.size ≤ maxLen) (hv : a.eval v = u)
    (hK : ∀ w', MapS w' kt k (if (g n).isSome = true then c else c + 1) (putS g n u) → w.grownBy w' (some k) → w'.heap.size = w.heap.size → wpList Try.prog ops Q rest (a.put o.dst undef) w') : wpList Try.prog ops Q (o :: rest) a w := by
  refine wpList_plain hg fun K' hK' => ?_
  obtain ⟨w', hrun, h1, h2, h3⟩ := h.store hk ht hn hc9 u
  unfold Oper.wp
  simp [execOp, hop, hm, hx, hv, hrun, Result.andThen]
  exact hK' _ _ (hK w' h1 h2 h3)
end
end Go.Proofs.Ytnbicbnighpkjaa
