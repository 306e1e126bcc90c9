/- A map in memory, by its values: which value stands at each number. -/
import Derived.WalkSpells
import Derived.KernelRfl
import Derived.Test.YtnbicbnighpkjaaProg
import Derived.Test.YtnbicbnighpkjaaPart
import Derived.Maps.OwnSet
import Derived.Maps.RangeWalk
import Derived.StillTailTactics
namespace Go.Proofs.Ytnbicbnighpkjaa
open Go.RowKit Go.Maps
set_option linter.unusedVariables false

abbrev DV := DataW Value
/-- A value reads as itself. -/
def VE (v : Value) : Option (DV × List MemPlace) := some (.held v, [])
theorem VE_inv {v : Value} {d : DV} {ps : List MemPlace} (h : VE v = some (d, ps)) : d = .held v := by
  unfold VE at h
  injection h with h
  injection h with h1 h2
  exact h1.symm
abbrev KL (q : IntKind) (x : Int) : Lit := .int q x
theorem KL_lit (q : IntKind) (x : Int) : WideAt.IsKeyLit (KL q x) := by simp [WideAt.IsKeyLit]
theorem KL_inj {q : IntKind} {x y : Int} (h : KL q x = KL q y) : x = y := by injection h
theorem KL_ne {q : IntKind} {x y : Int} (h : x ≠ y) : KL q x ≠ KL q y := fun e => h (KL_inj e)
theorem wf32 {x : Int} (h0 : 0 ≤ x) (h1 : x < 4294967296) : (KL .u32 x).wf = true := by
  simp [Lit.wf, IntKind.min, IntKind.max, IntKind.signed, IntKind.bits]
  omega
theorem wf16 {x : Int} (h0 : 0 ≤ x) (h1 : x < 65536) : (KL .u16 x).wf = true := by
  simp [Lit.wf, IntKind.min, IntKind.max, IntKind.signed, IntKind.bits]
  omega
theorem of_wf32 {x : Int} (h : (KL .u32 x).wf = true) : 0 ≤ x ∧ x < 4294967296 := by
  simp [Lit.wf, IntKind.min, IntKind.max, IntKind.signed, IntKind.bits] at h
  omega
theorem of_wf16 {x : Int} (h : (KL .u16 x).wf = true) : 0 ≤ x ∧ x < 65536 := by
  simp [Lit.wf, IntKind.min, IntKind.max, IntKind.signed, IntKind.bits] at h
  omega
abbrev VM := Int → Option Value
def putV (g : VM) (n : Int) (v : Value) : VM := fun m => if m = n then some v else g m
def delV (g : VM) (n : Int) : VM := fun m => if m = n then none else g m
/-- The map D has the values of g. -/
structure Shw (q : IntKind) (D : DV) (g : VM) : Prop where
  tidy : Tidy D
  wf : ∀ n v, g n = some v → (KL q n).wf = true
  only : ∀ k, has D k = true → ∃ n v, k = KL q n ∧ g n = some v
  there : ∀ n v, g n = some v → ∀ z, D.atKey (KL q n) z = .held v
theorem Shw.nil (q : IntKind) : Shw q (.map []) fun _ => none := ⟨tidy_empty, fun _ _ h => (by cases h), fun k h => (by cases h), fun _ _ h => (by cases h)⟩
theorem Shw.has_ {q : IntKind} {D : DV} {g : VM} (h : Shw q D g) (n : Int) : has D (KL q n) = (g n).isSome := by
  cases hg : g n with
  | some v => exact has_true_of_atKey (h.there n v hg)
  | none =>
    cases hc : has D (KL q n) with
    | false => rfl
    | true =>
      obtain ⟨m, v, e, hm⟩ := h.only _ hc
      rw [← KL_inj e, hg] at hm
      cases hm
theorem Shw.at_ {q : IntKind} {D : DV} {g : VM} (h : Shw q D g) (n : Int) (z : Value) : D.atKey (KL q n) (.held z) = .held ((g n).getD z) := by
  cases hg : g n with
  | some v => exact h.there n v hg _
  | none => exact atKey_of_not_has (by rw [h.has_ n, hg]; rfl) _
theorem Shw.put {q : IntKind} {D : DV} {g : VM} (h : Shw q D g) {n : Int} (hn : (KL q n).wf = true) (v : Value) : Shw q (D.put (KL q n) (.held v)) (putV g n v) := by
  refine ⟨h.tidy.put (KL_lit q n) _, fun m u hm => ?_, fun k hk => ?_, fun m u hm z => ?_⟩
  · unfold putV at hm
    by_cases e : m = n
    · rw [e]; exact hn
    · rw [if_neg e] at hm; exact h.wf m u hm
  · by_cases e : k = KL q n
    · exact ⟨n, v, e, by unfold putV; rw [if_pos rfl]⟩
    · rw [has_put_other e] at hk
      obtain ⟨m, u, e1, hm⟩ := h.only k hk
      refine ⟨m, u, e1, ?_⟩
      unfold putV
      rw [if_neg fun e2 => e (by rw [e1, e2]), hm]
  · unfold putV at hm
    by_cases e : m = n
    · rw [if_pos e] at hm
      injection hm with hm
      subst e hm
      exact atKey_put_same h.tidy.isMap (KL_lit q m) _ z
    · rw [if_neg e] at hm
      rw [atKey_put_other (KL_ne e)]
      exact h.there m u hm z
theorem Shw.del {q : IntKind} {D : DV} {g : VM} (h : Shw q D g) (n : Int) : Shw q (D.del (KL q n)) (delV g n) := by
  refine ⟨h.tidy.del _, fun m u hm => ?_, fun k hk => ?_, fun m u hm z => ?_⟩
  · unfold delV at hm
    by_cases e : m = n
    · rw [if_pos e] at hm; cases hm
    · rw [if_neg e] at hm; exact h.wf m u hm
  · by_cases e : k = KL q n
    · rw [e, has_del_same] at hk; cases hk
    · rw [has_del_other e] at hk
      obtain ⟨m, u, e1, hm⟩ := h.only k hk
      refine ⟨m, u, e1, ?_⟩
      unfold delV
      rw [if_neg fun e2 => e (by rw [e1, e2]), hm]
  · unfold delV at hm
    by_cases e : m = n
    · rw [if_pos e] at hm; cases hm
    · rw [if_neg e] at hm
      rw [atKey_del_other (KL_ne e)]
      exact h.there m u hm z
/-- The block k is a map that has the c values of g. -/
def MapV (w : World) (kt : TypeId) (q : IntKind) (k c : Nat) (g : VM) : Prop := ∃ D : DV, w.ownsMap Try.prog kt VE k c D ∧ Shw q D g ∧ Maps.size D = c
section
variable {kt : TypeId} {q : IntKind} {w : World} {k c : Nat} {g : VM}
theorem tight {n : Nat} {D : DV} (h : w.ownsMap Try.prog kt VE k n D) : w.ownsMap Try.prog kt VE k (Maps.size D) D := by
  obtain ⟨es, clock, hb, F, hs, hD⟩ := h
  refine ⟨es, clock, hb, F, ?_, hD⟩
  rw [hD]
  simp [Maps.size, length_sorted]
theorem MapV.lt (h : MapV w kt q k c g) : k < w.heap.size := by
  obtain ⟨D, hD, _⟩ := h
  exact hD.lt
theorem MapV.made (w : World) (kt : TypeId) (q : IntKind) : MapV (w.alloc (.map #[] 0)) kt q w.heap.size 0 fun _ => none :=
  ⟨_, World.ownsMap_made w Try.prog kt VE, Shw.nil q, rfl⟩
theorem MapV.block (h : MapV w kt q k c g) : ∃ es cl, w.heap[k]? = some (.map es cl) := by
  obtain ⟨D, ⟨es, cl, hb, _⟩, _⟩ := h
  exact ⟨es, cl, hb⟩
theorem MapV.same {w' : World} (h : MapV w kt q k c g) (hb : w'.heap[k]? = w.heap[k]?) : MapV w' kt q k c g := by
  obtain ⟨D, ⟨es, cl, h1, r⟩, h2⟩ := h
  exact ⟨D, ⟨es, cl, hb.trans h1, r⟩, h2⟩
theorem MapV.kept {S : Nat → Prop} {w' : World} (h : MapV w kt q k c g) (hp : Part S w w') (hk : ¬ S k) : MapV w' kt q k c g := h.same (hp.block k h.lt hk)
theorem MapV.some_pos (h : MapV w kt q k c g) {n : Int} {v : Value} (hg : g n = some v) : 0 < c := by
  obtain ⟨D, hD, hS, hc⟩ := h
  rcases Nat.eq_zero_or_pos c with h0 | h0
  · have h1 := hS.has_ n
    rw [hg] at h1
    obtain ⟨es, e, _⟩ := hS.tidy
    rw [e] at h1 hc
    rw [h0] at hc
    have : es = [] := List.length_eq_zero_iff.1 hc
    rw [this] at h1
    cases h1
  · exact h0
/-- m[k], and m[k] with ok. -/
theorem MapV.look (h : MapV w kt q k c g) (hk : Try.prog.underlying kt = some (.int q)) {t e : TypeId} (ht : Try.prog.underlying t = some (.map kt e)) {z : Value} (hz : (zeroValue e).run Try.prog w = .ok z w) {n : Int} (hn : (KL q n).wf = true) :
    (Instr.lookup t (.map (some k)) (.int q n) false).run Try.prog w = .ok ((g n).getD z) w := by
  obtain ⟨D, hD, hS, _⟩ := h
  obtain ⟨v, ps, hrun, hv⟩ := hD.lookup (int_keyed hk) ht hz (zd := .held z) (zp := []) rfl (keyOf_int_mk hk hn)
  have := VE_inv hv
  rw [hS.at_] at this
  injection this with this
  rw [this]
  exact hrun
theorem MapV.look_ok (h : MapV w kt q k c g) (hk : Try.prog.underlying kt = some (.int q)) {t e : TypeId} (ht : Try.prog.underlying t = some (.map kt e)) {z : Value} (hz : (zeroValue e).run Try.prog w = .ok z w) {n : Int} (hn : (KL q n).wf = true) :
    (Instr.lookup t (.map (some k)) (.int q n) true).run Try.prog w = .ok (.tuple #[(g n).getD z, .bool (g n).isSome]) w := by
  obtain ⟨D, hD, hS, _⟩ := h
  obtain ⟨v, ps, hrun, hv⟩ := hD.look_ok (int_keyed hk) ht hz (zd := .held z) (zp := []) rfl (keyOf_int_mk hk hn)
  have := VE_inv hv
  rw [hS.at_] at this
  injection this with this
  rw [hS.has_] at hrun
  rw [this]
  exact hrun
theorem MapV.len (h : MapV w kt q k c g) {t e : TypeId} (ht : Try.prog.underlying t = some (.map kt e)) (ty : TypeId) : (Builtin.len_ #[t] ty #[.map (some k)]).run Try.prog w = .ok (.int .i64 c) w := by
  obtain ⟨D, hD, hS, hc⟩ := h
  have := hD.len ht ty
  rwa [hc] at this
theorem MapV.drop (h : MapV w kt q k c g) (hk : Try.prog.underlying kt = some (.int q)) {t e : TypeId} (ht : Try.prog.underlying t = some (.map kt e)) {n : Int} (hn : (KL q n).wf = true) (ty : TypeId) :
    ∃ w', (Builtin.delete_ #[t, kt] ty #[.map (some k), .int q n]).run Try.prog w = .ok (.tuple #[]) w' ∧ MapV w' kt q k (c - if (g n).isSome = true then 1 else 0) (delV g n) ∧ w.grownBy w' (some k) ∧ w'.heap.size = w.heap.size := by
  obtain ⟨D, hD, hS, hc⟩ := h
  obtain ⟨w', hrun, hD', hT⟩ := hD.drop (int_keyed hk) ht (keyOf_int_mk hk hn) ty
  have hs := size_del (k := KL q n) hS.tidy
  rw [hS.has_ n, hc] at hs
  have e : Maps.size (D.del (KL q n)) = c - if (g n).isSome = true then 1 else 0 := by omega
  have h1 := tight hD'
  rw [e] at h1
  refine ⟨w', hrun, ⟨_, h1, hS.del n, e⟩, hT.grown, ?_⟩
  obtain ⟨es, cl, es', cl', _, rfl⟩ := hT
  simp [Go.ChangeMaps.setBlock]
theorem MapV.store (h : MapV w kt q k c g) (hk : Try.prog.underlying kt = some (.int q)) {t e : TypeId} (ht : Try.prog.underlying t = some (.map kt e)) {n : Int} (hn : (KL q n).wf = true) (hc9 : c < maxLen) (v : Value) :
    ∃ w', (Instr.mapUpdate t (.map (some k)) (.int q n) v).run Try.prog w = .ok () w' ∧ MapV w' kt q k (if (g n).isSome = true then c else c + 1) (putV g n v) ∧ w.grownBy w' (some k) ∧ w'.heap.size = w.heap.size := by
  obtain ⟨D, hD, hS, hc⟩ := h
  obtain ⟨w', hrun, hD', hT⟩ := hD.store (int_keyed hk) ht hc9 (keyOf_int_mk hk hn) (val := v) (d := .held v) (ps := []) rfl
  have e : Maps.size (D.put (KL q n) (.held v)) = if (g n).isSome = true then c else c + 1 := by rw [size_put hS.tidy, hS.has_ n, hc]
  have h1 := tight hD'
  rw [e] at h1
  refine ⟨w', hrun, ⟨_, h1, hS.put hn v, e⟩, hT.grown, ?_⟩
  obtain ⟨es, cl, es', cl', _, rfl⟩ := hT
  simp [Go.ChangeMaps.setBlock]
end
/-! ### At the operation -/
theorem MapV.dr {kt : TypeId} {q : IntKind} {w : World} {k c : Nat} {g : VM} (h : MapV w kt q k c g) (d : Nat) : MapV { w with drawn := d } kt q k c g := h.same rfl
/-- A lookup in a region that draws its order and reads. -/
theorem wps_look {P : Program} {ops : Array Oper} {w : World} {Q : Act → Prop} {a : Act} {o : Oper} {rest : List Oper} (hw : Region.wanted o (yielded ops a.tmps) = true) (m x : Operand) (t : TypeId) (ok : Bool) (hop : o.op = Op.lookup t m x ok) {v : Value}
    (hrun : (Instr.lookup t (a.eval m) (a.eval x) ok).run P w = .ok v w) (h : wpStill P ops w Q rest (a.put o.dst v)) : wpStill P ops w Q (o :: rest) a := by
  refine wpStill_step fun K hK => ?_
  rw [if_pos hw]
  unfold Oper.still
  simp [execOp, hop, hrun, Oper.stillUpon]
  exact hK _ h
section
variable (w : World) {ops : Array Oper} {rest : List Oper} {o : Oper} {a : Act} {Q : Exit → Act → World → Prop} {kt e : TypeId} {q : IntKind} {k c : Nat} {g : VM}
theorem wpl_look (hg : o.guard = none) (m x : Operand) (t : TypeId) (hop : o.op = Op.lookup t m x false) (hk : Try.prog.underlying kt = some (.int q)) (ht : Try.prog.underlying t = some (.map kt e)) {z : Value} (hz : (zeroValue e).run Try.prog w = .ok z w)
    (hm : a.eval m = .map (some k)) (h : MapV w kt q k c g) {n : Int} (hx : a.eval x = .int q n) (hn : (KL q n).wf = true) (hK : wpList Try.prog ops Q rest (a.put o.dst ((g n).getD z)) w) : wpList Try.prog ops Q (o :: rest) a w := by
  refine wpList_plain hg fun K' hK' => ?_
  have hrun := h.look hk ht hz hn
  unfold Oper.wp
  simp [execOp, hop, hm, hx, hrun, Result.andThen]
  exact hK' _ _ hK
theorem wpl_look_ok (hg : o.guard = none) (m x : Operand) (t : TypeId) (hop : o.op = Op.lookup t m x true) (hk : Try.prog.underlying kt = some (.int q)) (ht : Try.prog.underlying t = some (.map kt e)) {z : Value} (hz : (zeroValue e).run Try.prog w = .ok z w)
    (hm : a.eval m = .map (some k)) (h : MapV w kt q k c g) {n : Int} (hx : a.eval x = .int q n) (hn : (KL q n).wf = true) (hK : wpList Try.prog ops Q rest (a.put o.dst (.tuple #[(g n).getD z, .bool (g n).isSome])) w) : wpList Try.prog ops Q (o :: rest) a w := by
  refine wpList_plain hg fun K' hK' => ?_
  have hrun := h.look_ok hk ht hz hn
  unfold Oper.wp
  simp [execOp, hop, hm, hx, hrun, Result.andThen]
  exact hK' _ _ hK
theorem wpl_del (hg : o.guard = none) (m x : Operand) (t : TypeId) (hop : o.op = Op.call { callee := Callee.builtin Builtin.delete, args := #[m, x], argTypes := #[t, kt] }) (hk : Try.prog.underlying kt = some (.int q)) (ht : Try.prog.underlying t = some (.map kt e))
    (hm : a.eval m = .map (some k)) (h : MapV w kt q k c g) {n : Int} (hx : a.eval x = .int q n) (hn : (KL q n).wf = true)
    (hK : ∀ w', MapV w' kt q k (c - if (g n).isSome = true then 1 else 0) (delV g n) → w.grownBy w' (some k) → w'.heap.size = w.heap.size → wpList Try.prog ops Q rest (a.put o.dst (.tuple #[])) w') : wpList Try.prog ops Q (o :: rest) a w := by
  refine wpList_plain hg fun K' hK' => ?_
  obtain ⟨w', hrun, h1, h2, h3⟩ := h.drop hk ht hn o.type
  unfold Oper.wp
  simp [execOp, hop, resolve, invoke, builtin, hm, hx, hrun, Result.andThen]
  exact hK' _ _ (hK w' h1 h2 h3)
theorem wpl_len (hg : o.guard = none) (m : Operand) (t : TypeId) (hop : o.op = Op.call { callee := Callee.builtin Builtin.len, args := #[m], argTypes := #[t] }) (ht : Try.prog.underlying t = some (.map kt e)) (hm : a.eval m = .map (some k)) (h : MapV w kt q k c g)
    (hK : wpList Try.prog ops Q rest (a.put o.dst (.int .i64 c)) w) : wpList Try.prog ops Q (o :: rest) a w := by
  refine wpList_plain hg fun K' hK' => ?_
  unfold Oper.wp
  simp [execOp, hop, resolve, invoke, builtin, hm, h.len ht o.type, Result.andThen]
  exact hK' _ _ hK
theorem wpl_put (hg : o.guard = none) (m x v : Operand) (t : TypeId) (hop : o.op = Op.mapUpdate t m x v) (hk : Try.prog.underlying kt = some (.int q)) (ht : Try.prog.underlying t = some (.map kt e))
    (hm : a.eval m = .map (some k)) (h : MapV w kt q k c g) (hc9 : c < maxLen) {n : Int} {u : Value} (hx : a.eval x = .int q n) (hn : (KL q n).wf = true) (hv : a.eval v = u)
    (hK : ∀ w', MapV w' kt q k (if (g n).isSome = true then c else c + 1) (putV g n u) → w.grownBy w' (some k) → w'.heap.size = w.heap.size → wpList Try.prog ops Q rest (a.put o.dst undef) w') : wpList Try.prog ops Q (o :: rest) a w := by
  refine wpList_plain hg fun K' hK' => ?_
  obtain ⟨w', hrun, h1, h2, h3⟩ := h.store hk ht hn hc9 u
  unfold Oper.wp
  simp [execOp, hop, hm, hx, hv, hrun, Result.andThen]
  exact hK' _ _ (hK w' h1 h2 h3)
/-- A range over the map under way: its values are g, of those that were there at first (g0) left are still to come. -/
def RngV (w : World) (kt : TypeId) (q : IntKind) (k r c : Nat) (g : VM) (left : Int → Bool) (cnt : Nat) : Prop := ∃ (D : DV) (lf : Lit → Bool) (n : Nat), w.ranges Try.prog kt VE k r n D lf cnt ∧ Shw q D g ∧ Maps.size D = c ∧ ∀ x, lf (KL q x) = left x
theorem RngV.map {w : World} {r cnt : Nat} {left : Int → Bool} (h : RngV w kt q k r c g left cnt) : MapV w kt q k c g := by
  obtain ⟨D, lf, n, h1, h2, h3, _⟩ := h
  exact ⟨D, by have := tight h1.owns; rwa [h3] at this, h2, h3⟩
theorem RngV.left_eq {w : World} {r cnt : Nat} {left : Int → Bool} (h : RngV w kt q k r c g left cnt) : w.rangeLeft k r = cnt := by
  obtain ⟨D, lf, n, h1, _⟩ := h
  exact h1.left_eq
theorem RngV.ne {w : World} {r cnt : Nat} {left : Int → Bool} (h : RngV w kt q k r c g left cnt) : r ≠ k := by
  obtain ⟨D, lf, n, h1, _⟩ := h
  exact h1.ne
theorem RngV.lt {w : World} {r cnt : Nat} {left : Int → Bool} (h : RngV w kt q k r c g left cnt) : r < w.heap.size := by
  obtain ⟨D, lf, n, h1, _⟩ := h
  exact h1.lt
theorem RngV.kept {w w' : World} {r cnt : Nat} {left : Int → Bool} {row : Option Nat} (h : RngV w kt q k r c g left cnt) (hg : w.grownBy w' row) (hb : some k ≠ row) (hr : some r ≠ row) : RngV w' kt q k r c g left cnt := by
  obtain ⟨D, lf, n, h1, h2⟩ := h
  exact ⟨D, lf, n, h1.kept hg hb hr, h2⟩
theorem wpl_range (hg : o.guard = none) (m : Operand) (t : TypeId) (hop : o.op = Op.range t m) (hk : Try.prog.underlying kt = some (.int q)) (ht : Try.prog.underlying t = some (.map kt e)) (hm : a.eval m = .map (some k)) (h : MapV w kt q k c g)
    (hK : ∀ w', RngV w' kt q k w.heap.size c g (fun x => (g x).isSome) c → w.grownBy w' none → w'.heap.size = w.heap.size + 1 → wpList Try.prog ops Q rest (a.put o.dst (.pointer (some ⟨w.heap.size, 0, none⟩))) w') : wpList Try.prog ops Q (o :: rest) a w := by
  obtain ⟨D, hD, hS, hc⟩ := h
  refine wpList_range_own w hg m t hop kt e (int_keyed hk) ht VE k c D hm hD fun w' r1 r2 r3 => hK w' ⟨D, has D, c, ?_, hS, hc, hS.has_⟩ r2 r3
  rw [hc] at r1
  exact r1
theorem wpl_next (hg : o.guard = none) (it : Operand) (hop : o.op = Op.next it false) (hk : Try.prog.underlying kt = some (.int q)) {r cnt : Nat} {left : Int → Bool} (hit : a.eval it = .pointer (some ⟨r, 0, none⟩)) (h : RngV w kt q k r c g left cnt)
    (hDone : cnt = 0 → (∀ x, left x = false) → wpList Try.prog ops Q rest (a.put o.dst (.tuple #[.bool false])) w)
    (hMore : ∀ (x : Int) (v : Value) (w' : World) (cnt' : Nat), (KL q x).wf = true → left x = true → g x = some v → RngV w' kt q k r c g (fun z => left z && !decide (z = x)) cnt' → cnt' < cnt → w.grownBy w' (some r) → w'.heap.size = w.heap.size →
      (Instr.entry (.pointer (some ⟨r, 0, none⟩))).run Try.prog w' = .ok (.tuple #[.int q x, v]) w' → wpList Try.prog ops Q rest (a.put o.dst (.tuple #[.bool true, .int q x, v])) w') : wpList Try.prog ops Q (o :: rest) a w := by
  obtain ⟨D, lf, n, h1, hS, hc, hl⟩ := h
  refine wpList_next_ranges w hg it hop kt (int_keyed hk) VE (Value.int q) (fun v : Value => v) (fun key kl hkey => by obtain ⟨x, rfl, _⟩ := Maps.keyOf_int_inv hk hkey; exact ⟨x, rfl⟩) (fun v y _ => ⟨v, rfl⟩) k r n D lf cnt hit h1
    (fun h0 h2 => hDone h0 fun x => (hl x).symm.trans (h2 _)) fun x v kl y w' cnt' hkey hlk hv hat hrg hlt hgr hsz hen => ?_
  obtain ⟨x', ex, rfl, hwx⟩ := Maps.keyOf_int_inv hk hkey
  cases ex
  obtain ⟨d, ps⟩ := y
  have hd := VE_inv hv
  subst hd
  have hg9 : g x = some v := by
    have h2 := hS.has_ x
    rw [has_true_of_atKey hat] at h2
    cases hgx : g x with
    | none => rw [hgx] at h2; cases h2
    | some u =>
      have h3 := (hS.there x u hgx .nil).symm.trans (hat .nil)
      injection h3 with h3
      rw [h3]
  refine hMore x v w' cnt' hwx ((hl x).symm.trans hlk) hg9 ⟨D, _, n, hrg, hS, hc, fun z => ?_⟩ hlt hgr hsz hen
  show (lf (KL q z) && !(KL q z).sameKey (KL q x)) = _
  rw [hl]
  by_cases e1 : z = x
  · rw [e1, WideAt.sameKey_self (KL_lit q x)]; simp
  · rw [sameKey_ne (KL_ne e1)]; simp [e1]
theorem wpl_del_r (hg : o.guard = none) (m x : Operand) (t : TypeId) (hop : o.op = Op.call { callee := Callee.builtin Builtin.delete, args := #[m, x], argTypes := #[t, kt] }) (hk : Try.prog.underlying kt = some (.int q)) (ht : Try.prog.underlying t = some (.map kt e))
    (hm : a.eval m = .map (some k)) {r cnt : Nat} {left : Int → Bool} (h : RngV w kt q k r c g left cnt) {n : Int} (hx : a.eval x = .int q n) (hn : (KL q n).wf = true)
    (hK : ∀ w' cnt', RngV w' kt q k r (c - if (g n).isSome = true then 1 else 0) (delV g n) (fun z => left z && !decide (z = n)) cnt' → cnt' ≤ cnt → w.grownBy w' (some k) → w'.heap.size = w.heap.size → wpList Try.prog ops Q rest (a.put o.dst (.tuple #[])) w') : wpList Try.prog ops Q (o :: rest) a w := by
  obtain ⟨D, lf, n0, h1, hS, hc, hl⟩ := h
  refine wpList_delete_ranges w hg m x t kt hop e (int_keyed hk) ht VE k r n0 D lf cnt hm h1 _ _ hx (keyOf_int_mk hk hn) fun w' cnt' hr hle hT => hK w' cnt' ⟨_, _, n0, hr, hS.del n, ?_, fun z => ?_⟩ hle hT.grown ?_
  · have hs := size_del (k := KL q n) hS.tidy
    rw [hS.has_ n, hc] at hs
    show Maps.size (D.del (KL q n)) = _
    omega
  · show (lf (KL q z) && !(KL q z).sameKey (KL q n)) = _
    rw [hl]
    by_cases e1 : z = n
    · rw [e1, WideAt.sameKey_self (KL_lit q n)]; simp
    · rw [sameKey_ne (KL_ne e1)]; simp [e1]
  · obtain ⟨es, cl, es', cl', _, rfl⟩ := hT
    simp [Go.ChangeMaps.setBlock]
end
end Go.Proofs.Ytnbicbnighpkjaa
