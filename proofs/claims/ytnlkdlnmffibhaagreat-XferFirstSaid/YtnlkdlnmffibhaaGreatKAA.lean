/- KAA of the stage: texts Mem, CkM, Part, Q1, joined. -/
import Derived.WalkKit
import Derived.WalkSpells
import Derived.Laws.CopyOwn
import Derived.Deep.Draws
import Derived.Maps.RangeWalk
import Derived.RangeFuncNested
import Derived.RangeFuncBound
import Derived.RangeFuncCalls
import Derived.RangeFuncLeaves
set_option linter.unusedSimpArgs false
set_option linter.unusedVariables false
set_option maxRecDepth 8000
namespace Go.Proofs.YtnlkdlnmffibhaaGreat
section
open Go.RowKit
theorem up {a b c : World} (h : Below a.heap.size a b) (k : Below b.heap.size b c) : Below a.heap.size a c := h.trans (k.mono h.size)
theorem keep {p : Prop} (h : p) : Hid p := h
def SR (w : World) (A : Option Addr) (xs : List Value) : Prop :=
  xs ≠ [] → ∃ b o, A = some ⟨b, o, none⟩ ∧ b < w.heap.size ∧ ∀ j u, xs[j]? = some u → w.cell? ⟨b, o + j, none⟩ = some u
theorem SR.nil (w : World) (A : Option Addr) : SR w A [] := fun h => absurd rfl h
theorem SR.step {w w' : World} {A : Option Addr} {xs : List Value} (h : SR w A xs) (hb : Below w.heap.size w w') : SR w' A xs := fun hx => by
  obtain ⟨b, o, e, hlt, hc⟩ := h hx
  exact ⟨b, o, e, Nat.lt_of_lt_of_le hlt hb.size, fun j u hu => (hb.cell (p := ⟨b, o + j, none⟩) hlt).trans (hc j u hu)⟩
theorem SR.at_ {w : World} {A : Option Addr} {xs : List Value} (h : SR w A xs) {j : Nat} (hj : j < xs.length) :
    ∃ b o, A = some ⟨b, o, none⟩ ∧ b < w.heap.size ∧ w.cell? ⟨b, o + j, none⟩ = some xs[j] := by
  obtain ⟨b, o, e, hlt, hc⟩ := h (by intro h0; rw [h0] at hj; cases hj)
  exact ⟨b, o, e, hlt, hc j _ (List.getElem?_eq_getElem hj)⟩
theorem SR.drop {w : World} {A : Option Addr} {xs : List Value} (h : SR w A xs) {k cap : Nat} (hc : xs.length ≤ cap) :
    SR w (if cap = k then A else A.map (·.add k)) (xs.drop k) := fun hx => by
  have hk : k < xs.length := by
    rcases Nat.lt_or_ge k xs.length with h0 | h0
    · exact h0
    · exact absurd (List.drop_eq_nil_of_le h0) hx
  obtain ⟨b, o, rfl, hlt, hcell⟩ := h (by intro h0; rw [h0] at hk; cases hk)
  refine ⟨b, o + k, ?_, hlt, fun j u hu => ?_⟩
  · rw [if_neg (by omega)]
    simp [Addr.add_lit]
  · rw [Nat.add_assoc]
    exact hcell _ u (by rw [← hu, List.getElem?_drop])
theorem SR.take {w : World} {A : Option Addr} {xs : List Value} (h : SR w A xs) (k : Nat) : SR w A (xs.take k) := fun hx => by
  obtain ⟨b, o, e, hlt, hcell⟩ := h (by intro h0; rw [h0] at hx; simp at hx)
  refine ⟨b, o, e, hlt, fun j u hu => hcell j u ?_⟩
  rw [List.getElem?_take] at hu
  split at hu
  · exact hu
  · cases hu
theorem SR.row {w : World} {g : Nat} {t : TypeId} {cur : Array Value} {fr : Nat × Nat} (h : w.heap[g]? = some (.cells cur t fr)) : SR w (some ⟨g, 0, none⟩) cur.toList := fun _ => by
  have hlt : g < w.heap.size := (Array.getElem?_eq_some_iff.1 h).1
  refine ⟨g, 0, rfl, hlt, fun j u hu => ?_⟩
  rw [Nat.zero_add, cell_of_row w g j cur t fr h]
  simpa using hu
theorem SR.of_own {w : World} {base : Nat} {e : TypeId} {n c : Nat} {A : Option Addr} {xs : List Value} (h : w.ownsRow base e 1 (.slice A n c) n xs) : SR w A xs := fun hx => by
  rcases h.2 with ⟨_, h0⟩ | ⟨g, cap, cur, hv, _, hg, _, _, _, ht⟩
  · have := h.1
    rw [h0] at this
    exact absurd (List.eq_nil_of_length_eq_zero (by simpa using this)) hx
  · injection hv with hA
    subst hA
    have := (SR.row hg).take (n * 1)
    rw [ht] at this
    exact this hx
def bc (bs : List UInt8) : List Value := bs.map fun b => .int .u8 (b.toNat : Int)
theorem bc_length (bs : List UInt8) : (bc bs).length = bs.length := by simp [bc]
theorem bc_append (xs ys : List UInt8) : bc (xs ++ ys) = bc xs ++ bc ys := by simp [bc]
theorem bc_drop (bs : List UInt8) (k : Nat) : bc (bs.drop k) = (bc bs).drop k := by simp [bc, List.map_drop]
theorem bc_take (bs : List UInt8) (k : Nat) : bc (bs.take k) = (bc bs).take k := by simp [bc, List.map_take]
theorem bc_one (bs : List UInt8) : ∀ u ∈ bc bs, u.oneCell' = true := by
  intro u hu
  obtain ⟨_, _, rfl⟩ := List.mem_map.1 hu
  rfl
theorem bc_getElem? (bs : List UInt8) (j : Nat) : (bc bs)[j]? = bs[j]?.map fun b => .int .u8 (b.toNat : Int) := by simp [bc]
def BR (w : World) (A : Option Addr) (bs : List UInt8) : Prop := SR w A (bc bs)
theorem BR.sr {w : World} {A : Option Addr} {bs : List UInt8} (h : BR w A bs) : SR w A (bc bs) := h
theorem BR.nil (w : World) (A : Option Addr) : BR w A [] := SR.nil w A
theorem BR.step {w w' : World} {A : Option Addr} {bs : List UInt8} (h : BR w A bs) (hb : Below w.heap.size w w') : BR w' A bs := SR.step h hb
theorem BR.drop {w : World} {A : Option Addr} {bs : List UInt8} (h : BR w A bs) {k cap : Nat} (hc : bs.length ≤ cap) :
    BR w (if cap = k then A else A.map (·.add k)) (bs.drop k) := by
  have := SR.drop h (k := k) (cap := cap) (by rw [bc_length]; exact hc)
  rw [← bc_drop] at this
  exact this
theorem BR.take {w : World} {A : Option Addr} {bs : List UInt8} (h : BR w A bs) (k : Nat) : BR w A (bs.take k) := by
  have := SR.take h k
  rw [← bc_take] at this
  exact this
theorem BR.row {w : World} {g : Nat} {t : TypeId} {bs : List UInt8} {fr : Nat × Nat} (h : w.heap[g]? = some (.cells (bc bs).toArray t fr)) : BR w (some ⟨g, 0, none⟩) bs := by
  have := SR.row h
  simpa [BR] using this
theorem BR.of_own {w : World} {base : Nat} {e : TypeId} {n c : Nat} {A : Option Addr} {bs : List UInt8} (h : w.ownsRow base e 1 (.slice A n c) n (bc bs)) : BR w A bs := SR.of_own h
def b8 (n : Int) : UInt8 := UInt8.ofNat (n % 256).toNat
theorem b8_toNat (n : Int) : ((b8 n).toNat : Int) = n % 256 := by
  unfold b8
  rw [UInt8.toNat_ofNat']
  omega
theorem b8_of (n : Int) (h0 : 0 ≤ n) (h1 : n < 256) : ((b8 n).toNat : Int) = n := by rw [b8_toNat]; omega
theorem bc_nums (l : List Int) (h : ∀ n ∈ l, 0 ≤ n ∧ n < 256) : bc (l.map b8) = l.map (Value.int .u8) := by
  simp only [bc, List.map_map]
  apply List.map_congr_left
  intro n hn
  have := h n hn
  simp [b8_of n this.1 this.2]
def BS (w : World) (A : Option Addr) (n c : Nat) (bs : List UInt8) : Prop := n = bs.length ∧ n ≤ c ∧ BR w A bs
theorem BS.len {w : World} {A : Option Addr} {n c : Nat} {bs : List UInt8} (h : BS w A n c bs) : n = bs.length := h.1
theorem BS.cap {w : World} {A : Option Addr} {n c : Nat} {bs : List UInt8} (h : BS w A n c bs) : n ≤ c := h.2.1
theorem BS.br {w : World} {A : Option Addr} {n c : Nat} {bs : List UInt8} (h : BS w A n c bs) : BR w A bs := h.2.2
theorem BS.step {w w' : World} {A : Option Addr} {n c : Nat} {bs : List UInt8} (h : BS w A n c bs) (hb : Below w.heap.size w w') : BS w' A n c bs := ⟨h.1, h.2.1, h.2.2.step hb⟩
theorem BS.nil (w : World) : BS w none 0 0 [] := ⟨rfl, Nat.le_refl _, BR.nil _ _⟩
theorem own_mono {w : World} {base base' : Nat} {e : TypeId} {size : Nat} {v : Value} {n : Nat} {xs : List Value} (h : w.ownsRow base e size v n xs) (hB : base' ≤ base) : w.ownsRow base' e size v n xs := by
  refine ⟨h.1, ?_⟩
  rcases h.2 with h | ⟨g, cap, cur, hv, hg, r⟩
  · exact .inl h
  · exact .inr ⟨g, cap, cur, hv, Nat.le_trans hB hg, r⟩
theorem own_row {w : World} {g : Nat} {e : TypeId} {xs : List Value} (hg : w.heap[g]? = some (.cells xs.toArray e (0, 0))) (n : Nat) (hn : n = xs.length) (hm : n ≤ maxLen) : w.ownsRow g e 1 (.slice (some ⟨g, 0, none⟩) n n) n xs :=
  ⟨by omega, .inr ⟨g, n, _, rfl, Nat.le_refl _, hg, Nat.le_refl _, hm, by simp; omega, by simp [hn]⟩⟩
def RetB (w : World) (bs : List UInt8) (e : Ending) (w' : World) : Prop :=
  ∃ A n c, e = .returned (.slice A n c) ∧ BS w' A n c bs ∧ Below w.heap.size w w' ∧ Hid (w'.ownsRow w.heap.size 5 1 (.slice A n c) n (bc bs))
theorem BS.laid (w : World) (t : TypeId) (l : List Int) (h : ∀ n ∈ l, 0 ≤ n ∧ n < 256) : BS (w.alloc (.cells (l.map (Value.int .u8)).toArray t)) (some ⟨w.heap.size, 0, none⟩) l.length l.length (l.map b8) := by
  refine ⟨by simp, Nat.le_refl _, BR.row (t := t) (fr := (0, 0)) ?_⟩
  rw [bc_nums l h]
  exact heap_alloc_new w _
theorem below_lay (w : World) (o : Obj) : Below w.heap.size w (w.alloc o) := (Below.refl _ _).alloc (Nat.le_refl _) o
section
variable {P : Program} {w : World} {ops : Array Oper} {rest : List Oper} {o : Oper} {a : Act} {Q : Exit → Act → World → Prop}
theorem cells_made (z : Value) (hz : z.cells = #[z]) (n : Nat) : (madeCells z.cells n) = (List.replicate n z).toArray := by
  rw [hz]
  apply Array.ext
  · simp [madeCells]
  · intro k h1 h2
    simp [madeCells, Nat.mod_one]
theorem wpl_wanted (hw : Region.wanted o (yielded ops a.tmps) = true) (h : ∀ K : Act → World → Prop, (∀ a w, wpList P ops Q rest a w → K a w) → o.wp P a w K Q) : wpList P ops Q (o :: rest) a w :=
  wpList_step fun K hK => by rw [if_pos hw]; exact h K hK
theorem wpl_make (hg : Region.wanted o (yielded ops a.tmps) = true) (l c : Operand) (t : TypeId) (hop : o.op = Op.makeSlice t l c) (e : TypeId) (i : TypeInfo) (z : Value) (ht : P.underlying t = some (.slice e)) (hi : P.info? e = some i) (hz : i.zero = some z) (hs : i.size = 1)
    (hz1 : z.cells = #[z]) (n : Nat) (L : Int) (hl : a.eval l = .int .i64 L) (hc : a.eval c = .int .i64 L) (hL : L = (n : Int)) (hb : i.bytes * n ≤ 281474976710656) (h63 : n ≤ maxLen)
    (h : ∀ w', Hid (w'.heap[w.heap.size]? = some (.cells (List.replicate n z).toArray e (0, 0))) → Below w.heap.size w w' → w.heap.size < w'.heap.size → wpList P ops Q rest (a.put o.dst (.slice (some ⟨w.heap.size, 0, none⟩) n n)) w') :
    wpList P ops Q (o :: rest) a w := by
  subst hL
  refine wpl_wanted hg fun K hK' => ?_
  have h63' : (n : Int) ≤ 9223372036854775807 := by simp only [maxLen] at h63; omega
  have hb' : (i.bytes : Int) * (n : Int) ≤ 281474976710656 := by
    have h : ((i.bytes * n : Nat) : Int) ≤ 281474976710656 := by omega
    rwa [Int.natCast_mul] at h
  have hr := run_make (P := P) w t e i z ht hi hz .i64 .i64 n n (by omega) (by omega) hb' h63'
  simp only [Int.toNat_natCast, hs, Nat.mul_one, cells_made z hz1] at hr
  unfold Oper.wp
  simp [execOp, hop, hl, hc, hr, Result.andThen]
  exact hK' _ _ (h _ (show _ = _ from heap_alloc_new w _) ((Below.refl _ _).alloc (Nat.le_refl _) _) (by simp))
theorem own_shape {w : World} {base : Nat} {e : TypeId} {n : Nat} {v : Value} {xs : List Value} (h : w.ownsRow base e 1 v n xs) : ∃ A c, v = .slice A n c ∧ n = xs.length ∧ n ≤ c ∧ SR w A xs := by
  have h1 : n = xs.length := by have := h.1; omega
  rcases h.2 with ⟨rfl, h0⟩ | ⟨g, cap, cur, rfl, _, _, hnc, _⟩
  · subst h0
    have : xs = [] := List.eq_nil_of_length_eq_zero h1.symm
    subst this
    exact ⟨none, 0, rfl, rfl, Nat.le_refl _, SR.nil _ _⟩
  · exact ⟨_, cap, rfl, h1, hnc, SR.of_own h⟩
theorem BS.of_own {w : World} {base : Nat} {e : TypeId} {n c : Nat} {A : Option Addr} {bs : List UInt8} (h : w.ownsRow base e 1 (.slice A n c) n (bc bs)) : BS w A n c bs := by
  obtain ⟨A', c', hv, hl, hc, _⟩ := own_shape h
  injection hv with _ _ h3
  subst h3
  exact ⟨by rw [hl, bc_length], hc, BR.of_own h⟩
theorem run_append_bare (base : Nat) (t ty e : TypeId) (i : TypeInfo) (ht : P.underlying t = some (.slice e)) (hi : P.info? e = some i) (v : Value) (n : Nat) (xs : List Value) (hown : w.ownsRow base e 1 v n xs) (c : Nat) :
    (Builtin.append_ #[t, t] ty #[v, .slice none 0 c]).run P w = .ok v w := by
  rcases hown.2 with ⟨rfl, rfl⟩ | ⟨g, cap, cur, rfl, _, _, hnc, _⟩
  · simp [Builtin.append_, run_underlying ht, sizeOf, typeInfo, hi, Builtin.lenOf, Builtin.firstCells]
  · simp [Builtin.append_, run_underlying ht, sizeOf, typeInfo, hi, Builtin.lenOf, Builtin.firstCells, storeCells, hnc]
theorem run_append_to (base : Nat) (t ty e : TypeId) (i : TypeInfo) (z : Value) (ht : P.underlying t = some (.slice e)) (hi : P.info? e = some i) (hz : i.zero = some z) (hsize : i.size = 1) (hz1 : z.cells.size = 1)
    (v : Value) (n : Nat) (xs : List Value) (hown : w.ownsRow base e 1 v n xs) (B : Option Addr) (m c : Nat) (news : List Value) (hm : m = news.length) (hr : SR w B news) (h1 : ∀ u ∈ news, u.oneCell' = true)
    (h63 : n + m ≤ maxLen) (hbytes : (n + m) * i.bytes ≤ 140737488355328) (hbase : base ≤ w.heap.size) :
    ∃ v' w', (Builtin.append_ #[t, t] ty #[v, .slice B m c]).run P w = .ok v' w' ∧ w'.ownsRow base e 1 v' (n + m) (xs ++ news) ∧ Below base w w' := by
  have fin : ∀ (b : Addr), (∀ j u, news[j]? = some u → w.cell? (b.add j) = some u) → ∃ v' w', (Builtin.append_ #[t, t] ty #[v, .slice (some b) m c]).run P w = .ok v' w' ∧ w'.ownsRow base e 1 v' (n + m) (xs ++ news) ∧ Below base w w' := by
    intro b hb
    obtain ⟨v', w', hrun, h2, h3, _⟩ := run_append_own (P := P) w base t ty e i z 1 i.bytes ht hi hz hsize rfl hz1 (by omega) v n xs hown b m c news (by omega) hb h1 h63 hbytes hbase
    exact ⟨v', w', hrun, h2, ((Below.refl base w).grown h3 hbase fun k hk => (hown.lt k hk).1)⟩
  rcases news with _ | ⟨x, l⟩
  · obtain rfl : m = 0 := by simpa using hm
    rcases B with _ | b
    · exact ⟨v, w, run_append_bare base t ty e i ht hi v n xs hown c, by simpa using hown, Below.refl _ _⟩
    · exact fin b (fun j u hj => by simp at hj)
  · obtain ⟨b, o, rfl, _, hc⟩ := hr (by simp)
    exact fin _ (fun j u hj => by rw [Addr.add_lit]; exact hc j u hj)
theorem wpl_append (hg : Region.wanted o (yielded ops a.tmps) = true) (s x : Operand) (t : TypeId) (ho : o.op = .call { callee := .builtin .append, args := #[s, x], argTypes := #[t, t] })
    (base : Nat) (e : TypeId) (i : TypeInfo) (z : Value) (ht : P.underlying t = some (.slice e)) (hi : P.info? e = some i) (hz : i.zero = some z) (hsize : i.size = 1) (hz1 : z.cells.size = 1)
    (v : Value) (n : Nat) (xs : List Value) (hs : a.eval s = v) (hown : w.ownsRow base e 1 v n xs) (B : Option Addr) (m c : Nat) (news : List Value) (hx : a.eval x = .slice B m c) (hm : m = news.length) (hr : SR w B news) (h1 : ∀ u ∈ news, u.oneCell' = true)
    (h63 : n + m ≤ maxLen) (hbytes : (n + m) * i.bytes ≤ 140737488355328) (hbase : base ≤ w.heap.size)
    (h : ∀ A' c' w', Hid (w'.ownsRow base e 1 (.slice A' (n + m) c') (n + m) (xs ++ news)) → Below base w w' → wpList P ops Q rest (a.put o.dst (.slice A' (n + m) c')) w') : wpList P ops Q (o :: rest) a w := by
  refine wpl_wanted hg fun K hK => ?_
  obtain ⟨v', w', hrun, h2, h3⟩ := run_append_to (P := P) base t o.type e i z ht hi hz hsize hz1 v n xs hown B m c news hm hr h1 h63 hbytes hbase
  obtain ⟨A', c', rfl, _⟩ := own_shape h2
  unfold Oper.wp execOp
  simp only [ho, resolve, invoke, builtin, Sem.run_bind, Sem.run_pure, Result.andThen_ok, List.map_toArray, List.map_cons, List.map_nil, hs, hx, hrun]
  exact hK _ _ (h A' c' w' (show _ from h2) h3)
end
end
section
open Go.RowKit
def flatF {α : Type} (f : α → List Value) (l : List α) : List Value := l.flatMap f
section
variable {α : Type} {f : α → List Value} {K : Nat} (hf : ∀ x, (f x).length = K)
include hf
theorem flatF_len (l : List α) : (flatF f l).length = l.length * K := by
  induction l with
  | nil => simp [flatF]
  | cons x r ih =>
    simp only [flatF, List.flatMap_cons, List.length_append, List.length_cons] at ih ⊢
    rw [ih, hf, Nat.add_mul, Nat.one_mul, Nat.add_comm]
theorem flatF_get : ∀ (l : List α) (j : Nat) (x : α), l[j]? = some x → ∀ i, i < K → (flatF f l)[j * K + i]? = (f x)[i]?
  | [], j, x, h, _, _ => by simp at h
  | y :: r, 0, x, h, i, hi => by
    simp at h
    subst h
    simp only [flatF, List.flatMap_cons]
    rw [Nat.zero_mul, Nat.zero_add, List.getElem?_append_left (by rw [hf]; exact hi)]
  | y :: r, j + 1, x, h, i, hi => by
    have := flatF_get r j x (by simpa using h) i hi
    simp only [flatF, List.flatMap_cons]
    rw [List.getElem?_append_right (by rw [hf, Nat.add_mul]; omega), hf, show (j + 1) * K + i - K = j * K + i by rw [Nat.add_mul]; omega]
    exact this
end
theorem flatF_append {α : Type} {f : α → List Value} (l m : List α) : flatF f (l ++ m) = flatF f l ++ flatF f m := by simp [flatF]
theorem flatF_one {α : Type} {f : α → List Value} (h : ∀ x, ∀ u ∈ f x, u.oneCell' = true) (l : List α) : ∀ u ∈ flatF f l, u.oneCell' = true := fun u hu => by
  obtain ⟨x, _, hx⟩ := List.mem_flatMap.1 hu
  exact h x u hx
abbrev PV := Int × Option Addr × Nat × Nat
def PV.cells (x : PV) : List Value := [.int .u16 x.1, .slice x.2.1 x.2.2.1 x.2.2.2]
theorem PV.len (x : PV) : x.cells.length = 2 := rfl
def PR (w : World) (A : Option Addr) (n c : Nat) (l : List PV) : Prop := n = l.length ∧ n ≤ c ∧ SR w A (flatF PV.cells l)
theorem PR.step {w w' : World} {A : Option Addr} {n c : Nat} {l : List PV} (h : PR w A n c l) (hb : Below w.heap.size w w') : PR w' A n c l := ⟨h.1, h.2.1, h.2.2.step hb⟩
theorem PR.nil (w : World) : PR w none 0 0 [] := ⟨rfl, Nat.le_refl _, SR.nil _ _⟩
structure CX where
  kd : Int
  fl : Int
  a : Int
  b : Int
  ou : Int
  si : Int
  pp : Int
  bl : Option Addr × Nat × Nat
  du : Option Addr × Nat × Nat
  sk : Option Addr × Nat × Nat
  pr : Option Addr × Nat × Nat
  da : Option Addr × Nat × Nat
  ps : List PV
  bs : List UInt8
def CX.cells (x : CX) : List Value := [.int .u8 x.kd, .int .u8 x.fl, .int .u32 x.a, .int .u32 x.b, .int .u16 x.ou, .int .u16 x.si, .int .u32 x.pp, .slice x.bl.1 x.bl.2.1 x.bl.2.2, .slice x.du.1 x.du.2.1 x.du.2.2, .slice x.sk.1 x.sk.2.1 x.sk.2.2, .slice x.pr.1 x.pr.2.1 x.pr.2.2, .slice x.da.1 x.da.2.1 x.da.2.2]
theorem CX.len (x : CX) : x.cells.length = 12 := rfl
theorem CX.one (x : CX) : ∀ u ∈ x.cells, u.oneCell' = true := by
  intro u hu
  simp only [CX.cells, List.mem_cons, List.not_mem_nil, or_false] at hu
  rcases hu with rfl | rfl | rfl | rfl | rfl | rfl | rfl | rfl | rfl | rfl | rfl | rfl <;> rfl
structure CV (w : World) (x : CX) : Prop where
  kd : 0 ≤ x.kd ∧ x.kd < 256
  fl : 0 ≤ x.fl ∧ x.fl < 256
  a : 0 ≤ x.a ∧ x.a < 4294967296
  b : 0 ≤ x.b ∧ x.b < 4294967296
  ou : 0 ≤ x.ou ∧ x.ou < 65536
  si : 0 ≤ x.si ∧ x.si < 65536
  pp : 0 ≤ x.pp ∧ x.pp < 4294967296
  ps : PR w x.pr.1 x.pr.2.1 x.pr.2.2 x.ps
  bs : BS w x.da.1 x.da.2.1 x.da.2.2 x.bs
theorem CV.step {w w' : World} {x : CX} (h : CV w x) (hb : Below w.heap.size w w') : CV w' x := ⟨h.kd, h.fl, h.a, h.b, h.ou, h.si, h.pp, h.ps.step hb, h.bs.step hb⟩
def CS (w : World) (A : Option Addr) (n c : Nat) (l : List CX) : Prop := n = l.length ∧ n ≤ c ∧ SR w A (flatF CX.cells l) ∧ ∀ x ∈ l, CV w x
theorem CS.step {w w' : World} {A : Option Addr} {n c : Nat} {l : List CX} (h : CS w A n c l) (hb : Below w.heap.size w w') : CS w' A n c l := ⟨h.1, h.2.1, h.2.2.1.step hb, fun x hx => (h.2.2.2 x hx).step hb⟩
theorem CS.nil (w : World) : CS w none 0 0 [] := ⟨rfl, Nat.le_refl _, SR.nil _ _, by simp⟩
def At12 (w : World) (b o : Nat) (x : CX) : Prop :=
  w.cell? ⟨b, o, none⟩ = some (.int .u8 x.kd) ∧ w.cell? ⟨b, o + 1, none⟩ = some (.int .u8 x.fl) ∧ w.cell? ⟨b, o + 2, none⟩ = some (.int .u32 x.a) ∧ w.cell? ⟨b, o + 3, none⟩ = some (.int .u32 x.b) ∧ w.cell? ⟨b, o + 4, none⟩ = some (.int .u16 x.ou) ∧ w.cell? ⟨b, o + 5, none⟩ = some (.int .u16 x.si) ∧ w.cell? ⟨b, o + 6, none⟩ = some (.int .u32 x.pp) ∧
  w.cell? ⟨b, o + 7, none⟩ = some (.slice x.bl.1 x.bl.2.1 x.bl.2.2) ∧ w.cell? ⟨b, o + 8, none⟩ = some (.slice x.du.1 x.du.2.1 x.du.2.2) ∧ w.cell? ⟨b, o + 9, none⟩ = some (.slice x.sk.1 x.sk.2.1 x.sk.2.2) ∧ w.cell? ⟨b, o + 10, none⟩ = some (.slice x.pr.1 x.pr.2.1 x.pr.2.2) ∧ w.cell? ⟨b, o + 11, none⟩ = some (.slice x.da.1 x.da.2.1 x.da.2.2)
theorem CS.at_ {w : World} {A : Option Addr} {n c : Nat} {l : List CX} (h : CS w A n c l) {j : Nat} (hj : j < n) :
    ∃ b o x, A = some ⟨b, o, none⟩ ∧ b < w.heap.size ∧ At12 w b (o + j * 12) x ∧ l[j]? = some x ∧ CV w x := by
  obtain ⟨h1, _, h3, h4⟩ := h
  have hl : j < l.length := by omega
  have hg := flatF_get (f := CX.cells) CX.len l j l[j] (List.getElem?_eq_getElem hl)
  obtain ⟨b, o, e, hlt, hc⟩ := h3 (by intro h0; have := flatF_len (f := CX.cells) CX.len l; rw [h0] at this; simp at this; omega)
  have key : ∀ i v, i < 12 → (l[j]).cells[i]? = some v → w.cell? ⟨b, o + j * 12 + i, none⟩ = some v := fun i v hi hv => by
    rw [Nat.add_assoc]
    exact hc _ _ ((hg i hi).trans hv)
  exact ⟨b, o, l[j], e, hlt, ⟨key 0 _ (by decide) rfl, key 1 _ (by decide) rfl, key 2 _ (by decide) rfl, key 3 _ (by decide) rfl, key 4 _ (by decide) rfl, key 5 _ (by decide) rfl, key 6 _ (by decide) rfl, key 7 _ (by decide) rfl, key 8 _ (by decide) rfl, key 9 _ (by decide) rfl, key 10 _ (by decide) rfl, key 11 _ (by decide) rfl⟩, List.getElem?_eq_getElem hl, h4 _ (List.getElem_mem _)⟩
theorem CS.of_own {w : World} {base n c : Nat} {A : Option Addr} {l : List CX} {e : TypeId} (h : w.ownsRow base e 12 (.slice A n c) n (flatF CX.cells l)) (hv : ∀ x ∈ l, CV w x) : CS w A n c l := by
  have hlen := h.1
  rw [flatF_len CX.len] at hlen
  rcases h.2 with ⟨h0, h1⟩ | ⟨g, cap, cur, hv', _, hg, hnc, _, _, ht⟩
  · injection h0 with a1 a2 a3
    subst a1 a2 a3
    exact ⟨by omega, Nat.le_refl _, fun hx => absurd (List.eq_nil_of_length_eq_zero (by rw [flatF_len CX.len]; omega)) hx, hv⟩
  · injection hv' with a1 a2 a3
    subst a1 a3
    refine ⟨by omega, hnc, ?_, hv⟩
    have := (SR.row hg).take (n * 12)
    rw [ht] at this
    exact this
structure MX where
  st : Int
  un : Bool
  pp : Int
  da : Option Addr × Nat × Nat
  bs : List UInt8
def MX.cells (x : MX) : List Value := [.int .u16 x.st, .bool x.un, .int .u32 x.pp, .slice x.da.1 x.da.2.1 x.da.2.2]
structure MV (w : World) (x : MX) : Prop where
  st : 0 ≤ x.st ∧ x.st < 65536
  pp : 0 ≤ x.pp ∧ x.pp < 4294967296
  bs : BS w x.da.1 x.da.2.1 x.da.2.2 x.bs
theorem MV.step {w w' : World} {x : MX} (h : MV w x) (hb : Below w.heap.size w w') : MV w' x := ⟨h.st, h.pp, h.bs.step hb⟩
end
section
open Go.RowKit Go.Maps
structure Part (S : Nat → Prop) (w w' : World) : Prop where
  os : w'.os = w.os
  tape : w'.tape = w.tape
  output : w'.output = w.output
  size : w.heap.size ≤ w'.heap.size
  block : ∀ k, k < w.heap.size → ¬ S k → w'.heap[k]? = w.heap[k]?
theorem Part.refl (S : Nat → Prop) (w : World) : Part S w w := ⟨rfl, rfl, rfl, Nat.le_refl _, fun _ _ _ => rfl⟩
theorem Part.trans {S S' : Nat → Prop} {a b c : World} (h : Part S a b) (k : Part S' b c) (hs : ∀ i, S' i → S i ∨ a.heap.size ≤ i) : Part S a c :=
  ⟨k.os.trans h.os, k.tape.trans h.tape, k.output.trans h.output, Nat.le_trans h.size k.size, fun i hi hn => (k.block i (Nat.lt_of_lt_of_le hi h.size) fun hc => by
    rcases hs i hc with h1 | h1
    · exact hn h1
    · omega).trans (h.block i hi hn)⟩
theorem Part.of_below {w w' : World} (S : Nat → Prop) (h : Below w.heap.size w w') : Part S w w' := ⟨h.os, h.tape, h.output, h.size, fun k hk _ => h.block k hk⟩
theorem Part.of_grown {w w' : World} {row : Option Nat} {S : Nat → Prop} (h : w.grownBy w' row) (hr : ∀ k, row = some k → S k) : Part S w w' :=
  ⟨h.os, h.tape, h.output, h.size, fun k hk hn => h.block k hk fun e => hn (hr k e.symm)⟩
theorem Part.below {S : Nat → Prop} {w w' : World} (h : Part S w w') {B : Nat} (hB : B ≤ w.heap.size) (hs : ∀ k, S k → B ≤ k) : Below B w w' :=
  ⟨h.os, h.tape, h.output, h.size, fun k hk => h.block k (by omega) fun hc => by have := hs k hc; omega⟩
theorem Part.mono {S S' : Nat → Prop} {w w' : World} (h : Part S w w') (hs : ∀ k, S k → S' k) : Part S' w w' := ⟨h.os, h.tape, h.output, h.size, fun k hk hn => h.block k hk fun hc => hn (hs k hc)⟩
theorem Part.alloc {S : Nat → Prop} {a w : World} (h : Part S a w) (o : Obj) : Part S a (w.alloc o) :=
  h.trans (Part.of_below (fun _ => False) (below_lay w o)) fun _ hc => hc.elim
theorem Part.setCell {S : Nat → Prop} {a w : World} (h : Part S a w) {p : Addr} (hp : S p.block ∨ a.heap.size ≤ p.block) (u : Value) : Part S a (w.setCell p u) :=
  h.trans (S' := fun k => k = p.block) ⟨rfl, rfl, rfl, by simp [World.setCell], fun k _ hk => Below.heap_setCell _ _ _ _ hk⟩ fun i hi => by rw [hi]; exact hp
theorem Part.drew {S : Nat → Prop} {a w : World} (h : Part S a w) : Part S a w.drew := ⟨h.os, h.tape, h.output, h.size, h.block⟩
theorem Part.drewN {S : Nat → Prop} {a w : World} (h : Part S a w) (n : Nat) : Part S a (w.drewN n) := ⟨h.os, h.tape, h.output, h.size, h.block⟩
theorem Part.sr {S : Nat → Prop} {w w' : World} (h : Part S w w') {A : Option Addr} {xs : List Value} (hs : SR w A xs) (hA : ∀ a, A = some a → ¬ S a.block) : SR w' A xs := fun hx => by
  obtain ⟨b, o, e, hlt, hc⟩ := hs hx
  exact ⟨b, o, e, Nat.lt_of_lt_of_le hlt h.size, fun j u hu => (World.cell?_of_block (w := w) (a := ⟨b, o + j, none⟩) (h.block b hlt (hA _ e))).trans (hc j u hu)⟩
theorem Part.own {S : Nat → Prop} {w w' : World} (h : Part S w w') {base : Nat} {e : TypeId} {size : Nat} {v : Value} {n : Nat} {xs : List Value} (ho : w.ownsRow base e size v n xs) (hv : ∀ g, v.ownBlock = some g → ¬ S g) : w'.ownsRow base e size v n xs := by
  refine ⟨ho.1, ?_⟩
  rcases ho.2 with hn | ⟨g, cap, cur, rfl, hb, hgg, rest⟩
  · exact .inl hn
  · refine .inr ⟨g, cap, cur, rfl, hb, ?_, rest⟩
    rw [h.block g (Array.getElem?_eq_some_iff.1 hgg).1 (hv g (by simp [Value.ownBlock]))]
    exact hgg
theorem grown_set (w : World) (a : Addr) (u : Value) : w.grownBy (w.setCell a u) (some a.block) :=
  ⟨rfl, rfl, rfl, by simp [World.setCell], fun i _ hi => Below.heap_setCell _ _ _ _ fun e => hi (by rw [e])⟩
end
section
open Go.RowKit
structure StN (N : Nat) (A B : World) : Prop where
  os : B.os = A.os
  tape : B.tape = A.tape
  output : B.output = A.output
  size : A.heap.size ≤ B.heap.size
  blk : ∀ k o, A.heap[k]? = some o → (o.isCells = true ∨ k < N) → B.heap[k]? = some o
theorem StN.trans {N : Nat} {A B C : World} (h : StN N A B) (k : StN N B C) : StN N A C :=
  ⟨k.os.trans h.os, k.tape.trans h.tape, k.output.trans h.output, Nat.le_trans h.size k.size, fun i o hi ho => k.blk i o (h.blk i o hi ho) ho⟩
theorem StN.mono {N M : Nat} {A B : World} (h : StN N A B) (hM : M ≤ N) : StN M A B :=
  ⟨h.os, h.tape, h.output, h.size, fun i o hi ho => h.blk i o hi (ho.imp_right fun hk => by omega)⟩
theorem StN.of_below {N : Nat} {A B : World} (h : Below A.heap.size A B) : StN N A B :=
  ⟨h.os, h.tape, h.output, h.size, fun i o hi _ => (h.block i (Array.getElem?_eq_some_iff.1 hi).1).trans hi⟩
theorem StN.putObj {N : Nat} {A : World} {l : Nat} {o : Obj} (o' : Obj) (h : A.heap[l]? = some o) (ho : o.isCells = false) (hl : N ≤ l) : StN N A (A.putObj l o') :=
  ⟨rfl, rfl, rfl, by simp, fun k p hk hp => by
    refine (World.putObj_heap_other fun e => ?_).trans hk
    subst e
    rw [h] at hk
    cases hk
    rcases hp with hp | hp
    · rw [ho] at hp; cases hp
    · omega⟩
theorem StN.drew (N : Nat) (A : World) : StN N A A.drew := ⟨rfl, rfl, rfl, Nat.le_refl _, fun _ _ h _ => h⟩
theorem StN.drewN (N : Nat) (A : World) (q : Nat) : StN N A (A.drewN q) := ⟨rfl, rfl, rfl, Nat.le_refl _, fun _ _ h _ => h⟩
theorem StN.below {N : Nat} {w A B : World} (h : StN N A B) (hb : Below w.heap.size w A) (hN : w.heap.size ≤ N) : Below w.heap.size w B :=
  ⟨h.os.trans hb.os, h.tape.trans hb.tape, h.output.trans hb.output, Nat.le_trans hb.size h.size, fun k hk => by
    have h1 := hb.block k hk
    have h2 : k < A.heap.size := Nat.lt_of_lt_of_le hk hb.size
    exact (h.blk k _ (Array.getElem?_eq_getElem h2) (.inr (by omega))).trans ((Array.getElem?_eq_getElem h2).symm.trans h1)⟩
theorem StN.cell {N : Nat} {A B : World} (h : StN N A B) {a : Addr} {v : Value} (hc : A.cell? a = some v) : B.cell? a = some v := by
  have hlt := World.block_lt_of_cell? A _ hc
  obtain ⟨o, ho⟩ : ∃ o, A.heap[a.block]? = some o := ⟨_, Array.getElem?_eq_getElem hlt⟩
  have hcs : o.isCells = true := by
    unfold World.cell? at hc
    rw [ho] at hc
    cases o <;> simp_all [Obj.isCells]
  rw [← hc]
  exact World.cell?_of_block ((h.blk _ _ ho (.inl hcs)).trans ho.symm)
theorem StN.cells {N : Nat} {A B : World} (h : StN N A B) {g : Nat} {cs : Array Value} {t : TypeId} {fr : Nat × Nat} (hc : A.heap[g]? = some (.cells cs t fr)) : B.heap[g]? = some (.cells cs t fr) := h.blk _ _ hc (.inl rfl)
theorem StN.own {N : Nat} {A B : World} (h : StN N A B) {base : Nat} {e : TypeId} {size n : Nat} {v : Value} {xs : List Value} (ho : A.ownsRow base e size v n xs) : B.ownsRow base e size v n xs := by
  refine ⟨ho.1, ?_⟩
  rcases ho.2 with hn | ⟨g, cap, cur, rfl, hb, hgg, rest⟩
  · exact .inl hn
  · exact .inr ⟨g, cap, cur, rfl, hb, h.cells hgg, rest⟩
variable {F : Fence} {n : Nat} {P : Program}
def RoundIx (J : World → Prop) (Jx : Code → World → Prop) (Kp : World → World → Prop) (B : Nat) (W₂ : World) : Exit → Act → World → Prop
  | .normal, _, W' => KeepsFrom B W₂ W' ∧ Kp W₂ W' ∧ J W'
  | .ret, _, W' => KeepsFrom B W₂ W' ∧ Kp W₂ W' ∧ Jx .ret W'
  | .exit id, _, W' => KeepsFrom B W₂ W' ∧ Kp W₂ W' ∧ Jx (.exit id) W'
  | .goto t, _, W' => KeepsFrom B W₂ W' ∧ Kp W₂ W' ∧ Jx (.goto t) W'
  | .panic _, _, _ => False
  | .outgrown, _, _ => False
def SeqIx (F : Fence) (n : Nat) (P : Program) (g : Nat) (lb : Array Value) (N : Nat) (enc : Nat → Array Value) (X Own : Nat → World → Prop) (Kp : World → World → Prop) (w : World) : Prop :=
  ∀ (l : Nat) (K : Nat → World → Prop) (Kx : World → Prop) (W : World), W.heap.size = w.heap.size + 2 →
    (∀ i A B, StN W.heap.size A B → K i A → K i B) → (∀ A B, StN W.heap.size A B → Kx A → Kx B) →
    (∀ i A, K i A → Own i A) →
    (∀ i A, i < N → K i A → ¬ X i A → K (i + 1) A) →
    (∀ i A, i < N → K i A → X i A → YieldAt F (n - 1) P l (enc i) A fun e W' => (e = .returned (.bool true) ∧ K (i + 1) W' ∧ Kp A W') ∨ (e = .returned (.bool false) ∧ Kx W' ∧ Kp A W')) →
    K 0 W →
    CallsIn F n P g (#[.func (.yield l) #[] #[]] ++ lb) W fun e W' => (∃ v, e = .returned v) ∧ (K N W' ∨ Kx W')
theorem rangeFunc_ix {g : Operand} {ps : Array Tmp} {assign body : Code} {Q : Exit → Act → World → Prop} {a : Act} {w : World}
    (hro : F.round = none) (h1 : 1 ≤ n) {gf : Nat} {lb : Array Value} (hg : a.eval g = .func (.func gf) #[] lb) (hFg : F.fn gf) (eg : ∀ args w, (callFunc gf args).run P w = .ok (.enter gf args) w)
    {N : Nat} {enc : Nat → Array Value} (hps : ∀ x, (enc x).size = ps.size)
    (X Own : Nat → World → Prop) (Kp : World → World → Prop) (J : Nat → World → Prop) (Jx : Code → World → Prop)
    (hit : SeqIx F (n - 1) P gf lb N enc X Own Kp w)
    (hJ : ∀ i A B, StN w.heap.size A B → J i A → J i B) (hJx : ∀ c A B, StN w.heap.size A B → Jx c A → Jx c B) (hX : ∀ i A B, StN w.heap.size A B → X i A → X i B)
    (hKp : ∀ W l o o' W' p p', w.heap.size ≤ l → l < w.heap.size + 2 → W.heap[l]? = some o → o.isCells = false → W'.heap[l]? = some p → p.isCells = false → Kp (W.putObj l o') W' → Kp W (W'.putObj l p'))
    (hown : ∀ i A, J i A → Own i A) (hskip : ∀ i A, i < N → J i A → ¬ X i A → J (i + 1) A)
    (h0 : J 0 w)
    (hround : ∀ (l i : Nat) (W : World), w.heap.size < l → i < N → J i W → X i W →
      assign.wpIn (F.inRound l) (n - 1 - 1) P (Exit.then (fun a₁ W₁ => W₁ = W ∧ ∀ W₂, J i W₂ → X i W₂ →
          body.wpIn (F.inRound l) (n - 1 - 1) P (RoundIx (J (i + 1)) Jx Kp w.heap.size W₂) a₁ W₂) (fun _ _ _ => False))
        { tmps := (ps.zip (enc i)).foldl (fun t (p, v) => t.setIfInBounds p v) a.tmps, defers := [] } W)
    (hdone : ∀ (D : Nat) (W : World), w.heap.size ≤ D → J N W → W.heap[D]? = some (.deferred (some [])) → Q .normal { a with defers := { target := .collected D, args := #[] } :: a.defers } W)
    (hstop : ∀ (D : Nat) (c : Code) (W : World), w.heap.size ≤ D → Jx c W → W.heap[D]? = some (.deferred (some [])) → c.wpIn F n P Q { a with defers := { target := .collected D, args := #[] } :: a.defers } W) :
    (Code.rangeFunc g ps assign body).wpIn F n P Q a w := by
  refine wpIn_rangeFunc fun fn hfn => ?_
  rw [hro]
  let D := w.heap.size
  let rec0 : LoopState → Option Code → Loop := fun st pe => { state := st, pending := pe, fn := fn, tmps := a.tmps, params := ps, assign := assign, body := body, defers := D }
  obtain ⟨rec, hrec⟩ : ∃ rec, rec = rec0 := ⟨_, rfl⟩
  let Bk : Obj → World → Prop := fun o W => W.heap[D + 1]? = some o ∧ W.heap[D]? = some (.deferred (some []))
  have bkPut : ∀ o o' A, Bk o A → Bk o' (A.putObj (D + 1) o') := fun o o' A hb => ⟨World.putObj_heap_same (Array.getElem?_eq_some_iff.1 hb.1).1, (World.putObj_heap_other (by omega)).trans hb.2⟩
  have bkFrom : ∀ o A B, o.isCells = false → Bk o A → KeepsFrom D A B → Bk o B := fun o A B ho hb hk => ⟨hk.same _ _ (Nat.le_succ _) hb.1 ho, hk.same _ _ (Nat.le_refl _) hb.2 rfl⟩
  obtain ⟨W1, hW1⟩ : ∃ W1, (w.alloc (.deferred (some []))).alloc (.loop (rec .ready none)) = W1 := ⟨_, rfl⟩
  have hB1 : Bk (.loop (rec .ready none)) W1 := by
    rw [← hW1]
    refine ⟨?_, (Below.heap_alloc _ _ _ (by simp [D])).trans (World.alloc_heap_new w _)⟩
    have := World.alloc_heap_new (w.alloc (.deferred (some []))) (.loop (rec .ready none))
    rwa [World.size_alloc] at this
  have hW : Below w.heap.size w W1 := by
    rw [← hW1]
    exact ((Below.refl _ w).alloc (Nat.le_refl _) _).alloc (by simp) _
  have hWs : W1.heap.size = w.heap.size + 2 := by rw [← hW1]; simp
  have bkSt : ∀ o A B, Bk o A → StN W1.heap.size A B → Bk o B := fun o A B hb hs => ⟨hs.blk _ _ hb.1 (.inr (by simp only [D]; omega)), hs.blk _ _ hb.2 (.inr (by simp only [D]; omega))⟩
  refine ⟨D + 1, [{ target := .collected D, args := #[] }], W1, { target := .fn (.func gf) lb, args := #[.func (.yield (D + 1)) #[] #[]] }, W1, gf, #[.func (.yield (D + 1)) #[] #[]] ++ lb, W1, ?_, ?_, ?_, ?_, fun _ => h1, ?_⟩
  · rw [← hW1, hrec]
    exact run_enterLoop_outer _ _ _ _ _
  · simp only [resolve, hg]
    simp [go_sem]
  · intro f' hf'
    simp [Target.leads] at hf'
    subst hf'
    exact hFg
  · simp [invoke, go_sem, eg]
  · refine (hit (D + 1) (fun i W => J i W ∧ Bk (.loop (rec .ready none)) W) (fun W => ∃ c, Jx c W ∧ Bk (.loop (rec .done (some c))) W) W1 hWs
      (fun i A B hs hst => ⟨hJ i A B (hs.mono (by omega)) hst.1, bkSt _ A B hst.2 hs⟩) (fun A B hs hst => by
        obtain ⟨c, hc, hb⟩ := hst
        exact ⟨c, hJx c A B (hs.mono (by omega)) hc, bkSt _ A B hb hs⟩)
      (fun i A hk => hown i A hk.1) (fun i A hi hk hx => ⟨hskip i A hi hk.1 hx, hk.2⟩) ?_ ⟨hJ 0 w W1 (StN.of_below hW) h0, hB1⟩).mono ?_
    · rintro i W hi ⟨hj, hb⟩ hx
      have hy := run_yield (P := P) (args := enc i) hb.1 (by rw [hrec]; exact hps i)
      rw [hrec] at hy
      refine ⟨fn, _, assign, body, hy, roundIn_of_wpIn hfn (wpIn_mono (hround (D + 1) i W (Nat.lt_succ_self _) hi hj hx) ?_)⟩
      intro e a₁ W₁ he
      cases e with
      | normal =>
        obtain ⟨rfl, hbody⟩ := he
        refine ⟨_, run_beginRound hb.1 (by rw [hrec]), ?_⟩
        have s1 : StN w.heap.size W₁ (W₁.putObj (D + 1) (.loop { rec .ready none with state := .busy })) := StN.putObj _ hb.1 rfl (Nat.le_succ _)
        refine wpIn_mono (hbody _ (hJ _ _ _ s1 hj) (hX _ _ _ s1 hx)) ?_
        have hb2 := bkPut _ (.loop { rec .ready none with state := .busy }) _ hb
        have fin : ∀ (jump : Option Code) (W3 : World), KeepsFrom D (W₁.putObj (D + 1) (.loop { rec .ready none with state := .busy })) W3 →
            W3.heap[D + 1]? = some (.loop { rec .ready none with state := .busy }) ∧
            (Instr.endRound (D + 1) jump).run P W3 = .ok (.bool jump.isNone) (W3.putObj (D + 1) (.loop (rec (if jump.isNone then .ready else .done) jump))) ∧
            Bk (.loop (rec (if jump.isNone then .ready else .done) jump)) (W3.putObj (D + 1) (.loop (rec (if jump.isNone then .ready else .done) jump))) := fun jump W3 hk3 => by
          have hb3 := bkFrom _ _ _ rfl hb2 hk3
          have hrun := run_endRound (P := P) jump hb3.1
          rw [hrec] at hrun hb3 ⊢
          exact ⟨hb3.1, hrun, bkPut _ _ _ hb3⟩
        intro e a₂ W3 hp
        cases e with
        | normal =>
          obtain ⟨hl3, hrun, hb4⟩ := fin none W3 hp.1
          exact ⟨_, _, hrun, .inl ⟨rfl, ⟨hJ _ _ _ (StN.putObj _ hl3 rfl (Nat.le_succ _)) hp.2.2, hb4⟩, hKp _ _ _ _ _ _ _ (Nat.le_succ _) (by simp only [D]; omega) hb.1 rfl hl3 rfl hp.2.1⟩⟩
        | ret =>
          obtain ⟨hl3, hrun, hb4⟩ := fin (some .ret) W3 hp.1
          exact ⟨_, _, hrun, .inr ⟨rfl, ⟨_, hJx _ _ _ (StN.putObj _ hl3 rfl (Nat.le_succ _)) hp.2.2, hb4⟩, hKp _ _ _ _ _ _ _ (Nat.le_succ _) (by simp only [D]; omega) hb.1 rfl hl3 rfl hp.2.1⟩⟩
        | exit id =>
          obtain ⟨hl3, hrun, hb4⟩ := fin (some (.exit id)) W3 hp.1
          exact ⟨_, _, hrun, .inr ⟨rfl, ⟨_, hJx _ _ _ (StN.putObj _ hl3 rfl (Nat.le_succ _)) hp.2.2, hb4⟩, hKp _ _ _ _ _ _ _ (Nat.le_succ _) (by simp only [D]; omega) hb.1 rfl hl3 rfl hp.2.1⟩⟩
        | goto t =>
          obtain ⟨hl3, hrun, hb4⟩ := fin (some (.goto t)) W3 hp.1
          exact ⟨_, _, hrun, .inr ⟨rfl, ⟨_, hJx _ _ _ (StN.putObj _ hl3 rfl (Nat.le_succ _)) hp.2.2, hb4⟩, hKp _ _ _ _ _ _ _ (Nat.le_succ _) (by simp only [D]; omega) hb.1 rfl hl3 rfl hp.2.1⟩⟩
        | panic ch => exact hp.elim
        | outgrown => exact hp.elim
      | ret => exact he.elim
      | exit id => exact he.elim
      | goto t => exact he.elim
      | panic ch => exact he.elim
      | outgrown => exact he.elim
    · rintro e W2 ⟨⟨v, rfl⟩, (⟨hj, hb⟩ | ⟨c, hj, hb⟩)⟩
      · have hrun := run_endLoop (P := P) hb.1 (by rw [hrec]; simp [rec0])
        have hb' := bkPut _ (.loop { rec .ready none with state := .exhausted }) _ hb
        have s1 : StN w.heap.size W2 (W2.putObj (D + 1) (.loop { rec .ready none with state := .exhausted })) := StN.putObj _ hb.1 rfl (Nat.le_succ _)
        have hj' := hJ _ _ _ s1 hj
        rw [hrec] at hrun hb' hj'
        exact ⟨none, _, hrun, hdone _ _ (Nat.le_refl _) hj' hb'.2⟩
      · have hrun := run_endLoop (P := P) hb.1 (by rw [hrec]; simp [rec0])
        have hb' := bkPut _ (.loop { rec .done (some c) with state := .exhausted }) _ hb
        have s1 : StN w.heap.size W2 (W2.putObj (D + 1) (.loop { rec .done (some c) with state := .exhausted })) := StN.putObj _ hb.1 rfl (Nat.le_succ _)
        have hj' := hJx _ _ _ s1 hj
        rw [hrec] at hrun hb' hj'
        exact ⟨some c, _, hrun, hstop _ c _ (Nat.le_refl _) hj' hb'.2⟩
structure KpT (T : TypeId → Prop) (N : Nat) (A B : World) : Prop where
  size : A.heap.size ≤ B.heap.size
  oth : ∀ k o, N ≤ k → A.heap[k]? = some o → o.isCells = false → B.heap[k]? = some o
  typ : ∀ k cs t fr, N ≤ k → T t → A.heap[k]? = some (.cells cs t fr) → B.heap[k]? = some (.cells cs t fr)
theorem KpT.put {T : TypeId → Prop} {N : Nat} {W W' : World} {l : Nat} {o' p' : Obj} (hl : l < N) (h : KpT T N (W.putObj l o') W') : KpT T N W (W'.putObj l p') :=
  ⟨by simpa using h.size, fun k o hk ho hc => (World.putObj_heap_other (by omega)).trans (h.oth k o hk ((World.putObj_heap_other (by omega)).trans ho) hc),
    fun k cs t fr hk ht ho => (World.putObj_heap_other (by omega)).trans (h.typ k cs t fr hk ht ((World.putObj_heap_other (by omega)).trans ho))⟩
theorem KpT.trans {T : TypeId → Prop} {N : Nat} {A B C : World} (h : KpT T N A B) (g : KpT T N B C) : KpT T N A C :=
  ⟨Nat.le_trans h.size g.size, fun k o hk ho hc => g.oth k o hk (h.oth k o hk ho hc) hc, fun k cs t fr hk ht ho => g.typ k cs t fr hk ht (h.typ k cs t fr hk ht ho)⟩
theorem KpT.of_below {T : TypeId → Prop} {N : Nat} {A B : World} (h : Below A.heap.size A B) : KpT T N A B :=
  ⟨h.size, fun k o hk ho hc => (h.block k (Array.getElem?_eq_some_iff.1 ho).1).trans ho, fun k cs t fr hk ht ho => (h.block k (Array.getElem?_eq_some_iff.1 ho).1).trans ho⟩
theorem KpT.drew {T : TypeId → Prop} {N : Nat} (A : World) : KpT T N A A.drew := ⟨Nat.le_refl _, fun _ _ _ h _ => h, fun _ _ _ _ _ _ h => h⟩
theorem KpT.of_grown {T : TypeId → Prop} {N : Nat} {A B : World} {row : Option Nat} (h : A.grownBy B row) (hr : ∀ r, row = some r → ∃ cs t fr, A.heap[r]? = some (.cells cs t fr) ∧ (r < N ∨ ¬ T t)) : KpT T N A B :=
  ⟨h.size, fun k o hk ho hc => (h.block k (Array.getElem?_eq_some_iff.1 ho).1 fun e => by
    obtain ⟨cs, t, fr, h1, _⟩ := hr k e.symm
    rw [ho] at h1
    cases h1
    cases hc).trans ho, fun k cs t fr hk ht ho => (h.block k (Array.getElem?_eq_some_iff.1 ho).1 fun e => by
    obtain ⟨cs', t', fr', h1, h2⟩ := hr k e.symm
    rw [ho] at h1
    cases h1
    rcases h2 with h2 | h2
    · omega
    · exact h2 ht).trans ho⟩
theorem RoundIn.wideIn {m l l' : Nat} {f : FuncId} {tmps : Array Value} {assign body : Code} {w : World} {R : Ending → World → Prop} (h : RoundIn Fence.wide n P l f tmps assign body w R) : RoundIn (Fence.wide.inRound l') m P l f tmps assign body w R :=
  ⟨h.1, fun c cs _ => h.2 c cs (room_wide _)⟩
end
end Go.Proofs.YtnlkdlnmffibhaaGreat
