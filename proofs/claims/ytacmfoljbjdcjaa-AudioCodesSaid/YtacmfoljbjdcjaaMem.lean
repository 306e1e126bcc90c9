/- Lemmas on memory that the proofs of this seat share: a slice that reads as a list of cells or of bytes, and what keeps that reading. They hold over every program; nothing is assumed. -/
import Derived.WalkKit
import Derived.WalkSpells
import Derived.Laws.CopyOwn
import Derived.Deep.Draws
namespace Go.Proofs.Ytacmfoljbjdcjaa
open Go.RowKit
set_option linter.unusedVariables false

theorem up {a b c : World} (h : Below a.heap.size a b) (k : Below b.heap.size b c) : Below a.heap.size a c := h.trans (k.mono h.size)
theorem keep {p : Prop} (h : p) : Hid p := h

/-- The slice at A reads, in w, as the cells xs. -/
def SR (w : World) (A : Option Addr) (xs : List Value) : Prop :=
  xs ≠ [] → ∃ b o, A = some ⟨b, o, none⟩ ∧ b < w.heap.size ∧ ∀ j u, xs[j]? = some u → w.cell? ⟨b, o + j, none⟩ = some u

theorem SR.nil (w : World) (A : Option Addr) : SR w A [] := fun h => absurd rfl h
theorem SR.step {w w' : World} {A : Option Addr} {xs : List Value} (h : SR w A xs) (hb : Below w.heap.size w w') : SR w' A xs := fun hx => by
  obtain ⟨b, o, e, hlt, hc⟩ := h hx
  exact ⟨b, o, e, Nat.lt_of_lt_of_le hlt hb.size, fun j u hu => (hb.cell (p := ⟨b, o + j, none⟩) hlt).trans (hc j u hu)⟩
theorem SR.at_ {w : World} {A : Option Addr} {xs : List Value} (h : SR w A xs) {j : Nat} (hj : j < xs.length) :
    ∃ b o, A = some ⟨b, o, none⟩ ∧ b < w.heap.size ∧ w.cell? ⟨b, o + j, none⟩ = some xs[j] := by
  obtain ⟨b, o, e, hlt, hc⟩ := h (by intro h0; rw [h0] at hj; cases hj)
  exact ⟨b, o, e, hlt, hc j _ (List.getElem?_eq_getElem hj)⟩
theorem SR.drop {w : World} {A : Option Addr} {xs : List Value} (h : SR w A xs) {k cap : Nat} (hc : xs.length ≤ cap) :
    SR w (if cap = k then A else A.map (·.add k)) (xs.drop k) := fun hx => by
  have hk : k < xs.length := by
    rcases Nat.lt_or_ge k xs.length with h0 | h0
    · exact h0
    · exact absurd (List.drop_eq_nil_of_le h0) hx
  obtain ⟨b, o, rfl, hlt, hcell⟩ := h (by intro h0; rw [h0] at hk; cases hk)
  refine ⟨b, o + k, ?_, hlt, fun j u hu => ?_⟩
  · rw [if_neg (by omega)]
    simp [Addr.add_lit]
  · rw [Nat.add_assoc]
    exact hcell _ u (by rw [← hu, List.getElem?_drop])
theorem SR.take {w : World} {A : Option Addr} {xs : List Value} (h : SR w A xs) (k : Nat) : SR w A (xs.take k) := fun hx => by
  obtain ⟨b, o, e, hlt, hcell⟩ := h (by intro h0; rw [h0] at hx; simp at hx)
  refine ⟨b, o, e, hlt, fun j u hu => hcell j u ?_⟩
  rw [List.getElem?_take] at hu
  split at hu
  · exact hu
  · cases hu
/-- A new row. -/
theorem SR.row {w : World} {g : Nat} {t : TypeId} {cur : Array Value} {fr : Nat × Nat} (h : w.heap[g]? = some (.cells cur t fr)) : SR w (some ⟨g, 0, none⟩) cur.toList := fun _ => by
  have hlt : g < w.heap.size := (Array.getElem?_eq_some_iff.1 h).1
  refine ⟨g, 0, rfl, hlt, fun j u hu => ?_⟩
  rw [Nat.zero_add, cell_of_row w g j cur t fr h]
  simpa using hu
theorem SR.of_own {w : World} {base : Nat} {e : TypeId} {n c : Nat} {A : Option Addr} {xs : List Value} (h : w.ownsRow base e 1 (.slice A n c) n xs) : SR w A xs := fun hx => by
  rcases h.2 with ⟨_, h0⟩ | ⟨g, cap, cur, hv, _, hg, _, _, _, ht⟩
  · have := h.1
    rw [h0] at this
    exact absurd (List.eq_nil_of_length_eq_zero (by simpa using this)) hx
  · injection hv with hA
    subst hA
    have := (SR.row hg).take (n * 1)
    rw [ht] at this
    exact this hx

/-- The cells of bytes. -/
def bc (bs : List UInt8) : List Value := bs.map fun b => .int .u8 (b.toNat : Int)
theorem bc_length (bs : List UInt8) : (bc bs).length = bs.length := by simp [bc]
theorem bc_append (xs ys : List UInt8) : bc (xs ++ ys) = bc xs ++ bc ys := by simp [bc]
theorem bc_drop (bs : List UInt8) (k : Nat) : bc (bs.drop k) = (bc bs).drop k := by simp [bc, List.map_drop]
theorem bc_take (bs : List UInt8) (k : Nat) : bc (bs.take k) = (bc bs).take k := by simp [bc, List.map_take]
theorem bc_one (bs : List UInt8) : ∀ u ∈ bc bs, u.oneCell' = true := by
  intro u hu
  obtain ⟨_, _, rfl⟩ := List.mem_map.1 hu
  rfl
theorem bc_getElem? (bs : List UInt8) (j : Nat) : (bc bs)[j]? = bs[j]?.map fun b => .int .u8 (b.toNat : Int) := by simp [bc]

/-- The slice at A reads, in w, as the bytes bs. -/
def BR (w : World) (A : Option Addr) (bs : List UInt8) : Prop := SR w A (bc bs)
theorem BR.sr {w : World} {A : Option Addr} {bs : List UInt8} (h : BR w A bs) : SR w A (bc bs) := h
theorem BR.nil (w : World) (A : Option Addr) : BR w A [] := SR.nil w A
theorem BR.step {w w' : World} {A : Option Addr} {bs : List UInt8} (h : BR w A bs) (hb : Below w.heap.size w w') : BR w' A bs := SR.step h hb
theorem BR.at_ {w : World} {A : Option Addr} {bs : List UInt8} (h : BR w A bs) {j : Nat} (hj : j < bs.length) :
    ∃ b o, A = some ⟨b, o, none⟩ ∧ b < w.heap.size ∧ w.cell? ⟨b, o + j, none⟩ = some (.int .u8 (bs[j].toNat : Int)) := by
  obtain ⟨b, o, e, hlt, hc⟩ := SR.at_ h (j := j) (by rw [bc_length]; exact hj)
  exact ⟨b, o, e, hlt, by simpa [bc] using hc⟩
theorem BR.drop {w : World} {A : Option Addr} {bs : List UInt8} (h : BR w A bs) {k cap : Nat} (hc : bs.length ≤ cap) :
    BR w (if cap = k then A else A.map (·.add k)) (bs.drop k) := by
  have := SR.drop h (k := k) (cap := cap) (by rw [bc_length]; exact hc)
  rw [← bc_drop] at this
  exact this
theorem BR.take {w : World} {A : Option Addr} {bs : List UInt8} (h : BR w A bs) (k : Nat) : BR w A (bs.take k) := by
  have := SR.take h k
  rw [← bc_take] at this
  exact this
theorem BR.row {w : World} {g : Nat} {t : TypeId} {bs : List UInt8} {fr : Nat × Nat} (h : w.heap[g]? = some (.cells (bc bs).toArray t fr)) : BR w (some ⟨g, 0, none⟩) bs := by
  have := SR.row h
  simpa [BR] using this
theorem BR.of_own {w : World} {base : Nat} {e : TypeId} {n c : Nat} {A : Option Addr} {bs : List UInt8} (h : w.ownsRow base e 1 (.slice A n c) n (bc bs)) : BR w A bs := SR.of_own h

/-- The octet of a number. -/
def b8 (n : Int) : UInt8 := UInt8.ofNat (n % 256).toNat
theorem b8_toNat (n : Int) : ((b8 n).toNat : Int) = n % 256 := by
  unfold b8
  rw [UInt8.toNat_ofNat']
  omega
theorem b8_mod (n : Int) : b8 (n % 256) = b8 n := by unfold b8; rw [Int.emod_emod]
theorem b8_of (n : Int) (h0 : 0 ≤ n) (h1 : n < 256) : ((b8 n).toNat : Int) = n := by rw [b8_toNat]; omega
theorem b8_back (x : UInt8) : b8 (x.toNat : Int) = x := by
  unfold b8
  have h := x.toNat_lt
  rw [show ((x.toNat : Int) % 256).toNat = x.toNat by omega]
  simp
theorem bc_nums (l : List Int) (h : ∀ n ∈ l, 0 ≤ n ∧ n < 256) : bc (l.map b8) = l.map (Value.int .u8) := by
  simp only [bc, List.map_map]
  apply List.map_congr_left
  intro n hn
  have := h n hn
  simp [b8_of n this.1 this.2]

/-- The slice at A, of n octets, with room for c, reads as bs. -/
def BS (w : World) (A : Option Addr) (n c : Nat) (bs : List UInt8) : Prop := n = bs.length ∧ n ≤ c ∧ BR w A bs
theorem BS.len {w : World} {A : Option Addr} {n c : Nat} {bs : List UInt8} (h : BS w A n c bs) : n = bs.length := h.1
theorem BS.cap {w : World} {A : Option Addr} {n c : Nat} {bs : List UInt8} (h : BS w A n c bs) : n ≤ c := h.2.1
theorem BS.br {w : World} {A : Option Addr} {n c : Nat} {bs : List UInt8} (h : BS w A n c bs) : BR w A bs := h.2.2
theorem BS.step {w w' : World} {A : Option Addr} {n c : Nat} {bs : List UInt8} (h : BS w A n c bs) (hb : Below w.heap.size w w') : BS w' A n c bs := ⟨h.1, h.2.1, h.2.2.step hb⟩
theorem BS.nil (w : World) : BS w none 0 0 [] := ⟨rfl, Nat.le_refl _, BR.nil _ _⟩
theorem own_mono {w : World} {base base' : Nat} {e : TypeId} {size : Nat} {v : Value} {n : Nat} {xs : List Value} (h : w.ownsRow base e size v n xs) (hB : base' ≤ base) : w.ownsRow base' e size v n xs := by
  refine ⟨h.1, ?_⟩
  rcases h.2 with h | ⟨g, cap, cur, hv, hg, r⟩
  · exact .inl h
  · exact .inr ⟨g, cap, cur, hv, Nat.le_trans hB hg, r⟩
theorem own_row {w : World} {g : Nat} {e : TypeId} {xs : List Value} (hg : w.heap[g]? = some (.cells xs.toArray e (0, 0))) (n : Nat) (hn : n = xs.length) (hm : n ≤ maxLen) : w.ownsRow g e 1 (.slice (some ⟨g, 0, none⟩) n n) n xs :=
  ⟨by omega, .inr ⟨g, n, _, rfl, Nat.le_refl _, hg, Nat.le_refl _, hm, by simp; omega, by simp [hn]⟩⟩
/-- What is returned is a slice that reads as bs, in new memory of its own; nothing that was there has turned. -/
def RetB (w : World) (bs : List UInt8) (e : Ending) (w' : World) : Prop :=
  ∃ A n c, e = .returned (.slice A n c) ∧ BS w' A n c bs ∧ Below w.heap.size w w' ∧ Hid (w'.ownsRow w.heap.size 5 1 (.slice A n c) n (bc bs))

/-- string(b). -/
theorem run_bytes_str {P : Program} (w : World) (src e : TypeId) (hs : P.underlying src = some (.slice e)) (he : P.underlying e = some (.int .u8)) (A : Option Addr) (bs : List UInt8) (c : Nat) (h : BR w A bs) :
    ∀ dst, P.underlying dst = some .string → (convert src dst (.slice A bs.length c)).run P w = .ok (.string ⟨bs.toArray⟩) w := by
  intro dst hd
  rw [run_convert_bytes_string w src dst e _ _ c hs he hd]
  have key : ∀ (a : Addr), (∀ j u, (bc bs)[j]? = some u → w.cell? (a.add j) = some u) → (Conv.bytesToString (.slice (some a) bs.length c)).run P w = .ok (.string ⟨bs.toArray⟩) w := by
    intro a hc
    have hl := run_loadCells_list (P := P) w a (bc bs) hc
    rw [bc_length] at hl
    have e2 : bc bs = (bs.map fun b => (b.toNat : Int)).map (Value.int .u8) := by simp [bc, Function.comp_def]
    rw [e2] at hl
    rw [run_bytesToString w a bs.length c _ hl, foldl_push_bytes]
    congr 3
    have e3 : (ByteArray.empty.data : Array UInt8) = #[] := rfl
    rw [e3]
    simp [Function.comp_def]
  rcases A with _ | a
  · have : bs = [] := by
      rcases bs with _ | ⟨x, l⟩
      · rfl
      · obtain ⟨b, o, h0, _⟩ := h (by simp [bc])
        cases h0
    subst this
    simp [Conv.bytesToString]
    rfl
  · refine key a fun j u hu => ?_
    have hne : bc bs ≠ [] := by intro h0; rw [h0] at hu; simp at hu
    obtain ⟨b, o, h0, _, hcell⟩ := h hne
    injection h0 with h0
    subst h0
    rw [Addr.add_lit]
    exact hcell j u hu

theorem BS.laid (w : World) (t : TypeId) (l : List Int) (h : ∀ n ∈ l, 0 ≤ n ∧ n < 256) : BS (w.alloc (.cells (l.map (Value.int .u8)).toArray t)) (some ⟨w.heap.size, 0, none⟩) l.length l.length (l.map b8) := by
  refine ⟨by simp, Nat.le_refl _, BR.row (t := t) (fr := (0, 0)) ?_⟩
  rw [bc_nums l h]
  exact heap_alloc_new w _
theorem below_lay (w : World) (o : Obj) : Below w.heap.size w (w.alloc o) := (Below.refl _ _).alloc (Nat.le_refl _) o

/-! ### Laws of the walk -/
section
variable {P : Program} {w : World} {ops : Array Oper} {rest : List Oper} {o : Oper} {a : Act} {Q : Exit → Act → World → Prop}

theorem cells_made (z : Value) (hz : z.cells = #[z]) (n : Nat) : (madeCells z.cells n) = (List.replicate n z).toArray := by
  rw [hz]
  apply Array.ext
  · simp [madeCells]
  · intro k h1 h2
    simp [madeCells, Nat.mod_one]

/-- An operation whose guard lets it run. -/
theorem wpl_wanted (hw : Region.wanted o (yielded ops a.tmps) = true) (h : ∀ K : Act → World → Prop, (∀ a w, wpList P ops Q rest a w → K a w) → o.wp P a w K Q) : wpList P ops Q (o :: rest) a w :=
  wpList_step fun K hK => by rw [if_pos hw]; exact h K hK

/-- make([]T, n), T of one cell. -/
theorem wpl_make (hg : Region.wanted o (yielded ops a.tmps) = true) (l c : Operand) (t : TypeId) (hop : o.op = Op.makeSlice t l c) (e : TypeId) (i : TypeInfo) (z : Value) (ht : P.underlying t = some (.slice e)) (hi : P.info? e = some i) (hz : i.zero = some z) (hs : i.size = 1)
    (hz1 : z.cells = #[z]) (n : Nat) (L : Int) (hl : a.eval l = .int .i64 L) (hc : a.eval c = .int .i64 L) (hL : L = (n : Int)) (hb : i.bytes * n ≤ 281474976710656) (h63 : n ≤ maxLen)
    (h : ∀ w', Hid (w'.heap[w.heap.size]? = some (.cells (List.replicate n z).toArray e (0, 0))) → Below w.heap.size w w' → w.heap.size < w'.heap.size → wpList P ops Q rest (a.put o.dst (.slice (some ⟨w.heap.size, 0, none⟩) n n)) w') :
    wpList P ops Q (o :: rest) a w := by
  subst hL
  refine wpl_wanted hg fun K hK' => ?_
  have h63' : (n : Int) ≤ 9223372036854775807 := by simp only [maxLen] at h63; omega
  have hb' : (i.bytes : Int) * (n : Int) ≤ 281474976710656 := by
    have h : ((i.bytes * n : Nat) : Int) ≤ 281474976710656 := by omega
    rwa [Int.natCast_mul] at h
  have hr := run_make (P := P) w t e i z ht hi hz .i64 .i64 n n (by omega) (by omega) hb' h63'
  simp only [Int.toNat_natCast, hs, Nat.mul_one, cells_made z hz1] at hr
  unfold Oper.wp
  simp [execOp, hop, hl, hc, hr, Result.andThen]
  exact hK' _ _ (h _ (show _ = _ from heap_alloc_new w _) ((Below.refl _ _).alloc (Nat.le_refl _) _) (by simp))

/-- copy(d, s): d is the row g from off on, s reads as cs. -/
theorem wpl_copy (hgd : o.guard = none) (d s : Operand) (dT sT : TypeId)
    (ho : o.op = .call { callee := .builtin .copy, args := #[d, s], argTypes := #[dT, sT] }) (elem : TypeId) (hu : P.underlying dT = some (.slice elem)) (hsz : (P.info? elem).map (·.size) = some 1)
    (dp sp : Option Addr) (dLen dCap sLen sCap : Nat) (hd : a.eval d = .slice dp dLen dCap) (hs : a.eval s = .slice sp sLen sCap)
    (g off : Nat) (cur : List Value) (t : TypeId) (hg : w.heap[g]? = some (.cells cur.toArray t (0, 0))) (cs : List Value) (hn : cs.length = sLen) (hle : sLen ≤ dLen) (hr : SR w sp cs)
    (hdp : cs ≠ [] → dp = some ⟨g, off, none⟩) (hfit : off + cs.length ≤ cur.length) (h1 : ∀ v ∈ cs, v.oneCell' = true)
    (h : ∀ w', Hid (w'.heap[g]? = some (.cells (splice cur off cs).toArray t (0, 0))) → (∀ B w0, B ≤ g → Below B w0 w → Below B w0 w') → w'.heap.size = w.heap.size → wpList P ops Q rest (a.put o.dst (goInt sLen)) w') :

    wpList P ops Q (o :: rest) a w := by
  subst hn
  by_cases h0 : cs = []
  · subst h0
    refine wpList_copy_nothing hgd d s dT sT ho elem hu hsz dp sp dLen dCap _ sCap hd hs (by simp) ?_
    exact h w (show _ = _ by simpa [splice] using hg) (fun _ _ _ hb => hb) rfl
  · obtain ⟨b, so, rfl, _, hsrc⟩ := hr h0
    obtain rfl := hdp h0
    refine wpList_copy_own hgd d s dT sT ho elem hu hsz g off dLen dCap ⟨b, so, none⟩ _ sCap hd hs cur.toArray t hg cs (Nat.min_eq_left hle).symm (fun j v hv => by rw [Addr.add_lit]; exact hsrc j v hv) (by simpa using hfit) h1 ?_
    exact h _ (show _ = _ by simpa [splice] using setRow_heap w g _ _ t _ hg) (fun _ _ hB hb => below_setRow hb hB _) (by simp [World.setRow])

theorem own_shape {w : World} {base : Nat} {e : TypeId} {n : Nat} {v : Value} {xs : List Value} (h : w.ownsRow base e 1 v n xs) : ∃ A c, v = .slice A n c ∧ n = xs.length ∧ n ≤ c ∧ SR w A xs := by
  have h1 : n = xs.length := by have := h.1; omega
  rcases h.2 with ⟨rfl, h0⟩ | ⟨g, cap, cur, rfl, _, _, hnc, _⟩
  · subst h0
    have : xs = [] := List.eq_nil_of_length_eq_zero h1.symm
    subst this
    exact ⟨none, 0, rfl, rfl, Nat.le_refl _, SR.nil _ _⟩
  · exact ⟨_, cap, rfl, h1, hnc, SR.of_own h⟩
theorem BS.of_own {w : World} {base : Nat} {e : TypeId} {n c : Nat} {A : Option Addr} {bs : List UInt8} (h : w.ownsRow base e 1 (.slice A n c) n (bc bs)) : BS w A n c bs := by
  obtain ⟨A', c', hv, hl, hc, _⟩ := own_shape h
  injection hv with _ _ h3
  subst h3
  exact ⟨by rw [hl, bc_length], hc, BR.of_own h⟩
theorem run_append_bare (base : Nat) (t ty e : TypeId) (i : TypeInfo) (ht : P.underlying t = some (.slice e)) (hi : P.info? e = some i) (v : Value) (n : Nat) (xs : List Value) (hown : w.ownsRow base e 1 v n xs) (c : Nat) :
    (Builtin.append_ #[t, t] ty #[v, .slice none 0 c]).run P w = .ok v w := by
  rcases hown.2 with ⟨rfl, rfl⟩ | ⟨g, cap, cur, rfl, _, _, hnc, _⟩
  · simp [Builtin.append_, run_underlying ht, sizeOf, typeInfo, hi, Builtin.lenOf, Builtin.firstCells]
  · simp [Builtin.append_, run_underlying ht, sizeOf, typeInfo, hi, Builtin.lenOf, Builtin.firstCells, storeCells, hnc]
/-- out = append(out, x..): out is nil or a row of the call's own. -/
theorem run_append_to (base : Nat) (t ty e : TypeId) (i : TypeInfo) (z : Value) (ht : P.underlying t = some (.slice e)) (hi : P.info? e = some i) (hz : i.zero = some z) (hsize : i.size = 1) (hz1 : z.cells.size = 1)
    (v : Value) (n : Nat) (xs : List Value) (hown : w.ownsRow base e 1 v n xs) (B : Option Addr) (m c : Nat) (news : List Value) (hm : m = news.length) (hr : SR w B news) (h1 : ∀ u ∈ news, u.oneCell' = true)
    (h63 : n + m ≤ maxLen) (hbytes : (n + m) * i.bytes ≤ 140737488355328) (hbase : base ≤ w.heap.size) :
    ∃ v' w', (Builtin.append_ #[t, t] ty #[v, .slice B m c]).run P w = .ok v' w' ∧ w'.ownsRow base e 1 v' (n + m) (xs ++ news) ∧ Below base w w' := by
  have fin : ∀ (b : Addr), (∀ j u, news[j]? = some u → w.cell? (b.add j) = some u) → ∃ v' w', (Builtin.append_ #[t, t] ty #[v, .slice (some b) m c]).run P w = .ok v' w' ∧ w'.ownsRow base e 1 v' (n + m) (xs ++ news) ∧ Below base w w' := by
    intro b hb
    obtain ⟨v', w', hrun, h2, h3, _⟩ := run_append_own (P := P) w base t ty e i z 1 i.bytes ht hi hz hsize rfl hz1 (by omega) v n xs hown b m c news (by omega) hb h1 h63 hbytes hbase
    exact ⟨v', w', hrun, h2, ((Below.refl base w).grown h3 hbase fun k hk => (hown.lt k hk).1)⟩
  rcases news with _ | ⟨x, l⟩
  · obtain rfl : m = 0 := by simpa using hm
    rcases B with _ | b
    · exact ⟨v, w, run_append_bare base t ty e i ht hi v n xs hown c, by simpa using hown, Below.refl _ _⟩
    · exact fin b (fun j u hj => by simp at hj)
  · obtain ⟨b, o, rfl, _, hc⟩ := hr (by simp)
    exact fin _ (fun j u hj => by rw [Addr.add_lit]; exact hc j u hj)
theorem wpl_append (hg : Region.wanted o (yielded ops a.tmps) = true) (s x : Operand) (t : TypeId) (ho : o.op = .call { callee := .builtin .append, args := #[s, x], argTypes := #[t, t] })
    (base : Nat) (e : TypeId) (i : TypeInfo) (z : Value) (ht : P.underlying t = some (.slice e)) (hi : P.info? e = some i) (hz : i.zero = some z) (hsize : i.size = 1) (hz1 : z.cells.size = 1)
    (v : Value) (n : Nat) (xs : List Value) (hs : a.eval s = v) (hown : w.ownsRow base e 1 v n xs) (B : Option Addr) (m c : Nat) (news : List Value) (hx : a.eval x = .slice B m c) (hm : m = news.length) (hr : SR w B news) (h1 : ∀ u ∈ news, u.oneCell' = true)
    (h63 : n + m ≤ maxLen) (hbytes : (n + m) * i.bytes ≤ 140737488355328) (hbase : base ≤ w.heap.size)
    (h : ∀ A' c' w', Hid (w'.ownsRow base e 1 (.slice A' (n + m) c') (n + m) (xs ++ news)) → Below base w w' → wpList P ops Q rest (a.put o.dst (.slice A' (n + m) c')) w') : wpList P ops Q (o :: rest) a w := by
  refine wpl_wanted hg fun K hK => ?_
  obtain ⟨v', w', hrun, h2, h3⟩ := run_append_to (P := P) base t o.type e i z ht hi hz hsize hz1 v n xs hown B m c news hm hr h1 h63 hbytes hbase
  obtain ⟨A', c', rfl, _⟩ := own_shape h2
  unfold Oper.wp execOp
  simp only [ho, resolve, invoke, builtin, Sem.run_bind, Sem.run_pure, Result.andThen_ok, List.map_toArray, List.map_cons, List.map_nil, hs, hx, hrun]
  exact hK _ _ (h A' c' w' (show _ from h2) h3)
end
end Go.Proofs.Ytacmfoljbjdcjaa
