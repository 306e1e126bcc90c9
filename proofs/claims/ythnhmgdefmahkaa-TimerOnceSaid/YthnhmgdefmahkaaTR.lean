/- Lists of timers in memory, and the reference's calls on them. -/
import Derived.WalkSpells
import Derived.KernelRfl
import Derived.Test.YthnhmgdefmahkaaTMath
import Derived.Test.YthnhmgdefmahkaaMem
import Derived.Test.YthnhmgdefmahkaaProg
namespace Go.Proofs.Ythnhmgdefmahkaa
open Go.RowKit
set_option linter.unusedVariables false

/-- The cells of timers. -/
def flat : List (Int × Int) → List Value
  | [] => []
  | p :: r => .int .i64 p.1 :: .int .i64 p.2 :: flat r
theorem flat_len : ∀ l : List (Int × Int), (flat l).length = l.length * 2
  | [] => rfl
  | p :: r => by
    have := flat_len r
    simp only [flat, List.length_cons]
    omega
theorem flat_append : ∀ l m : List (Int × Int), flat (l ++ m) = flat l ++ flat m
  | [], _ => rfl
  | p :: r, m => by simp [flat, flat_append r m]
theorem flat_take : ∀ (l : List (Int × Int)) (k : Nat), (flat l).take (k * 2) = flat (l.take k)
  | [], k => by simp [flat]
  | p :: r, 0 => by simp [flat]
  | p :: r, k + 1 => by
    rw [show (k + 1) * 2 = k * 2 + 1 + 1 by omega]
    simp [flat, flat_take r k]
theorem flat_drop : ∀ (l : List (Int × Int)) (k : Nat), (flat l).drop (k * 2) = flat (l.drop k)
  | [], k => by simp [flat]
  | p :: r, 0 => by simp [flat]
  | p :: r, k + 1 => by
    rw [show (k + 1) * 2 = k * 2 + 1 + 1 by omega]
    simp [flat, flat_drop r k]
theorem flat_get : ∀ (l : List (Int × Int)) (j : Nat) (p : Int × Int), l[j]? = some p → (flat l)[j * 2]? = some (.int .i64 p.1) ∧ (flat l)[j * 2 + 1]? = some (.int .i64 p.2)
  | [], j, p, h => by simp at h
  | q :: r, 0, p, h => by
    simp at h
    subst h
    simp [flat]
  | q :: r, j + 1, p, h => by
    have := flat_get r j p (by simpa using h)
    rw [show (j + 1) * 2 = j * 2 + 1 + 1 by omega]
    simpa [flat] using this
theorem flat_one : ∀ (l : List (Int × Int)), ∀ u ∈ flat l, u.oneCell' = true
  | [], u, h => by simp [flat] at h
  | p :: r, u, h => by
    simp only [flat, List.mem_cons] at h
    rcases h with rfl | rfl | h
    · rfl
    · rfl
    · exact flat_one r u h

/-- The slice at A, of n timers, with room for c, reads as l. -/
def ES (w : World) (A : Option Addr) (n c : Nat) (l : List (Int × Int)) : Prop := n = l.length ∧ n ≤ c ∧ SR w A (flat l)
theorem ES.step {w w' : World} {A : Option Addr} {n c : Nat} {l : List (Int × Int)} (h : ES w A n c l) (hb : Below w.heap.size w w') : ES w' A n c l := ⟨h.1, h.2.1, h.2.2.step hb⟩
theorem ES.at_ {w : World} {A : Option Addr} {n c : Nat} {l : List (Int × Int)} (h : ES w A n c l) {j : Nat} (hj : j < n) :
    ∃ b o x y, A = some ⟨b, o, none⟩ ∧ b < w.heap.size ∧ w.cell? ⟨b, o + j * 2, none⟩ = some (.int .i64 x) ∧ w.cell? ⟨b, o + j * 2 + 1, none⟩ = some (.int .i64 y) ∧ l[j]? = some (x, y) := by
  obtain ⟨h1, _, h3⟩ := h
  have hl : j < l.length := by omega
  have hg := flat_get l j l[j] (List.getElem?_eq_getElem hl)
  obtain ⟨b, o, e, hlt, hc⟩ := h3 (by intro h0; rw [h0] at hg; simp at hg)
  exact ⟨b, o, l[j].1, l[j].2, e, hlt, hc _ _ hg.1, by rw [Nat.add_assoc]; exact hc _ _ hg.2, List.getElem?_eq_getElem hl⟩
theorem SR.of_own2 {w : World} {base : Nat} {e : TypeId} {size n c : Nat} {A : Option Addr} {xs : List Value} (h : w.ownsRow base e size (.slice A n c) n xs) : SR w A xs := fun hx => by
  rcases h.2 with ⟨_, h0⟩ | ⟨g, cap, cur, hv, _, hg, _, _, _, ht⟩
  · have := h.1
    rw [h0] at this
    exact absurd (List.eq_nil_of_length_eq_zero (by simpa using this)) hx
  · injection hv with hA
    subst hA
    have := (SR.row hg).take (n * size)
    rw [ht] at this
    exact this hx
theorem own_shape2 {w : World} {base : Nat} {e : TypeId} {size n : Nat} {v : Value} {xs : List Value} (h : w.ownsRow base e size v n xs) : ∃ A c, v = .slice A n c ∧ n ≤ c ∧ SR w A xs := by
  rcases h.2 with ⟨rfl, h0⟩ | ⟨g, cap, cur, rfl, _, _, hnc, _⟩
  · subst h0
    have : xs = [] := List.eq_nil_of_length_eq_zero (by simpa using h.1)
    subst this
    exact ⟨none, 0, rfl, Nat.le_refl _, SR.nil _ _⟩
  · exact ⟨_, cap, rfl, hnc, SR.of_own2 h⟩
theorem ES.of_own {w : World} {base : Nat} {e : TypeId} {n c : Nat} {A : Option Addr} {l : List (Int × Int)} (h : w.ownsRow base e 2 (.slice A n c) n (flat l)) : ES w A n c l := by
  obtain ⟨A', c', hv, hc, hs⟩ := own_shape2 h
  injection hv with h1 _ h3
  subst h1 h3
  have := h.1
  rw [flat_len] at this
  exact ⟨by omega, hc, hs⟩

section
variable {P : Program} {w : World} {ops : Array Oper} {rest : List Oper} {o : Oper} {a : Act} {Q : Exit → Act → World → Prop}
theorem run_append_bare2 (base : Nat) (t ty e : TypeId) (i : TypeInfo) (size : Nat) (ht : P.underlying t = some (.slice e)) (hi : P.info? e = some i) (v : Value) (n : Nat) (xs : List Value) (hown : w.ownsRow base e size v n xs) (c : Nat) :
    (Builtin.append_ #[t, t] ty #[v, .slice none 0 c]).run P w = .ok v w := by
  rcases hown.2 with ⟨rfl, rfl⟩ | ⟨g, cap, cur, rfl, _, _, hnc, _⟩
  · simp [Builtin.append_, run_underlying ht, sizeOf, typeInfo, hi, Builtin.lenOf, Builtin.firstCells]
  · simp [Builtin.append_, run_underlying ht, sizeOf, typeInfo, hi, Builtin.lenOf, Builtin.firstCells, storeCells, hnc]
/-- out = append(out, x..): out is nil or a row of the call's own; the elements are of two cells. -/
theorem run_append_to2 (base : Nat) (t ty e : TypeId) (i : TypeInfo) (z : Value) (ht : P.underlying t = some (.slice e)) (hi : P.info? e = some i) (hz : i.zero = some z) (hsize : i.size = 2) (hz1 : z.cells.size = 2)
    (v : Value) (n : Nat) (xs : List Value) (hown : w.ownsRow base e 2 v n xs) (B : Option Addr) (m c : Nat) (news : List Value) (hm : m * 2 = news.length) (hr : SR w B news) (h1 : ∀ u ∈ news, u.oneCell' = true)
    (h63 : n + m ≤ maxLen) (hbytes : (n + m) * i.bytes ≤ 140737488355328) (hbase : base ≤ w.heap.size) :
    ∃ v' w', (Builtin.append_ #[t, t] ty #[v, .slice B m c]).run P w = .ok v' w' ∧ w'.ownsRow base e 2 v' (n + m) (xs ++ news) ∧ w.grownBy w' v.ownBlock := by
  have fin : ∀ (b : Addr), (∀ j u, news[j]? = some u → w.cell? (b.add j) = some u) → ∃ v' w', (Builtin.append_ #[t, t] ty #[v, .slice (some b) m c]).run P w = .ok v' w' ∧ w'.ownsRow base e 2 v' (n + m) (xs ++ news) ∧ w.grownBy w' v.ownBlock := by
    intro b hb
    obtain ⟨v', w', hrun, h2, h3, _⟩ := run_append_own (P := P) w base t ty e i z 2 i.bytes ht hi hz hsize rfl hz1 (by omega) v n xs hown b m c news (by omega) hb h1 h63 hbytes hbase
    exact ⟨v', w', hrun, h2, h3⟩
  rcases news with _ | ⟨x, l⟩
  · obtain rfl : m = 0 := by simp at hm; omega
    rcases B with _ | b
    · exact ⟨v, w, run_append_bare2 base t ty e i 2 ht hi v n xs hown c, by simpa using hown, ⟨rfl, rfl, rfl, Nat.le_refl _, fun _ _ _ => rfl⟩⟩
    · exact fin b (fun j u hj => by simp at hj)
  · obtain ⟨b, o, rfl, _, hc⟩ := hr (by simp)
    exact fin _ (fun j u hj => by rw [Addr.add_lit]; exact hc j u hj)
theorem wpl_append2 (hg : Region.wanted o (yielded ops a.tmps) = true) (s x : Operand) (t : TypeId) (ho : o.op = .call { callee := .builtin .append, args := #[s, x], argTypes := #[t, t] })
    (base : Nat) (e : TypeId) (i : TypeInfo) (z : Value) (ht : P.underlying t = some (.slice e)) (hi : P.info? e = some i) (hz : i.zero = some z) (hsize : i.size = 2) (hz1 : z.cells.size = 2)
    (v : Value) (n : Nat) (xs : List Value) (hs : a.eval s = v) (hown : w.ownsRow base e 2 v n xs) (B : Option Addr) (m c : Nat) (news : List Value) (hx : a.eval x = .slice B m c) (hm : m * 2 = news.length) (hr : SR w B news) (h1 : ∀ u ∈ news, u.oneCell' = true)
    (h63 : n + m ≤ maxLen) (hbytes : (n + m) * i.bytes ≤ 140737488355328) (hbase : base ≤ w.heap.size)
    (h : ∀ A' c' w', Hid (w'.ownsRow base e 2 (.slice A' (n + m) c') (n + m) (xs ++ news)) → Below base w w' → Hid (w.grownBy w' v.ownBlock) → wpList P ops Q rest (a.put o.dst (.slice A' (n + m) c')) w') : wpList P ops Q (o :: rest) a w := by
  refine wpl_wanted hg fun K hK => ?_
  obtain ⟨v', w', hrun, h2, h3⟩ := run_append_to2 (P := P) base t o.type e i z ht hi hz hsize hz1 v n xs hown B m c news hm hr h1 h63 hbytes hbase
  obtain ⟨A', c', rfl, _⟩ := own_shape2 h2
  unfold Oper.wp execOp
  simp only [ho, resolve, invoke, builtin, Sem.run_bind, Sem.run_pure, Result.andThen_ok, List.map_toArray, List.map_cons, List.map_nil, hs, hx, hrun]
  exact hK _ _ (h A' c' w' (show _ from h2) ((Below.refl base w).grown h3 hbase fun k hk => (hown.lt k hk).1) (show _ from h3))
end

theorem Entry_info : (Try.prog.info? 47).map (fun i => (i.zero, i.size, i.bytes)) = some (some (.agg #[.int .i64 0, .int .i64 0]), 2, 16) := by kernel_rfl
theorem int_info : (Try.prog.info? 3).map (fun i => (i.zero, i.size, i.bytes)) = some (some (.int .i64 0), 1, 8) := by kernel_rfl

/-- What is returned is a slice that reads as l, in new memory of its own; nothing that was there has turned. -/
def RetE (w : World) (l : List (Int × Int)) (e : Ending) (w' : World) : Prop :=
  ∃ A c, e = .returned (.slice A l.length c) ∧ Hid (w'.ownsRow w.heap.size 47 2 (.slice A l.length c) l.length (flat l)) ∧ Below w.heap.size w w'

set_option maxHeartbeats 1000000 in
theorem RStop (A : Option Addr) (n c : Nat) (l : List (Int × Int)) (id : Int) (w : World) (h : ES w A n c l) (hn : n ≤ 1000000) :
    Calls Try.prog 12 #[.slice A n c, .int .i64 id] w fun e w' => RetE w (stopL l id) e w' := by
  obtain ⟨i0, hi0, hz0, hz1, hz2⟩ := info_parts Entry_info
  have HL := keep h.1
  have H := keep h
  clear h
  go_enter Try.func12, Try.ntmps12
  go_wp2
  go_loopw [5, 6] (fun out i wr => ∃ (j : Nat) (A' : Option Addr) (c' : Nat), j ≤ n ∧ i = .int .i64 j ∧ out = .slice A' (stopL (l.take j) id).length c' ∧ Hid (wr.ownsRow w.heap.size 47 2 (.slice A' (stopL (l.take j) id).length c') (stopL (l.take j) id).length (flat (stopL (l.take j) id))) ∧ Below w.heap.size w wr)
    (fun _ i _ => n - (intOf i).toNat)
  case atStart => exact ⟨0, none, 0, Nat.zero_le _, rfl, rfl, World.ownsRow_nil _ _ _ _, Below.refl _ _⟩
  case round =>
    obtain ⟨j, A', c', hj, rfl, rfl, ho, hb⟩ := hrel
    by_cases hlt : j < n
    · obtain ⟨b, o, x, y, rfl, hbl, hc0, hc1, hlj⟩ := (H.out.step hb).at_ hlt
      have htk : l.take (j + 1) = l.take j ++ [(x, y)] := by rw [List.take_add_one, hlj]; rfl
      by_cases hx : x = id
      · have he : stopL (l.take (j + 1)) id = stopL (l.take j) id := by rw [htk]; simp [stopL, hx]
        subst hx
        have HE := keep he
        have hb' := keep hb
        clear hlj htk he hb
        go_wp2
        go_roundw
        case rel => exact ⟨j + 1, A', c', by omega, by go_num, by rw [HE.out], by rw [HE.out]; exact ho, hb'.out⟩
        case measure => simp [intOf]; omega
      · have he : stopL (l.take (j + 1)) id = stopL (l.take j) id ++ [(x, y)] := by rw [htk]; simp [stopL, hx]
        have hlen := stopL_len (l.take j) id
        have hlen2 : (stopL (l.take j) id).length ≤ n := Nat.le_trans hlen (by rw [List.length_take]; omega)
        have hx1 : (x == id) = false := by simp [hx]
        have hx2 : (x != id) = true := by simp [hx]
        generalize stopL (l.take j) id = q at he ho hlen2
        have HE := keep he
        have hb' := keep hb
        have hsz := hb.size
        clear hlj htk he hb hlen
        go_wp2_with (first
          | (at_builtin; refine wpl_append2 rfl (.tmp 20) (.tmp 25) 28 rfl w.heap.size 47 i0 (.agg #[.int .i64 0, .int .i64 0]) Try.underlying28 hi0 hz0 hz1 rfl _ q.length (flat q) rfl (ho.out.alloc _) _ 1 1 (flat [(x, y)]) rfl (by rw [flat_len]; rfl) (SR.row (t := 47) (fr := (0, 0)) (cur := (flat [(x, y)]).toArray) (heap_alloc_new wr _)) (flat_one _) (by unfold maxLen; omega) (by rw [hz2]; omega) (by simp; omega) ?_
             intro A2 c2 w2 ho2 hb2 hg2))
        have hb3 := (hb'.out.alloc hsz _).trans hb2
        rw [← flat_append] at ho2
        go_roundw
        case rel => exact ⟨j + 1, A2, c2, by omega, by go_num, by rw [HE.out]; simp, by rw [HE.out]; simpa using ho2, hb3⟩
        case measure => simp [intOf]; omega
    · obtain rfl : n = j := by omega
      have htk : l.take n = l := List.take_of_length_le (by have := HL.out; omega)
      rw [htk] at ho ⊢
      go_wp2
      go_ret
      exact ⟨A', c', rfl, ho, hb⟩

theorem ES.take {w : World} {A : Option Addr} {n c : Nat} {l : List (Int × Int)} (h : ES w A n c l) {k : Nat} (hk : k ≤ n) : SR w A (flat (l.take k)) := by
  rw [← flat_take]
  exact h.2.2.take _
theorem ES.drop {w : World} {A : Option Addr} {n c : Nat} {l : List (Int × Int)} (h : ES w A n c l) (k : Nat) : SR w (if c = k then A else A.map (·.add (k * 2))) (flat (l.drop k)) := fun hx => by
  have hk : k < l.length := by
    rcases Nat.lt_or_ge k l.length with h0 | h0
    · exact h0
    · rw [List.drop_eq_nil_of_le h0] at hx
      exact absurd rfl hx
  obtain ⟨h1, h2, h3⟩ := h
  obtain ⟨b, o, rfl, hlt, hcell⟩ := h3 (by intro h0; have := flat_len l; rw [h0] at this; simp at this; omega)
  refine ⟨b, o + k * 2, ?_, hlt, fun j u hu => ?_⟩
  · rw [if_neg (by omega)]
    simp [Addr.add_lit]
  · rw [Nat.add_assoc]
    exact hcell _ u (by rw [← hu, ← flat_drop, List.getElem?_drop])

set_option maxHeartbeats 1000000 in
theorem RAt (A : Option Addr) (n c : Nat) (l : List (Int × Int)) (id : Int) (w : World) (h : ES w A n c l) (hn : n ≤ 1000000) :
    Calls Try.prog 17 #[.slice A n c, .int .i64 id] w fun e w' => e = .returned (.tuple #[.int .i64 (atL l id), .bool (hasL l id)]) ∧ w = w' := by
  have HL := keep h.1
  have H := keep h
  clear h
  go_enter Try.func17, Try.ntmps17
  go_wp2
  go_loop [6] (fun i => ∃ j : Nat, j ≤ n ∧ i = .int .i64 j ∧ ∀ p ∈ l.take j, p.1 ≠ id)
    (fun i => n - (intOf i).toNat)
  case atStart => exact ⟨0, Nat.zero_le _, rfl, by simp⟩
  case round =>
    obtain ⟨j, hj, rfl, hno⟩ := hrel
    have HN := keep hno
    clear hno
    by_cases hlt : j < n
    · obtain ⟨b, o, x, y, rfl, hbl, hc0, hc1, hlj⟩ := H.out.at_ hlt
      have htk : l.take (j + 1) = l.take j ++ [(x, y)] := by rw [List.take_add_one, hlj]; rfl
      have HT := keep htk
      clear htk
      by_cases hx : x = id
      · subst hx
        have hsp : l = l.take j ++ (x, y) :: l.drop (j + 1) := by
          obtain ⟨hjl, hje⟩ := List.getElem?_eq_some_iff.1 hlj
          rw [← hje, ← List.drop_eq_getElem_cons hjl, List.take_append_drop]
        have hff : l.find? (fun p => decide (p.1 = x)) = some (x, y) := by
          rw [hsp, List.find?_append, List.find?_eq_none.2 fun p hp => by simpa using HN.out p hp]
          simp
        have e1 : atL l x = y := by unfold atL; rw [hff]
        have e2 : hasL l x = true := hasL_mem.2 ⟨y, List.mem_of_getElem? hlj⟩
        have HE := keep (And.intro e1 e2)
        clear hlj hsp hff e1 e2
        go_wp2
        go_ret2
        rw [HE.out.1, HE.out.2]
        exact ⟨rfl, rfl⟩
      · have hx1 : (x == id) = false := by simp [hx]
        have HX := keep hx
        clear hlj hx
        go_wp2
        go_round
        case rel =>
          refine ⟨j + 1, by omega, by go_num, fun p hp => ?_⟩
          rw [HT.out, List.mem_append, List.mem_singleton] at hp
          rcases hp with hp | rfl
          · exact HN.out p hp
          · exact HX.out
        case measure => simp [intOf]; omega
    · obtain rfl : n = j := by omega
      have e2 : hasL l id = false := hasL_not.2 fun t ht => HN.out (id, t) (by rw [List.take_of_length_le (by have := HL.out; omega)]; exact ht) rfl
      have e1 := atL_not e2
      have HE := keep (And.intro e1 e2)
      clear e1 e2
      go_wp2
      go_ret2
      rw [HE.out.1, HE.out.2]
      exact ⟨rfl, rfl⟩
end Go.Proofs.Ythnhmgdefmahkaa
