/- Package topic: which item is the first one of a topic; items of a topic go away. -/
import Derived.Test.YtnbicbnighpkjaaY2
namespace Go.Proofs.Ytnbicbnighpkjaa
open Go.RowKit
set_option linter.unusedVariables false

/-- The slice at A, of n items, reads as l. -/
def IS (w : World) (A : Option Addr) (n : Nat) (l : List Iv) : Prop := n = l.length ∧ SR w A (flatF Iv.cells l)
theorem IS.step {w w' : World} {A : Option Addr} {n : Nat} {l : List Iv} (h : IS w A n l) (hb : Below w.heap.size w w') : IS w' A n l := ⟨h.1, h.2.step hb⟩
theorem IS.at_ {w : World} {A : Option Addr} {n : Nat} {l : List Iv} (h : IS w A n l) {j : Nat} (hj : j < n) : ∃ b o x, A = some ⟨b, o, none⟩ ∧ b < w.heap.size ∧ l[j]? = some x ∧
    w.cell? ⟨b, o + j * 5, none⟩ = some (.string x.tp) ∧ w.cell? ⟨b, o + j * 5 + 1, none⟩ = some (.int .i64 x.fr) ∧ w.cell? ⟨b, o + j * 5 + 2, none⟩ = some (.int .i64 x.nu) ∧ w.cell? ⟨b, o + j * 5 + 3, none⟩ = some (.bool x.tx) ∧ w.cell? ⟨b, o + j * 5 + 4, none⟩ = some (.slice x.da.1 x.da.2.1 x.da.2.2) := by
  obtain ⟨h1, h3⟩ := h
  have hl : j < l.length := by omega
  have hg := flatF_get (f := Iv.cells) Iv.len l j l[j] (List.getElem?_eq_getElem hl)
  obtain ⟨b, o, e, hlt, hc⟩ := h3 (by intro h0; have := flatF_len (f := Iv.cells) Iv.len l; rw [h0] at this; simp at this; omega)
  have key : ∀ i v, i < 5 → (l[j]).cells[i]? = some v → w.cell? ⟨b, o + j * 5 + i, none⟩ = some v := fun i v hi hv => by
    rw [Nat.add_assoc]
    exact hc _ _ ((hg i hi).trans hv)
  exact ⟨b, o, l[j], e, hlt, List.getElem?_eq_getElem hl, key 0 _ (by decide) rfl, key 1 _ (by decide) rfl, key 2 _ (by decide) rfl, key 3 _ (by decide) rfl, key 4 _ (by decide) rfl⟩
theorem IS.of_row {w : World} {g c n : Nat} {l : List Iv} (h : IR g c l w) (hn : n = l.length) : IS w (some ⟨g, 0, none⟩) n l := ⟨hn, fun _ => ⟨g, 0, rfl, h.lt, fun j u hj => by
  obtain ⟨cur, hg, _, _, hc⟩ := h
  rw [cell_of_row _ _ _ _ _ _ hg, Nat.zero_add]
  exact hc j u hj⟩⟩
theorem IS.of_own {w : World} {base n c : Nat} {A : Option Addr} {l : List Iv} {e : TypeId} (h : w.ownsRow base e 5 (.slice A n c) n (flatF Iv.cells l)) : IS w A n l := by
  have hlen := h.1
  rw [flatF_len Iv.len] at hlen
  rcases h.2 with ⟨h0, h1⟩ | ⟨g, cap, cur, hv', _, hg, hnc, _, _, ht⟩
  · injection h0 with a1 a2 a3
    subst a1 a2 a3
    exact ⟨by omega, fun hx => absurd (List.eq_nil_of_length_eq_zero (by rw [flatF_len Iv.len]; omega)) hx⟩
  · injection hv' with a1 a2 a3
    subst a1 a3
    refine ⟨by omega, ?_⟩
    have := (SR.row hg).take (n * 5)
    rw [ht] at this
    exact this
theorem toL_data (s : ByteArray) : s.toList = s.data.toList := by
  have loop : ∀ (k i : Nat) (r : List UInt8), s.size - i = k → i ≤ s.size → ByteArray.toList.loop s i r = r.reverse ++ s.data.toList.drop i := by
    intro k
    induction k with
    | zero =>
      intro i r h1 h2
      rw [ByteArray.toList.loop, if_neg (by omega), List.drop_eq_nil_of_le (by show s.data.toList.length ≤ i; rw [Array.length_toList]; show s.size ≤ i; omega), List.append_nil]
    | succ k ih =>
      intro i r h1 h2
      have hi : i < s.size := by omega
      rw [ByteArray.toList.loop, if_pos hi, ih (i + 1) _ (by omega) (by omega), List.reverse_cons, List.append_assoc]
      congr 1
      have hl : i < s.data.toList.length := by rw [Array.length_toList]; exact hi
      rw [List.drop_eq_getElem_cons hl]
      have : s.get! i = s.data.toList[i] := by
        show s.data[i]! = _
        rw [getElem!_pos s.data i hi]
        simp
      rw [this]
      rfl
  have := loop s.size 0 [] rfl (Nat.zero_le _)
  simpa [ByteArray.toList] using this
/-- Are two texts the same? -/
def sq (a b : ByteArray) : Bool := a.toList == b.toList
theorem sq_iff {a b : ByteArray} : sq a b = true ↔ a = b := by
  unfold sq
  rw [beq_iff_eq, toL_data, toL_data]
  constructor
  · intro h
    cases a
    cases b
    congr
    exact Array.toList_inj.1 h
  · intro h
    rw [h]
/-- Is it of that topic? -/
def ofT (s : ByteArray) (x : Iv) : Bool := sq x.tp s
theorem ofT_iff {s : ByteArray} {x : Iv} : ofT s x = true ↔ x.tp = s := sq_iff
/-- The place of the first one of a topic; -1: there is none. -/
def ixT (s : ByteArray) (l : List Iv) : Int := if l.findIdx (ofT s) < l.length then (l.findIdx (ofT s) : Int) else -1
theorem ixT_at {s : ByteArray} {l : List Iv} {j : Nat} {x : Iv} (hn : ∀ (k : Nat) y, k < j → l[k]? = some y → ofT s y = false) (hj : l[j]? = some x) (hx : ofT s x = true) : ixT s l = j := by
  have hjl := (List.getElem?_eq_some_iff.1 hj).1
  have h1 : l.findIdx (ofT s) = j := by
    rw [List.findIdx_eq hjl]
    refine ⟨by rw [(List.getElem?_eq_some_iff.1 hj).2]; exact hx, fun k hk => ?_⟩
    exact hn k _ hk (List.getElem?_eq_getElem (by omega))
  unfold ixT
  rw [h1, if_pos hjl]
theorem ixT_none {s : ByteArray} {l : List Iv} (hn : ∀ (k : Nat) y, k < l.length → l[k]? = some y → ofT s y = false) : ixT s l = -1 := by
  unfold ixT
  rw [if_neg]
  intro h
  have := List.findIdx_getElem (w := h)
  rw [hn _ _ h (List.getElem?_eq_getElem h)] at this
  cases this

theorem clD_any (x : Iv) (s : ByteArray) (B : Nat) (w : World) (hB : B < w.heap.size) (hc : w.cell? ⟨B, 0, none⟩ = some (.string s)) :
    Calls Try.prog 47 #[.agg #[.string x.tp, .int .i64 x.fr, .int .i64 x.nu, .bool x.tx, .slice x.da.1 x.da.2.1 x.da.2.2], .pointer (some ⟨B, 0, none⟩)] w fun e w' => e = .returned (.bool (ofT s x)) ∧ Below w.heap.size w w' := by
  have H := keep ((Below.refl _ w).alloc (Nat.le_refl _) (.cells #[.string x.tp, .int .i64 x.fr, .int .i64 x.nu, .bool x.tx, .slice x.da.1 x.da.2.1 x.da.2.2] 49))
  unfold ofT sq
  obtain ⟨t, ht⟩ : ∃ t, x.tp = t := ⟨_, rfl⟩
  rw [ht] at H ⊢
  clear ht
  go_enter Try.func47, Try.ntmps47
  go_wp2
  go_ret
  exact ⟨rfl, H.out⟩
set_option maxHeartbeats 2000000 in
theorem indexD_any (A : Option Addr) (n c : Nat) (l : List Iv) (s : ByteArray) (B : Nat) (w : World) (h : IS w A n l) (hB : B < w.heap.size) (hc : w.cell? ⟨B, 0, none⟩ = some (.string s)) (hm : n ≤ 100000) :
    Calls Try.prog 50 #[.slice A n c, .func (.func 47) #[] #[.pointer (some ⟨B, 0, none⟩)]] w fun e w' => e = .returned (.int .i64 (ixT s l)) ∧ Below w.heap.size w w' := by
  have HC := keep h
  have HL := keep h.1
  have HB := keep (And.intro hB hc)
  obtain ⟨r, hr⟩ : ∃ r, ixT s l = r := ⟨_, rfl⟩
  rw [hr]
  have HR := keep hr
  clear h hB hc hr
  go_enter Try.func50, Try.ntmps50
  go_wp2_with fail
  go_loopw [8] (fun i wr => ∃ j : Nat, j ≤ n ∧ i = .int .i64 j ∧ Hid ((∀ (k : Nat) y, k < j → l[k]? = some y → ofT s y = false) ∧ Below w.heap.size w wr)) (fun i _ => n - (intOf i).toNat)
  case atStart => exact ⟨0, Nat.zero_le _, rfl, keep ⟨fun k y hk => absurd hk (Nat.not_lt_zero _), Below.refl _ _⟩⟩
  case round =>
    obtain ⟨j, hj, rfl, hno⟩ := hrel
    by_cases hlt : j < n
    · obtain ⟨b, o, x, rfl, hbl, hlj, c0, c1, c2, c3, c4⟩ := (HC.out.step hno.out.2).at_ hlt
      have hlt' : (j : Int) < (n : Int) := by omega
      have HJ := keep hlj
      have K := keep (clD_any x s B wr (Nat.lt_of_lt_of_le HB.out.1 hno.out.2.size) ((hno.out.2.cell (p := ⟨B, 0, none⟩) HB.out.1).trans HB.out.2))
      obtain ⟨q, hq⟩ : ∃ q, ofT s x = q := ⟨_, rfl⟩
      have HQ := keep hq
      have K2 := K.out
      rw [hq] at K2
      clear K
      replace K := keep K2
      clear K2 hlj hq
      have HLT := keep hlt
      clear hlt
      obtain ⟨xt, xf, xn, xx, ⟨x1, x2, x3⟩, xb⟩ := x
      dsimp only at c0 c1 c2 c3 c4 K
      cases q
      · go_wp2_with (go_at_call 47; refine K.out.mono ?_; rintro e w2 ⟨rfl, hb⟩
                     have B := keep (hno.out.2.trans (hb.mono hno.out.2.size))
                     clear hb)
        go_roundw
        case rel => exact ⟨j + 1, HLT.out, rfl, keep ⟨fun k y hk hy => by
          rcases Nat.lt_or_ge k j with h0 | h0
          · exact hno.out.1 k y h0 hy
          · obtain rfl : k = j := by omega
            rw [HJ.out] at hy
            cases hy
            exact HQ.out, B.out⟩⟩
        all_goals (have := HLT.out; simp [intOf]; omega)
      · obtain rfl : r = (j : Int) := by
          rw [← HR.out]
          exact ixT_at hno.out.1 HJ.out HQ.out
        go_wp2_with (go_at_call 47; refine K.out.mono ?_; rintro e w2 ⟨rfl, hb⟩
                     have B := keep (hno.out.2.trans (hb.mono hno.out.2.size))
                     clear hb)
        go_ret
        exact ⟨rfl, B.out⟩
    · obtain rfl : j = n := by omega
      obtain rfl : r = -1 := by
        rw [← HR.out]
        exact ixT_none fun k y hk hy => hno.out.1 k y (by have := HL.out; omega) hy
      go_wp2
      go_ret
      exact ⟨rfl, hno.out.2⟩

theorem clM_any (x : Iv) (s : ByteArray) (B : Nat) (w : World) (hB : B < w.heap.size) (hc : w.cell? ⟨B, 0, none⟩ = some (.string s)) :
    Calls Try.prog 52 #[.agg #[.string x.tp, .int .i64 x.fr, .int .i64 x.nu, .bool x.tx, .slice x.da.1 x.da.2.1 x.da.2.2], .pointer (some ⟨B, 0, none⟩)] w fun e w' => e = .returned (.bool (ofT s x)) ∧ Below w.heap.size w w' := by
  have H := keep ((Below.refl _ w).alloc (Nat.le_refl _) (.cells #[.string x.tp, .int .i64 x.fr, .int .i64 x.nu, .bool x.tx, .slice x.da.1 x.da.2.1 x.da.2.2] 49))
  unfold ofT sq
  obtain ⟨t, ht⟩ : ∃ t, x.tp = t := ⟨_, rfl⟩
  rw [ht] at H ⊢
  clear ht
  go_enter Try.func52, Try.ntmps52
  go_wp2
  go_ret
  exact ⟨rfl, H.out⟩
set_option maxHeartbeats 2000000 in
theorem indexM_any (A : Option Addr) (n c : Nat) (l : List Iv) (s : ByteArray) (B : Nat) (w : World) (h : IS w A n l) (hB : B < w.heap.size) (hc : w.cell? ⟨B, 0, none⟩ = some (.string s)) (hm : n ≤ 100000) :
    Calls Try.prog 50 #[.slice A n c, .func (.func 52) #[] #[.pointer (some ⟨B, 0, none⟩)]] w fun e w' => e = .returned (.int .i64 (ixT s l)) ∧ Below w.heap.size w w' := by
  have HC := keep h
  have HL := keep h.1
  have HB := keep (And.intro hB hc)
  obtain ⟨r, hr⟩ : ∃ r, ixT s l = r := ⟨_, rfl⟩
  rw [hr]
  have HR := keep hr
  clear h hB hc hr
  go_enter Try.func50, Try.ntmps50
  go_wp2_with fail
  go_loopw [8] (fun i wr => ∃ j : Nat, j ≤ n ∧ i = .int .i64 j ∧ Hid ((∀ (k : Nat) y, k < j → l[k]? = some y → ofT s y = false) ∧ Below w.heap.size w wr)) (fun i _ => n - (intOf i).toNat)
  case atStart => exact ⟨0, Nat.zero_le _, rfl, keep ⟨fun k y hk => absurd hk (Nat.not_lt_zero _), Below.refl _ _⟩⟩
  case round =>
    obtain ⟨j, hj, rfl, hno⟩ := hrel
    by_cases hlt : j < n
    · obtain ⟨b, o, x, rfl, hbl, hlj, c0, c1, c2, c3, c4⟩ := (HC.out.step hno.out.2).at_ hlt
      have hlt' : (j : Int) < (n : Int) := by omega
      have HJ := keep hlj
      have K := keep (clM_any x s B wr (Nat.lt_of_lt_of_le HB.out.1 hno.out.2.size) ((hno.out.2.cell (p := ⟨B, 0, none⟩) HB.out.1).trans HB.out.2))
      obtain ⟨q, hq⟩ : ∃ q, ofT s x = q := ⟨_, rfl⟩
      have HQ := keep hq
      have K2 := K.out
      rw [hq] at K2
      clear K
      replace K := keep K2
      clear K2 hlj hq
      have HLT := keep hlt
      clear hlt
      obtain ⟨xt, xf, xn, xx, ⟨x1, x2, x3⟩, xb⟩ := x
      dsimp only at c0 c1 c2 c3 c4 K
      cases q
      · go_wp2_with (go_at_call 52; refine K.out.mono ?_; rintro e w2 ⟨rfl, hb⟩
                     have B := keep (hno.out.2.trans (hb.mono hno.out.2.size))
                     clear hb)
        go_roundw
        case rel => exact ⟨j + 1, HLT.out, rfl, keep ⟨fun k y hk hy => by
          rcases Nat.lt_or_ge k j with h0 | h0
          · exact hno.out.1 k y h0 hy
          · obtain rfl : k = j := by omega
            rw [HJ.out] at hy
            cases hy
            exact HQ.out, B.out⟩⟩
        all_goals (have := HLT.out; simp [intOf]; omega)
      · obtain rfl : r = (j : Int) := by
          rw [← HR.out]
          exact ixT_at hno.out.1 HJ.out HQ.out
        go_wp2_with (go_at_call 52; refine K.out.mono ?_; rintro e w2 ⟨rfl, hb⟩
                     have B := keep (hno.out.2.trans (hb.mono hno.out.2.size))
                     clear hb)
        go_ret
        exact ⟨rfl, B.out⟩
    · obtain rfl : j = n := by omega
      obtain rfl : r = -1 := by
        rw [← HR.out]
        exact ixT_none fun k y hk hy => hno.out.1 k y (by have := HL.out; omega) hy
      go_wp2
      go_ret
      exact ⟨rfl, hno.out.2⟩
end Go.Proofs.Ytnbicbnighpkjaa
