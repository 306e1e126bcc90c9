/- The reference's starting and telling what is due. -/
import Derived.Test.YthnhmgdefmahkaaTR
namespace Go.Proofs.Ythnhmgdefmahkaa
open Go.RowKit
set_option linter.unusedVariables false

/-- The cells of ids. -/
def ints (l : List (Int × Int)) : List Value := l.map fun p => .int .i64 p.1
theorem ints_len (l : List (Int × Int)) : (ints l).length = l.length := by simp [ints]
theorem due_at {l : List (Int × Int)} {now : Int} {j : Nat} (h : ∀ p ∈ l.take j, p.2 ≤ now) (hj : j ≤ l.length) (hn : ∀ p, l[j]? = some p → now < p.2) : dueL l now = l.take j ∧ restL l now = l.drop j := by
  induction l generalizing j with
  | nil => simp [dueL, restL]
  | cons x r ih =>
    cases j with
    | zero =>
      have := hn x rfl
      have hx : ¬ x.2 ≤ now := by omega
      simp [dueL, restL, hx]
    | succ j =>
      have hx : x.2 ≤ now := h x (by simp)
      have := ih (j := j) (fun p hp => h p (by simp [hp])) (by simp at hj; omega) (fun p hp => hn p (by simpa using hp))
      unfold dueL restL at *
      simp [hx, this.1, this.2]

/-- The ids that are due, in new memory; what is left, where it lay. -/
def RetD (w : World) (A0 : Option Addr) (l : List (Int × Int)) (now : Int) (e : Ending) (w' : World) : Prop :=
  ∃ A c A' n' c', e = .returned (.tuple #[.slice A (dueL l now).length c, .slice A' n' c']) ∧ Hid (w'.ownsRow w.heap.size 3 1 (.slice A (dueL l now).length c) (dueL l now).length (ints (dueL l now))) ∧
    ES w' A' n' c' (restL l now) ∧ (∀ a, A' = some a → ∃ a0, A0 = some a0 ∧ a.block = a0.block) ∧ Below w.heap.size w w'

set_option maxHeartbeats 2000000 in
theorem RDue (A : Option Addr) (n c : Nat) (l : List (Int × Int)) (now : Int) (w : World) (h : ES w A n c l) (hn : n ≤ 1000000) :
    Calls Try.prog 14 #[.slice A n c, .int .i64 now] w fun e w' => RetD w A l now e w' := by
  obtain ⟨i0, hi0, hz0, hz1, hz2⟩ := info_parts int_info
  have HL := keep h.1
  have H := keep h
  clear h
  go_enter Try.func14, Try.ntmps14
  go_wp2
  go_loopw [0, 6] (fun s out wr => ∃ (j n' : Nat) (A' : Option Addr) (c' : Nat) (A2 : Option Addr) (c2 : Nat), n' + j = n ∧ s = .slice A' n' c' ∧ out = .slice A2 j c2 ∧ ES w A' n' c' (l.drop j) ∧ Hid (wr.ownsRow w.heap.size 3 1 (.slice A2 j c2) j (ints (l.take j))) ∧
      (∀ p ∈ l.take j, p.2 ≤ now) ∧ (∀ a, A' = some a → ∃ a0, A = some a0 ∧ a.block = a0.block) ∧ Below w.heap.size w wr)
    (fun s _ _ => match s with | .slice _ n' _ => n' | _ => 0)
  case atStart => exact ⟨0, n, A, c, none, 0, rfl, rfl, rfl, H.out, World.ownsRow_nil _ _ _ _, by simp, fun a h => ⟨a, h, rfl⟩, Below.refl _ _⟩
  case round =>
    obtain ⟨j, n', A', c', A2, c2, hj, rfl, rfl, hE, ho, hle, hA, hb⟩ := hrel
    have HJ := keep hj
    have HLe := keep hle
    have HA := keep hA
    have HB := keep hb
    have hsz := hb.size
    have HEE := keep hE
    clear hj hle hA hb
    rcases n' with _ | n'
    · have hd := due_at HLe.out (by have := HJ.out; have := HL.out; omega) fun p hp => by
        rw [List.getElem?_eq_none (by have := HJ.out; have := HL.out; omega)] at hp
        cases hp
      have hjl : (dueL l now).length = j := by rw [hd.1, List.length_take]; have := HJ.out; have := HL.out; omega
      have HD := keep (And.intro hd hjl)
      clear hd hjl hE
      go_wp2
      go_ret2
      obtain ⟨⟨h1, h2⟩, h3⟩ := HD.out
      exact ⟨A2, c2, A', 0, c', by rw [h3]; rfl, by rw [h3, h1]; exact ho, by rw [h2]; exact HEE.out.step HB.out, HA.out, HB.out⟩
    · obtain ⟨b, o, x, y, rfl, hbl, hc0, hc1, hlj⟩ := (hE.step HB.out).at_ (j := 0) (by omega)
      have hcap := hE.2.1
      have hlj' : l[j]? = some (x, y) := by rw [List.getElem?_drop] at hlj; simpa using hlj
      simp only [Nat.zero_mul, Nat.add_zero] at hc0 hc1
      clear hE hlj
      by_cases hy : y ≤ now
      · have htk : l.take (j + 1) = l.take j ++ [(x, y)] := by rw [List.take_add_one, hlj']; rfl
        have HT := keep htk
        have hle2 : ∀ p ∈ l.take (j + 1), p.2 ≤ now := fun p hp => by
          rw [htk, List.mem_append, List.mem_singleton] at hp
          rcases hp with hp | rfl
          · exact HLe.out p hp
          · exact hy
        have HL2 := keep hle2
        have hdr := HEE.out.drop 1
        rw [List.drop_drop] at hdr
        have HDR := keep hdr
        have hjn : j < n := by have := HJ.out; omega
        have hlen : l.length - (j + 1) = n' := by have := HJ.out; have := HL.out; omega
        have HLN := keep hlen
        clear htk hlj' hle2 hdr hlen
        by_cases hc : c' = 1
        · have HC := keep hc
          subst hc
          go_wp2_with (first
            | (at_builtin; refine wpl_append rfl (.tmp 18) (.tmp 23) 35 rfl w.heap.size 3 i0 (.int .i64 0) Try.underlying35 hi0 hz0 hz1 rfl _ j _ rfl (ho.out.alloc _) _ 1 1 [.int .i64 x] rfl rfl (SR.row (t := 3) (fr := (0, 0)) (cur := #[.int .i64 x]) (heap_alloc_new wr _)) (by simp [Value.oneCell']) (by unfold maxLen; omega) (by rw [hz2]; omega) (by simp; omega) ?_
               intro A3 c3 w3 ho3 hb3))
          have ho4 : w3.ownsRow w.heap.size 3 1 (.slice A3 (j + 1) c3) (j + 1) (ints (l.take (j + 1))) := by rw [HT.out]; unfold ints; rw [List.map_append]; exact ho3.out
          have hb4 := (HB.out.alloc hsz (.cells #[.int .i64 x] 3)).trans hb3
          have hsr := HDR.out
          rw [if_pos rfl] at hsr
          go_roundw
          case rel => exact ⟨j + 1, 0, _, 0, A3, c3, by have := HJ.out; omega, rfl, rfl, ⟨by rw [List.length_drop, HLN.out]; omega, Nat.le_refl _, hsr⟩, ho4, HL2.out, HA.out, hb4⟩
          case measure => simp
        · have hc' : (c' = 1) = False := by simp [hc]
          go_wp2_with (first
            | (at_builtin; refine wpl_append rfl (.tmp 18) (.tmp 23) 35 rfl w.heap.size 3 i0 (.int .i64 0) Try.underlying35 hi0 hz0 hz1 rfl _ j _ rfl (ho.out.alloc _) _ 1 1 [.int .i64 x] rfl rfl (SR.row (t := 3) (fr := (0, 0)) (cur := #[.int .i64 x]) (heap_alloc_new wr _)) (by simp [Value.oneCell']) (by unfold maxLen; omega) (by rw [hz2]; omega) (by simp; omega) ?_
               intro A3 c3 w3 ho3 hb3))
          have ho4 : w3.ownsRow w.heap.size 3 1 (.slice A3 (j + 1) c3) (j + 1) (ints (l.take (j + 1))) := by rw [HT.out]; unfold ints; rw [List.map_append]; exact ho3.out
          have hb4 := (HB.out.alloc hsz (.cells #[.int .i64 x] 3)).trans hb3
          have hsr := HDR.out
          rw [if_neg hc, Option.map_some, Addr.add_lit] at hsr
          go_roundw
          case rel => exact ⟨j + 1, n', _, c' - 1, A3, c3, by have := HJ.out; omega, rfl, rfl, ⟨by rw [List.length_drop, HLN.out], by omega, hsr⟩, ho4, HL2.out, fun a ha => by obtain ⟨a0, h1, h2⟩ := HA.out _ rfl; injection ha with ha; exact ⟨a0, h1, by rw [← ha]; exact h2⟩, hb4⟩
          case measure => simp
      · have hy2 : ¬ y ≤ now := hy
        have hd := due_at HLe.out (by have := HJ.out; have := HL.out; omega) fun p hp => by
          rw [hlj'] at hp
          cases hp
          show now < y
          omega
        have hjl : (dueL l now).length = j := by rw [hd.1, List.length_take]; have := HJ.out; have := HL.out; omega
        have HD := keep (And.intro hd hjl)
        clear hd hjl hlj'
        go_wp2
        go_ret2
        obtain ⟨⟨h1, h2⟩, h3⟩ := HD.out
        exact ⟨A2, c2, _, n' + 1, c', by rw [h3]; rfl, by rw [h3, h1]; exact ho, by rw [h2]; exact HEE.out.step HB.out, HA.out, HB.out⟩

theorem RetE.mk {w w1 w4 : World} {q l' : List (Int × Int)} {j : Nat} {p : Int × Int} {A4 : Option Addr} {c4 : Nat} (hb1 : Below w.heap.size w w1) (hb4 : Below w1.heap.size w1 w4) (hl : l' = q.take j ++ p :: q.drop j) (hj : j ≤ q.length)
    (ho4 : Hid (w4.ownsRow w1.heap.size 47 2 (.slice A4 (j + 1 + (q.length - j)) c4) (j + 1 + (q.length - j)) (flat (q.take j) ++ flat [p] ++ flat (q.drop j)))) : RetE w l' (.returned (.slice A4 (j + 1 + (q.length - j)) c4)) w4 := by
  have hn : l'.length = j + 1 + (q.length - j) := by
    rw [hl]
    simp only [List.length_append, List.length_take, List.length_cons, List.length_drop]
    omega
  have hf : flat l' = flat (q.take j) ++ flat [p] ++ flat (q.drop j) := by
    rw [hl, show p :: q.drop j = [p] ++ q.drop j from rfl, flat_append, flat_append, List.append_assoc]
  refine ⟨A4, c4, by rw [hn], ?_, hb1.trans (hb4.mono hb1.size)⟩
  rw [hn, hf]
  exact own_mono ho4.out hb1.size

theorem while_at {f : Int × Int → Bool} {l : List (Int × Int)} {j : Nat} (h : ∀ p ∈ l.take j, f p = true) (hj : j ≤ l.length) (hn : ∀ p, l[j]? = some p → f p = false) : l.takeWhile f = l.take j ∧ l.dropWhile f = l.drop j := by
  induction l generalizing j with
  | nil => simp
  | cons x r ih =>
    cases j with
    | zero => simp [hn x rfl]
    | succ j =>
      have hx : f x = true := h x (by simp)
      have := ih (j := j) (fun p hp => h p (by simp [hp])) (by simp at hj; omega) (fun p hp => hn p (by simpa using hp))
      simp [hx, this.1, this.2]

set_option maxHeartbeats 2000000 in
theorem RStart (A : Option Addr) (n c : Nat) (l : List (Int × Int)) (id t : Int) (w : World) (h : ES w A n c l) (hn : n ≤ 1000000) :
    Calls Try.prog 10 #[.slice A n c, .int .i64 id, .int .i64 t] w fun e w' => RetE w (startL l id t) e w' := by
  obtain ⟨i0, hi0, hz0, hz1, hz2⟩ := info_parts Entry_info
  have HS := keep (RStop A n c l id w h hn)
  have hq : (stopL l id).length ≤ 1000000 := Nat.le_trans (stopL_len l id) (by have := h.1; omega)
  unfold startL insL
  generalize stopL l id = q at HS hq ⊢
  clear h
  go_enter Try.func10, Try.ntmps10
  go_wp2_with (first
    | (go_at_call 12; refine HS.out.mono ?_; rintro e w1 ⟨A1, c1, rfl, ho1, hb1⟩
       have hE := keep (ES.of_own ho1.out)
       clear HS ho1
       replace hb1 := keep hb1))
  go_loop [7] (fun k => ∃ j : Nat, j ≤ q.length ∧ k = .int .i64 j ∧ ∀ p ∈ q.take j, bef p (id, t) = true)
    (fun k => q.length - (intOf k).toNat)
  case atStart => exact ⟨0, Nat.zero_le _, rfl, by simp⟩
  case round =>
    obtain ⟨j, hj, rfl, hle⟩ := hrel
    have HLe := keep hle
    clear hle
    -- what stands behind the loop
    have fin : (∀ p, q[j]? = some p → bef p (id, t) = false) → q.takeWhile (fun p => bef p (id, t)) = q.take j ∧ q.dropWhile (fun p => bef p (id, t)) = q.drop j := fun hno => while_at HLe.out hj hno
    by_cases hlt : j < q.length
    · obtain ⟨b, o, x, y, rfl, hbl, hc0, hc1, hlj⟩ := hE.out.at_ hlt
      have htk : q.take (j + 1) = q.take j ++ [(x, y)] := by rw [List.take_add_one, hlj]; rfl
      have hno : bef (x, y) (id, t) = false → ∀ p, q[j]? = some p → bef p (id, t) = false := fun h0 p hp => by
        rw [hlj] at hp
        cases hp
        exact h0
      have hyes : bef (x, y) (id, t) = true → ∀ p ∈ q.take (j + 1), bef p (id, t) = true := fun h0 p hp => by
        rw [htk, List.mem_append, List.mem_singleton] at hp
        rcases hp with hp | rfl
        · exact HLe.out p hp
        · exact h0
      rw [bef_iff] at hyes
      rw [bef_no] at hno
      by_cases hy : y < t
      · have HY := keep (hyes (.inl hy))
        clear hyes hno fin hlj htk
        go_wp2
        go_round
        case rel => exact ⟨j + 1, by omega, by go_num, HY.out⟩
        case measure => simp [intOf]; omega
      · by_cases hy2 : y = t
        · by_cases hx : x < id
          · have HY := keep (hyes (.inr ⟨hy2, hx⟩))
            clear hyes hno fin hlj htk
            subst hy2
            go_wp2
            go_round
            case rel => exact ⟨j + 1, by omega, by go_num, HY.out⟩
            case measure => simp [intOf]; omega
          · have HF := keep (fin (hno (by simp; omega)))
            clear hyes hno fin hlj htk
            subst hy2
            have hcap := hE.out.2.1
            have hcj : j ≤ c1 := by omega
            have H1 := keep (hE.out.take (k := j) (by omega))
            have H3 := keep (hE.out.drop j)
            have hlt1 : (q.take j).length = j := by rw [List.length_take]; omega
            have HT := keep hlt1
            have hld : (q.drop j).length = q.length - j := List.length_drop
            have HD := keep hld
            clear hlt1 hld
            by_cases hck : c1 = j
            · have H4 := H3.out
              rw [if_pos hck] at H4
              replace H4 := keep H4
              have HK := keep hck
              have hck2 : (c1 = j) = True := by simp [hck]
              clear H3 hck
              go_wp2_with (first
                | (at_builtin; refine wpl_append2 rfl (.tmp 45) (.tmp 48) 28 rfl w1.heap.size 47 i0 (.agg #[.int .i64 0, .int .i64 0]) Try.underlying28 hi0 hz0 hz1 rfl (.slice none 0 0) 0 [] rfl (World.ownsRow_nil _ _ _ _) _ j c1 (flat (q.take j)) rfl (by rw [flat_len, HT.out]) H1.out (flat_one _) (by unfold maxLen; omega) (by rw [hz2]; omega) (Nat.le_refl _) ?_
                   intro A2 c2 w2 ho2 hb2 hg2
                   simp only [Nat.zero_add, List.nil_append] at ho2
                   have hs2 := hb2.size
                   replace hb2 := keep hb2
                   clear hg2)
                | (at_builtin; refine wpl_append2 rfl (.tmp 50) (.tmp 54) 28 rfl w1.heap.size 47 i0 (.agg #[.int .i64 0, .int .i64 0]) Try.underlying28 hi0 hz0 hz1 rfl _ j _ rfl (ho2.out.alloc _) _ 1 1 (flat [(id, y)]) rfl rfl (SR.row (t := 47) (fr := (0, 0)) (cur := (flat [(id, y)]).toArray) (heap_alloc_new w2 _)) (flat_one _) (by unfold maxLen; omega) (by rw [hz2]; omega) (by simp; omega) ?_
                   intro A3 c3 w3 ho3 hb3 hg3
                   replace hb3 := (hb2.out.alloc hs2 _).trans hb3
                   have hs3 := hb3.size
                   have hr3 := keep (H4.out.step hb3)
                   replace hb3 := keep hb3
                   clear hg3 ho2 hb2)
                | (at_builtin; refine wpl_append2 rfl (.tmp 56) (.tmp 59) 28 rfl w1.heap.size 47 i0 (.agg #[.int .i64 0, .int .i64 0]) Try.underlying28 hi0 hz0 hz1 rfl _ (j + 1) _ rfl ho3.out _ (q.length - j) _ (flat (q.drop j)) rfl (by rw [flat_len, HD.out]) hr3.out (flat_one _) (by unfold maxLen; omega) (by rw [hz2]; omega) hs3 ?_
                   intro A4 c4 w4 ho4 hb4 hg4
                   replace hb4 := keep (hb3.out.trans hb4)
                   clear hg4 ho3 hb3 hr3))
              go_ret
              exact RetE.mk (j := j) hb1.out hb4.out (by rw [HF.out.1, HF.out.2]) (by omega) ho4
            · have H4 := H3.out
              rw [if_neg hck, Option.map_some, Addr.add_lit] at H4
              replace H4 := keep H4
              have HK := keep hck
              have hck2 : (c1 = j) = False := by simp [hck]
              clear H3 hck
              go_wp2_with (first
                | (at_builtin; refine wpl_append2 rfl (.tmp 45) (.tmp 48) 28 rfl w1.heap.size 47 i0 (.agg #[.int .i64 0, .int .i64 0]) Try.underlying28 hi0 hz0 hz1 rfl (.slice none 0 0) 0 [] rfl (World.ownsRow_nil _ _ _ _) _ j c1 (flat (q.take j)) rfl (by rw [flat_len, HT.out]) H1.out (flat_one _) (by unfold maxLen; omega) (by rw [hz2]; omega) (Nat.le_refl _) ?_
                   intro A2 c2 w2 ho2 hb2 hg2
                   simp only [Nat.zero_add, List.nil_append] at ho2
                   have hs2 := hb2.size
                   replace hb2 := keep hb2
                   clear hg2)
                | (at_builtin; refine wpl_append2 rfl (.tmp 50) (.tmp 54) 28 rfl w1.heap.size 47 i0 (.agg #[.int .i64 0, .int .i64 0]) Try.underlying28 hi0 hz0 hz1 rfl _ j _ rfl (ho2.out.alloc _) _ 1 1 (flat [(id, y)]) rfl rfl (SR.row (t := 47) (fr := (0, 0)) (cur := (flat [(id, y)]).toArray) (heap_alloc_new w2 _)) (flat_one _) (by unfold maxLen; omega) (by rw [hz2]; omega) (by simp; omega) ?_
                   intro A3 c3 w3 ho3 hb3 hg3
                   replace hb3 := (hb2.out.alloc hs2 _).trans hb3
                   have hs3 := hb3.size
                   have hr3 := keep (H4.out.step hb3)
                   replace hb3 := keep hb3
                   clear hg3 ho2 hb2)
                | (at_builtin; refine wpl_append2 rfl (.tmp 56) (.tmp 59) 28 rfl w1.heap.size 47 i0 (.agg #[.int .i64 0, .int .i64 0]) Try.underlying28 hi0 hz0 hz1 rfl _ (j + 1) _ rfl ho3.out _ (q.length - j) _ (flat (q.drop j)) rfl (by rw [flat_len, HD.out]) hr3.out (flat_one _) (by unfold maxLen; omega) (by rw [hz2]; omega) hs3 ?_
                   intro A4 c4 w4 ho4 hb4 hg4
                   replace hb4 := keep (hb3.out.trans hb4)
                   clear hg4 ho3 hb3 hr3))
              go_ret
              exact RetE.mk (j := j) hb1.out hb4.out (by rw [HF.out.1, HF.out.2]) (by omega) ho4
        · have HF := keep (fin (hno (by simp; omega)))
          have hy3 : (y == t) = false := by simp [hy2]
          clear hyes hno fin hlj htk hy2
          have hcap := hE.out.2.1
          have hcj : j ≤ c1 := by omega
          have H1 := keep (hE.out.take (k := j) (by omega))
          have H3 := keep (hE.out.drop j)
          have hlt1 : (q.take j).length = j := by rw [List.length_take]; omega
          have HT := keep hlt1
          have hld : (q.drop j).length = q.length - j := List.length_drop
          have HD := keep hld
          clear hlt1 hld
          by_cases hck : c1 = j
          · have H4 := H3.out
            rw [if_pos hck] at H4
            replace H4 := keep H4
            have HK := keep hck
            have hck2 : (c1 = j) = True := by simp [hck]
            clear H3 hck
            go_wp2_with (first
              | (at_builtin; refine wpl_append2 rfl (.tmp 45) (.tmp 48) 28 rfl w1.heap.size 47 i0 (.agg #[.int .i64 0, .int .i64 0]) Try.underlying28 hi0 hz0 hz1 rfl (.slice none 0 0) 0 [] rfl (World.ownsRow_nil _ _ _ _) _ j c1 (flat (q.take j)) rfl (by rw [flat_len, HT.out]) H1.out (flat_one _) (by unfold maxLen; omega) (by rw [hz2]; omega) (Nat.le_refl _) ?_
                 intro A2 c2 w2 ho2 hb2 hg2
                 simp only [Nat.zero_add, List.nil_append] at ho2
                 have hs2 := hb2.size
                 replace hb2 := keep hb2
                 clear hg2)
              | (at_builtin; refine wpl_append2 rfl (.tmp 50) (.tmp 54) 28 rfl w1.heap.size 47 i0 (.agg #[.int .i64 0, .int .i64 0]) Try.underlying28 hi0 hz0 hz1 rfl _ j _ rfl (ho2.out.alloc _) _ 1 1 (flat [(id, t)]) rfl rfl (SR.row (t := 47) (fr := (0, 0)) (cur := (flat [(id, t)]).toArray) (heap_alloc_new w2 _)) (flat_one _) (by unfold maxLen; omega) (by rw [hz2]; omega) (by simp; omega) ?_
                 intro A3 c3 w3 ho3 hb3 hg3
                 replace hb3 := (hb2.out.alloc hs2 _).trans hb3
                 have hs3 := hb3.size
                 have hr3 := keep (H4.out.step hb3)
                 replace hb3 := keep hb3
                 clear hg3 ho2 hb2)
              | (at_builtin; refine wpl_append2 rfl (.tmp 56) (.tmp 59) 28 rfl w1.heap.size 47 i0 (.agg #[.int .i64 0, .int .i64 0]) Try.underlying28 hi0 hz0 hz1 rfl _ (j + 1) _ rfl ho3.out _ (q.length - j) _ (flat (q.drop j)) rfl (by rw [flat_len, HD.out]) hr3.out (flat_one _) (by unfold maxLen; omega) (by rw [hz2]; omega) hs3 ?_
                 intro A4 c4 w4 ho4 hb4 hg4
                 replace hb4 := keep (hb3.out.trans hb4)
                 clear hg4 ho3 hb3 hr3))
            go_ret
            exact RetE.mk (j := j) hb1.out hb4.out (by rw [HF.out.1, HF.out.2]) (by omega) ho4
          · have H4 := H3.out
            rw [if_neg hck, Option.map_some, Addr.add_lit] at H4
            replace H4 := keep H4
            have HK := keep hck
            have hck2 : (c1 = j) = False := by simp [hck]
            clear H3 hck
            go_wp2_with (first
              | (at_builtin; refine wpl_append2 rfl (.tmp 45) (.tmp 48) 28 rfl w1.heap.size 47 i0 (.agg #[.int .i64 0, .int .i64 0]) Try.underlying28 hi0 hz0 hz1 rfl (.slice none 0 0) 0 [] rfl (World.ownsRow_nil _ _ _ _) _ j c1 (flat (q.take j)) rfl (by rw [flat_len, HT.out]) H1.out (flat_one _) (by unfold maxLen; omega) (by rw [hz2]; omega) (Nat.le_refl _) ?_
                 intro A2 c2 w2 ho2 hb2 hg2
                 simp only [Nat.zero_add, List.nil_append] at ho2
                 have hs2 := hb2.size
                 replace hb2 := keep hb2
                 clear hg2)
              | (at_builtin; refine wpl_append2 rfl (.tmp 50) (.tmp 54) 28 rfl w1.heap.size 47 i0 (.agg #[.int .i64 0, .int .i64 0]) Try.underlying28 hi0 hz0 hz1 rfl _ j _ rfl (ho2.out.alloc _) _ 1 1 (flat [(id, t)]) rfl rfl (SR.row (t := 47) (fr := (0, 0)) (cur := (flat [(id, t)]).toArray) (heap_alloc_new w2 _)) (flat_one _) (by unfold maxLen; omega) (by rw [hz2]; omega) (by simp; omega) ?_
                 intro A3 c3 w3 ho3 hb3 hg3
                 replace hb3 := (hb2.out.alloc hs2 _).trans hb3
                 have hs3 := hb3.size
                 have hr3 := keep (H4.out.step hb3)
                 replace hb3 := keep hb3
                 clear hg3 ho2 hb2)
              | (at_builtin; refine wpl_append2 rfl (.tmp 56) (.tmp 59) 28 rfl w1.heap.size 47 i0 (.agg #[.int .i64 0, .int .i64 0]) Try.underlying28 hi0 hz0 hz1 rfl _ (j + 1) _ rfl ho3.out _ (q.length - j) _ (flat (q.drop j)) rfl (by rw [flat_len, HD.out]) hr3.out (flat_one _) (by unfold maxLen; omega) (by rw [hz2]; omega) hs3 ?_
                 intro A4 c4 w4 ho4 hb4 hg4
                 replace hb4 := keep (hb3.out.trans hb4)
                 clear hg4 ho3 hb3 hr3))
            go_ret
            exact RetE.mk (j := j) hb1.out hb4.out (by rw [HF.out.1, HF.out.2]) (by omega) ho4
    · have HF := keep (fin fun p hp => by rw [List.getElem?_eq_none (by omega)] at hp; cases hp)
      clear fin
      have hcap := hE.out.2.1
      have hcj : j ≤ c1 := by omega
      have H1 := keep (hE.out.take (k := j) (by omega))
      have H3 := keep (hE.out.drop j)
      have hlt1 : (q.take j).length = j := by rw [List.length_take]; omega
      have HT := keep hlt1
      have hld : (q.drop j).length = q.length - j := List.length_drop
      have HD := keep hld
      clear hlt1 hld
      by_cases hck : c1 = j
      · have H4 := H3.out
        rw [if_pos hck] at H4
        replace H4 := keep H4
        have HK := keep hck
        have hck2 : (c1 = j) = True := by simp [hck]
        clear H3 hck
        go_wp2_with (first
          | (at_builtin; refine wpl_append2 rfl (.tmp 45) (.tmp 48) 28 rfl w1.heap.size 47 i0 (.agg #[.int .i64 0, .int .i64 0]) Try.underlying28 hi0 hz0 hz1 rfl (.slice none 0 0) 0 [] rfl (World.ownsRow_nil _ _ _ _) A1 j c1 (flat (q.take j)) rfl (by rw [flat_len, HT.out]) H1.out (flat_one _) (by unfold maxLen; omega) (by rw [hz2]; omega) (Nat.le_refl _) ?_
             intro A2 c2 w2 ho2 hb2 hg2
             simp only [Nat.zero_add, List.nil_append] at ho2
             have hs2 := hb2.size
             replace hb2 := keep hb2
             clear hg2)
          | (at_builtin; refine wpl_append2 rfl (.tmp 50) (.tmp 54) 28 rfl w1.heap.size 47 i0 (.agg #[.int .i64 0, .int .i64 0]) Try.underlying28 hi0 hz0 hz1 rfl _ j _ rfl (ho2.out.alloc _) _ 1 1 (flat [(id, t)]) rfl rfl (SR.row (t := 47) (fr := (0, 0)) (cur := (flat [(id, t)]).toArray) (heap_alloc_new w2 _)) (flat_one _) (by unfold maxLen; omega) (by rw [hz2]; omega) (by simp; omega) ?_
             intro A3 c3 w3 ho3 hb3 hg3
             replace hb3 := (hb2.out.alloc hs2 _).trans hb3
             have hs3 := hb3.size
             have hr3 := keep (H4.out.step hb3)
             replace hb3 := keep hb3
             clear hg3 ho2 hb2)
          | (at_builtin; refine wpl_append2 rfl (.tmp 56) (.tmp 59) 28 rfl w1.heap.size 47 i0 (.agg #[.int .i64 0, .int .i64 0]) Try.underlying28 hi0 hz0 hz1 rfl _ (j + 1) _ rfl ho3.out _ (q.length - j) _ (flat (q.drop j)) rfl (by rw [flat_len, HD.out]) hr3.out (flat_one _) (by unfold maxLen; omega) (by rw [hz2]; omega) hs3 ?_
             intro A4 c4 w4 ho4 hb4 hg4
             replace hb4 := keep (hb3.out.trans hb4)
             clear hg4 ho3 hb3 hr3))
        go_ret
        exact RetE.mk (j := j) hb1.out hb4.out (by rw [HF.out.1, HF.out.2]) (by omega) ho4
      · have H4 := H3.out
        rw [if_neg hck] at H4
        replace H4 := keep H4
        have HK := keep hck
        have hck2 : (c1 = j) = False := by simp [hck]
        clear H3 hck
        go_wp2_with (first
          | (at_builtin; refine wpl_append2 rfl (.tmp 45) (.tmp 48) 28 rfl w1.heap.size 47 i0 (.agg #[.int .i64 0, .int .i64 0]) Try.underlying28 hi0 hz0 hz1 rfl (.slice none 0 0) 0 [] rfl (World.ownsRow_nil _ _ _ _) _ j c1 (flat (q.take j)) rfl (by rw [flat_len, HT.out]) H1.out (flat_one _) (by unfold maxLen; omega) (by rw [hz2]; omega) (Nat.le_refl _) ?_
             intro A2 c2 w2 ho2 hb2 hg2
             simp only [Nat.zero_add, List.nil_append] at ho2
             have hs2 := hb2.size
             replace hb2 := keep hb2
             clear hg2)
          | (at_builtin; refine wpl_append2 rfl (.tmp 50) (.tmp 54) 28 rfl w1.heap.size 47 i0 (.agg #[.int .i64 0, .int .i64 0]) Try.underlying28 hi0 hz0 hz1 rfl _ j _ rfl (ho2.out.alloc _) _ 1 1 (flat [(id, t)]) rfl rfl (SR.row (t := 47) (fr := (0, 0)) (cur := (flat [(id, t)]).toArray) (heap_alloc_new w2 _)) (flat_one _) (by unfold maxLen; omega) (by rw [hz2]; omega) (by simp; omega) ?_
             intro A3 c3 w3 ho3 hb3 hg3
             replace hb3 := (hb2.out.alloc hs2 _).trans hb3
             have hs3 := hb3.size
             have hr3 := keep (H4.out.step hb3)
             replace hb3 := keep hb3
             clear hg3 ho2 hb2)
          | (at_builtin; refine wpl_append2 rfl (.tmp 56) (.tmp 59) 28 rfl w1.heap.size 47 i0 (.agg #[.int .i64 0, .int .i64 0]) Try.underlying28 hi0 hz0 hz1 rfl _ (j + 1) _ rfl ho3.out _ (q.length - j) _ (flat (q.drop j)) rfl (by rw [flat_len, HD.out]) hr3.out (flat_one _) (by unfold maxLen; omega) (by rw [hz2]; omega) hs3 ?_
             intro A4 c4 w4 ho4 hb4 hg4
             replace hb4 := keep (hb3.out.trans hb4)
             clear hg4 ho3 hb3 hr3))
        go_ret
        exact RetE.mk (j := j) hb1.out hb4.out (by rw [HF.out.1, HF.out.2]) (by omega) ho4
end Go.Proofs.Ythnhmgdefmahkaa
