/- The walk of the law TlvFinds. -/
import Derived.Test.YtaifigmbjcebeaaVAwake
import Derived.Test.YtaifigmbjcebeaaApp2
namespace Go.Proofs.Ytaifigmbjcebeaa
open Go.RowKit
set_option linter.unusedVariables false

theorem idxP_spec {α : Type} (p : α → Bool) : ∀ l : List α, (idxP p l = -1 ∧ ∀ x ∈ l, p x = false) ∨ ∃ (k : Nat) (x : α), idxP p l = k ∧ l[k]? = some x ∧ p x = true ∧ ∀ (j : Nat) y, l[j]? = some y → p y = true → k ≤ j
  | [] => .inl ⟨rfl, by simp⟩
  | x :: r => by
    cases hx : p x
    · rcases idxP_spec p r with ⟨h1, h2⟩ | ⟨k, y, h1, h2, h3, h4⟩
      · left
        refine ⟨by rw [idxP, hx, h1]; simp, fun y hy => ?_⟩
        rcases List.mem_cons.1 hy with rfl | hy
        · exact hx
        · exact h2 y hy
      · right
        refine ⟨k + 1, y, by rw [idxP, hx, h1]; simp <;> omega, by simpa using h2, h3, fun j z hz hp => ?_⟩
        cases j with
        | zero =>
          simp at hz
          rw [← hz, hx] at hp
          cases hp
        | succ j => exact Nat.succ_le_succ (h4 j z (by simpa using hz) hp)
    · right
      exact ⟨0, x, by simp [idxP, hx], rfl, hx, fun j _ _ _ => Nat.zero_le j⟩

/-- What the law asks at place j of x. -/
def FindsAt (k j x kind : Int) : Prop :=
  ((x == kind) = false ∧ (j == k) = false) ∨ ((x == kind) = true ∧ ¬ k < 0 ∧ ¬ j < k ∧ (j == k) = false) ∨ ((x == kind) = true ∧ ¬ k < 0 ∧ ¬ j < k ∧ (j == k) = true ∧ (x != kind) = false)
theorem findsAt_of {l : List PX} {j : Nat} {x : PX} {kind : Int} (h : l[j]? = some x) : FindsAt (findL (l.map pm) kind) j x.1 kind := by
  rw [← findL_pm]
  rcases idxP_spec (fun y : PX => y.1 == kind) l with ⟨h1, h2⟩ | ⟨k, y, h1, h2, h3, h4⟩
  · rw [h1]
    exact .inl ⟨h2 x (List.mem_of_getElem? h), by simp <;> omega⟩
  · rw [h1]
    by_cases hx : (x.1 == kind) = true
    · have hkj := h4 j x h hx
      by_cases he : k = j
      · subst he
        exact .inr (.inr ⟨hx, by omega, by omega, by simp, by simpa using hx⟩)
      · exact .inr (.inl ⟨hx, by omega, by omega, by simp; omega⟩)
    · left
      refine ⟨by simpa using hx, ?_⟩
      simp
      intro hjk
      have : j = k := by omega
      subst this
      rw [h] at h2
      injection h2 with h2
      rw [h2] at hx
      exact hx h3
theorem findL_range (l : List PX) (kind : Int) : -1 ≤ findL (l.map pm) kind ∧ findL (l.map pm) kind < l.length := by
  rw [← findL_pm]
  rcases idxP_spec (fun y : PX => y.1 == kind) l with ⟨h1, h2⟩ | ⟨k, y, h1, h2, h3, h4⟩
  · rw [h1]; omega
  · rw [h1]
    have := (List.getElem?_eq_some_iff.1 h2).1
    omega

set_option maxHeartbeats 1000000 in
theorem tlvFinds_walk (A : Option Addr) (n c : Nat) (l : List PX) (kind : Int) (w : World) (h : PS w A n c l) (hk : (Lit.int .u16 kind).wf = true) :
    Calls Try.prog 9 #[.slice A n c, .int .u16 kind] w fun e w' => e = .returned (.bool true) ∧ Below w.heap.size w w' := by
  obtain ⟨k0, k1⟩ := bounds_u16 hk
  obtain ⟨i0, hi, hz0, hz1, hz2⟩ := info_parts Param_info
  have HK0 := keep k0
  have HK1 := keep (show kind < 65536 by omega)
  have HLN := keep h.len
  have H := keep h
  clear h hk k0 k1
  go_enter Try.func9, Try.ntmps9
  go_wp2_with fail
  refine (awake_any w).mono ?_
  rintro e w1 ⟨rfl, hb1⟩
  have HB1 := keep hb1
  clear hb1
  by_cases hn : 100 < n
  · have hn' : 100 < (n : Int) := by omega
    clear hn
    go_wp2_with fail
    go_ret
    exact ⟨rfl, HB1.out⟩
  · have hn' : ¬ 100 < (n : Int) := by omega
    have KF := find_any A n c l kind w1 (H.out.step HB1.out) (by omega)
    have HFA : Hid (∀ (j : Nat) x, l[j]? = some x → FindsAt (findL (l.map pm) kind) j x.1 kind) := fun j x hx => findsAt_of hx
    have HR := keep (findL_range l kind)
    generalize findL (l.map pm) kind = k at KF HFA HR
    replace KF := keep KF
    go_wp2_with fail
    refine KF.out.mono ?_
    rintro e w2 ⟨rfl, hb2⟩
    have HB2 := keep (up HB1.out hb2)
    clear KF hb2
    go_wp2_with fail
    go_loop [7] (fun i => ∃ j : Nat, j ≤ n ∧ i = .int .i64 j) (fun i => n - (intOf i).toNat)
    case atStart => exact ⟨0, Nat.zero_le _, rfl⟩
    case round =>
      obtain ⟨j, hj, rfl⟩ := hrel
      by_cases hlt : j < n
      · obtain ⟨b, o, x, rfl, hbl, hc0, hc1, hlj, _⟩ := (H.out.step HB2.out).at_ hlt
        have hfa := HFA.out j x hlj
        clear hlj hc1
        rcases hfa with ⟨h1, h2⟩ | ⟨h1, h2, h3, h4⟩ | ⟨h1, h2, h3, h4, h5⟩
        · go_wp2
          go_round
          case rel => exact ⟨j + 1, by omega, by go_num⟩
          case measure => simp [intOf]; omega
        · go_wp2
          go_round
          case rel => exact ⟨j + 1, by omega, by go_num⟩
          case measure => simp [intOf]; omega
        · go_wp2
          go_round
          case rel => exact ⟨j + 1, by omega, by go_num⟩
          case measure => simp [intOf]; omega
      · obtain rfl : n = j := by omega
        have h1 : -1 ≤ k := HR.out.1
        have h2 : k < (n : Int) := by have := HR.out.2; have := HLN.out; omega
        have l2 := below_lay w2 (.cells #[.int .u16 kind, .slice none 0 0] 44)
        have o2 := keep (own_rowN (e := 44) (size := 2) (xs := flatP [((kind, none, 0, 0, []) : PX)]) (heap_alloc_new w2 (.cells #[.int .u16 kind, .slice none 0 0] 44)) 1 rfl (by unfold maxLen; omega))
        have H2 := keep ((H.out.step HB2.out).step l2)
        have HM := keep (show n * 2 = (flatP l).length by rw [flatP_len, ← HLN.out])
        have HB3 := keep (up HB2.out l2)
        have hsz2 : w2.heap.size ≤ (w2.alloc (.cells #[.int .u16 kind, .slice none 0 0] 44)).heap.size := by simp
        have L2 := keep l2
        clear l2
        go_wp2_with (first
          | (at_builtin; refine wpl_append2 rfl (.tmp 66) (.tmp 67) 22 rfl w2.heap.size 44 i0 (.agg #[.int .u16 0, .slice none 0 0]) Try.underlying22 hi hz0 hz1 rfl _ 1 _ rfl o2.out A n c (flatP l) rfl HM.out H2.out.2.2.1 (flatP_one _) (by unfold maxLen; omega) (by rw [hz2]; omega) hsz2 ?_
             go_loud (intro A3 c3 w3 ho3 hb3 hg3
                      have hB3 := (Below.refl w2.heap.size w2).alloc (Nat.le_refl _) (.cells #[.int .u16 kind, .slice none 0 0] 44)
                      have hB4 := hB3.trans hb3
                      have hP3 : PS w3 A3 (1 + n) c3 ((kind, none, 0, 0, []) :: l) := by
                        refine PS.of_own (base := w2.heap.size) (e := 44) ho3.out fun x hx => ?_
                        rcases List.mem_cons.1 hx with rfl | hx
                        · exact ⟨HK0.out, HK1.out, BS.nil _⟩
                        · exact ((H.out.step HB2.out).step hB4).2.2.2 x hx
                      have KG := find_any A3 (1 + n) c3 _ kind w3 hP3 (by omega)
                      rw [show findL (List.map pm (((kind, none, 0, 0, []) : PX) :: l)) kind = 0 by simp [findL, idxP, pm]] at KG
                      replace KG := keep KG
                      have HB4 := keep (HB2.out.trans (hB4.mono HB2.out.size))
                      clear ho3 hb3 hg3 hB3 hB4 hP3))
          | (go_at_call 15; refine KG.out.mono ?_; rintro e w4 ⟨rfl, hb5⟩; replace hb5 := keep hb5))
        go_ret
        exact ⟨rfl, up HB4.out hb5.out⟩
end Go.Proofs.Ytaifigmbjcebeaa
