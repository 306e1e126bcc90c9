/- The reference's Same and Find over parameters; few; what is done with what is not known. -/
import Derived.Test.YtaifigmbjcebeaaVEnc
import Derived.BigQuiet
namespace Go.Proofs.Ytaifigmbjcebeaa
open Go.RowKit
set_option linter.unusedVariables false

theorem pm_len {l k : List PX} (h : l.map pm = k.map pm) : l.length = k.length := by
  have := congrArg List.length h
  simpa using this
theorem ne_len (w : World) (A B : Option Addr) (n m c d : Nat) (h : n ≠ m) :
    Calls Try.prog 19 #[.slice A n c, .slice B m d] w fun e w' => e = .returned (.bool false) ∧ w = w' := by
  have h1 : ((n : Int) == m) = false := by simp; omega
  have h2 : ((n : Int) != m) = true := by simp; omega
  clear h
  go_enter Try.func19, Try.ntmps19
  go_wp2_with fail
  go_ret
  exact ⟨rfl, rfl⟩

theorem conv_at (w : World) (A : Option Addr) (n c : Nat) (bs : List UInt8) (h : BS w A n c bs) (S : ByteArray) (hS : S = ⟨bs.toArray⟩) :
    ∀ q, (convert 26 9 (.slice A n c)).run Try.prog (w.drewN q) = .ok (.string S) (w.drewN q) := by
  intro q
  have := run_bytes_str (P := Try.prog) (w.drewN q) 26 5 Try.underlying26 Try.underlying5 A bs c (h.drewN q).br 9 Try.underlying9
  rw [← h.len, ← hS] at this
  exact this
theorem str_eq {a b : List UInt8} : ((⟨a.toArray⟩ : ByteArray) = ⟨b.toArray⟩) ↔ a = b := by
  constructor
  · intro h
    injection h with h
    simpa using h
  · rintro rfl
    rfl

theorem drewN_two (w : World) (q r : Nat) : ∃ m, (w.drewN q).drewN r = w.drewN m := ⟨q + r, by simp⟩
set_option maxHeartbeats 1000000 in
theorem same_any6 (w : World) (A B : Option Addr) (n c d : Nat) (l k : List PX) (hl : PS w A n c l) (hk : PS w B n d k) (hn : n ≤ 1000000) :
    Calls Try.prog 19 #[.slice A n c, .slice B n d] w fun e w' => e = .returned (.bool (decide (l.map pm = k.map pm))) ∧ ∃ q, w' = w.drewN q := by
  have HLL := keep hl.len
  have HKL := keep hk.len
  have HL := keep hl
  have HK := keep hk
  clear hl hk
  go_enter Try.func19, Try.ntmps19
  go_wp2_with fail
  go_loopw [5] (fun i wr => ∃ j : Nat, j ≤ n ∧ i = .int .i64 j ∧ (∃ q, wr = w.drewN q) ∧ Hid ((l.take j).map pm = (k.take j).map pm)) (fun i _ => n - (intOf i).toNat)
  case atStart => exact ⟨0, Nat.zero_le _, rfl, ⟨0, rfl⟩, keep rfl⟩
  case round =>
    obtain ⟨j, hj, rfl, ⟨q, rfl⟩, HE⟩ := hrel
    by_cases hlt : j < n
    · obtain ⟨b, o, ⟨xk, xa, xn, xc, xv⟩, rfl, hbl, hc0, hc1, hlj, hvp⟩ := HL.out.at_ hlt
      obtain ⟨b', o', ⟨yk, ya, yn, yc, yv⟩, rfl, hbl', hd0, hd1, hkj, hvq⟩ := HK.out.at_ hlt
      replace hc0 : ∀ q, (w.drewN q).cell? ⟨b, o + j * 2, none⟩ = some (.int .u16 xk) := fun q => hc0
      replace hc1 : ∀ q, (w.drewN q).cell? ⟨b, o + j * 2 + 1, none⟩ = some (.slice xa xn xc) := fun q => hc1
      replace hd0 : ∀ q, (w.drewN q).cell? ⟨b', o' + j * 2, none⟩ = some (.int .u16 yk) := fun q => hd0
      replace hd1 : ∀ q, (w.drewN q).cell? ⟨b', o' + j * 2 + 1, none⟩ = some (.slice ya yn yc) := fun q => hd1
      by_cases hkk : xk = yk
      · subst hkk
        have hkk : (xk != xk) = false := by simp
        have k1 := conv_at w xa xn xc xv hvp.2.2 _ rfl
        have k2 := conv_at w ya yn yc yv hvq.2.2 _ rfl
        have HX := keep (And.intro hlj hkj)
        clear hlj hkj hvp hvq
        by_cases hst : xv = yv
        · subst hst
          go_wp2_with fail
          go_quiet (fail)
          go_wp2
          refine ⟨⟨j + 1, by omega, rfl, ⟨_, rfl⟩, keep ?_⟩, by simp [intOf]; omega⟩
          rw [List.take_add_one, List.take_add_one, HX.out.1, HX.out.2, List.map_append, List.map_append, HE.out]
          rfl
        · have hst' : (xv == yv) = false := by simpa using hst
          have HST := keep hst
          clear hst
          go_wp2_with fail
          go_quiet (fail)
          go_wp2
          go_ret
          have hne : ¬ (l.map pm = k.map pm) := by
            intro h
            have := congrArg (fun z => z[j]?) h
            simp only [List.getElem?_map, HX.out.1, HX.out.2, Option.map_some, pm, Option.some.injEq, Prod.mk.injEq] at this
            exact HST.out this.2
          refine ⟨?_, drewN_two _ _ _⟩
          rw [decide_eq_false hne]
          rfl
      · have hkk' : (xk != yk) = true := by simpa using hkk
        have HKK := keep hkk
        have HX := keep (And.intro hlj hkj)
        clear hkk hlj hkj hvp hvq
        go_wp2_with fail
        go_quiet (fail)
        go_wp2
        go_ret
        have hne : ¬ (l.map pm = k.map pm) := by
          intro h
          have := congrArg (fun z => z[j]?) h
          simp only [List.getElem?_map, HX.out.1, HX.out.2, Option.map_some, pm, Option.some.injEq, Prod.mk.injEq] at this
          exact HKK.out this.1
        refine ⟨?_, drewN_two _ _ _⟩
        rw [decide_eq_false hne]
        rfl
    · obtain rfl : n = j := by omega
      go_wp2
      go_ret
      refine ⟨?_, _, rfl⟩
      have := HE.out
      rw [List.take_of_length_le (by have := HLL.out; omega), List.take_of_length_le (by have := HKL.out; omega)] at this
      rw [decide_eq_true this]
      rfl
/-- Whether parameters are the same. -/
theorem same_ret6 (w : World) (A B : Option Addr) (n m c d : Nat) (l k : List PX) (hl : PS w A n c l) (hk : PS w B m d k) (hn : n ≤ 1000000) :
    Calls Try.prog 19 #[.slice A n c, .slice B m d] w fun e w' => e = .returned (.bool (decide (l.map pm = k.map pm))) ∧ ∃ q, w' = w.drewN q := by
  by_cases h : n = m
  · subst h
    exact same_any6 w A B n c d l k hl hk hn
  · refine (ne_len w A B n m c d h).mono fun e w' ⟨he, hw⟩ => ⟨?_, 0, hw.symm⟩
    rw [he, decide_eq_false fun h' => h (by rw [hl.len, hk.len]; exact pm_len h')]

theorem rfind_any (A : Option Addr) (n c : Nat) (l : List PX) (kd : Int) (w : World) (h : PS w A n c l) (hn : n ≤ 1000000) :
    Calls Try.prog 16 #[.slice A n c, .int .u16 kd] w fun e w' => e = .returned (.int .i64 (findL (l.map pm) kd)) ∧ w = w' := by
  have HL := keep h.len
  have H := keep h
  rw [← findL_pm]
  clear h
  go_enter Try.func16, Try.ntmps16
  go_wp2_with fail
  go_loop [5] (fun i => ∃ j : Nat, j ≤ n ∧ i = .int .i64 j ∧ Hid (∀ y ∈ l.take j, (y.1 == kd) = false)) (fun i => n - (intOf i).toNat)
  case atStart => exact ⟨0, Nat.zero_le _, rfl, keep (by simp)⟩
  case round =>
    obtain ⟨j, hj, rfl, hno⟩ := hrel
    by_cases hlt : j < n
    · obtain ⟨b, o, x, rfl, hbl, hc0, hc1, hlj, _⟩ := H.out.at_ hlt
      have HJ := keep hlj
      clear hlj
      cases hx : x.1 == kd
      · have HX := keep hx
        go_wp2
        go_round
        case rel =>
          refine ⟨j + 1, by omega, by go_num, keep fun y hy => ?_⟩
          rw [List.take_add_one, HJ.out] at hy
          rcases List.mem_append.1 hy with hy | hy
          · exact hno.out y hy
          · simp at hy
            rw [hy, HX.out]
        case measure => simp [intOf]; omega
      · have HX := keep hx
        go_wp2
        go_ret
        exact ⟨by rw [idxP_hit _ l j x HJ.out HX.out hno.out]; rfl, rfl⟩
    · obtain rfl : n = j := by omega
      go_wp2
      go_ret
      have hno := hno.out
      rw [List.take_of_length_le (by have := HL.out; omega)] at hno
      exact ⟨by rw [idxP_miss _ l hno]; rfl, rfl⟩

/-- Neither too many nor too long for the law. -/
def fewL (l : List PX) : Bool := decide (l.length ≤ 40) && l.all fun x => decide (x.2.2.1 ≤ 1300)
theorem few_any (A : Option Addr) (n c : Nat) (l : List PX) (w : World) (h : PS w A n c l) :
    Calls Try.prog 11 #[.slice A n c] w fun e w' => e = .returned (.bool (fewL l)) ∧ w = w' := by
  have HL := keep h.len
  have H := keep h
  clear h
  by_cases h40 : 40 < n
  · have hf : fewL l = false := by
      unfold fewL
      rw [Bool.and_eq_false_iff]
      left
      have := HL.out
      simp
      omega
    rw [hf]
    have h40' : 40 < (n : Int) := by omega
    clear h40 hf
    go_enter Try.func11, Try.ntmps11
    go_wp2_with fail
    go_ret
    exact ⟨rfl, rfl⟩
  · have h40' : ¬ 40 < (n : Int) := by omega
    go_enter Try.func11, Try.ntmps11
    go_wp2_with fail
    go_loop [3] (fun i => ∃ j : Nat, j ≤ n ∧ i = .int .i64 j ∧ Hid (∀ y ∈ l.take j, y.2.2.1 ≤ 1300)) (fun i => n - (intOf i).toNat)
    case atStart => exact ⟨0, Nat.zero_le _, rfl, keep (by simp)⟩
    case round =>
      obtain ⟨j, hj, rfl, hno⟩ := hrel
      by_cases hlt : j < n
      · obtain ⟨b, o, ⟨xk, xa, xn, xc, xv⟩, rfl, hbl, hc0, hc1, hlj, _⟩ := H.out.at_ hlt
        replace hc1 : w.cell? ⟨b, o + j * 2 + 1, none⟩ = some (.slice xa xn xc) := hc1
        have HJ := keep hlj
        clear hlj
        by_cases hx : 1300 < xn
        · have hx' : 1300 < (xn : Int) := by omega
          have HX := keep hx
          go_wp2
          go_ret
          refine ⟨?_, rfl⟩
          have hf : fewL l = false := by
            unfold fewL
            rw [Bool.and_eq_false_iff]
            right
            rw [List.all_eq_false]
            exact ⟨_, List.mem_of_getElem? HJ.out, by simp; exact HX.out⟩
          rw [hf]
          rfl
        · have hx' : ¬ 1300 < (xn : Int) := by omega
          have HX := keep hx
          go_wp2
          go_round
          case rel =>
            refine ⟨j + 1, by omega, by go_num, keep fun y hy => ?_⟩
            rw [List.take_add_one, HJ.out] at hy
            rcases List.mem_append.1 hy with hy | hy
            · exact hno.out y hy
            · simp at hy
              rw [hy]
              have := HX.out
              simp only
              omega
          case measure => simp [intOf]; omega
      · obtain rfl : n = j := by omega
        go_wp2
        go_ret
        have hno := hno.out
        rw [List.take_of_length_le (by have := HL.out; omega)] at hno
        refine ⟨?_, rfl⟩
        have hf : fewL l = true := by
          unfold fewL
          rw [Bool.and_eq_true]
          exact ⟨by have := HL.out; simp; omega, List.all_eq_true.2 fun x hx => by simp; exact hno x hx⟩
        rw [hf]
        rfl
end Go.Proofs.Ytaifigmbjcebeaa
