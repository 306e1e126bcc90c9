/- Package dcep: Wrap and Unwrap, and the document's Unwrap. -/
import Derived.Test.YtapaiknghnbfmaaDoorD1
import Derived.Lib.LazyBuf
namespace Go.Proofs.YtapaiknghnbfmaaDoor
open Go.RowKit
set_option linter.unusedVariables false

set_option maxHeartbeats 1000000 in
theorem clone_any (b o n c : Nat) (bs : List UInt8) (w : World) (h : BS w (some ⟨b, o, none⟩) n c bs) (hn : n ≤ 100000) :
    Calls Tryd.prog 45 #[.slice (some ⟨b, o, none⟩) n c] w (RetB w bs) := by
  obtain ⟨i0, hi0, hz0, hz1, hz2⟩ := info_parts u8_info
  have HS := keep (h.step (below_lay w (.cells #[] 5)))
  have HL := keep h.len
  have HN := keep hn
  have LW := keep (below_lay w (.cells #[] 5))
  have HO := keep (show (w.alloc (.cells #[] 5)).ownsRow w.heap.size 5 1 (.slice (some ⟨w.heap.size, 0, none⟩) 0 0) 0 [] from own_row (heap_alloc_new w _) 0 rfl (by decide))
  have qn : ∀ (w : World), (binOp .eql 27 (.slice (some ⟨b, o, none⟩) n c) (.slice none 0 0)).run Tryd.prog w = .ok (.bool false) w := fun w => Lib.run_eql_slice_nil w _ _ _ n c 0 0 Tryd.underlying27
  clear h hn
  go_enter Tryd.func45, Tryd.ntmps45
  go_wp2_with (at_builtin; refine wpl_append rfl (.tmp 5) (.tmp 6) 27 rfl w.heap.size 5 i0 (.int .u8 0) Tryd.underlying27 hi0 hz0 hz1 rfl _ 0 [] rfl HO.out (some ⟨b, o, none⟩) n c (bc bs) rfl (by rw [bc_length]; exact HL.out) HS.out.br.sr (bc_one _) (by have := HN.out; unfold maxLen; omega) (by have := HN.out; rw [hz2]; omega) (by simp) ?_
               intro A4 c4 w4 ho4 hb4
               simp only [Nat.zero_add, List.nil_append] at ho4
               replace hb4 := keep (LW.out.trans hb4))
  go_ret
  exact ⟨A4, _, c4, rfl, BS.of_own ho4.out, hb4.out, ho4⟩
theorem BS.some {w : World} {A : Option Addr} {n c : Nat} {bs : List UInt8} (h : BS w A n c bs) (hne : bs ≠ []) : ∃ b o, A = some ⟨b, o, none⟩ := by
  obtain ⟨b, o, e, _⟩ := h.br.at_ (j := 0) (List.length_pos_iff.2 hne)
  exact ⟨b, o, e⟩
def wrapP (t : Bool) (bs : List UInt8) : Int := if bs = [] then (if t then 56 else 57) else (if t then 51 else 53)
def wrapD (bs : List UInt8) : List UInt8 := if bs = [] then [0] else bs
/-- What a call answers that hands out octets beside others. -/
def RetO (w : World) (bs : List UInt8) (f : Value → Value) (e : Ending) (w' : World) : Prop := ∃ A n c, e = .returned (f (.slice A n c)) ∧ BS w' A n c bs ∧ Below w.heap.size w w'
theorem wrap_any (t : Bool) (A : Option Addr) (n c : Nat) (bs : List UInt8) (w : World) (h : BS w A n c bs) (hn : n ≤ 100000) :
    Calls Tryd.prog 19 #[.bool t, .slice A n c] w (RetO w (wrapD bs) fun v => .tuple #[.int .u32 (wrapP t bs), v]) := by
  have hl := h.len
  by_cases hb : bs = []
  · subst hb
    obtain rfl : n = 0 := hl
    have h0 := BS.laid w 5 [0] (by simp)
    have h1 := below_lay w (.cells #[.int .u8 0] 5)
    have H0 := keep h0
    have H1 := keep h1
    clear h0 h1
    unfold wrapP wrapD
    simp only [if_pos trivial]
    cases t
    all_goals
      go_enter Tryd.func19, Tryd.ntmps19
      go_wp2_with fail
      go_ret2
      exact ⟨_, _, _, rfl, H0.out, H1.out⟩
  · obtain ⟨b, o, rfl⟩ := h.some hb
    have K := keep (clone_any b o n c bs w h hn)
    have hn0 : ((n : Int) == 0) = false := by have := List.length_pos_iff.2 hb; simp; omega
    unfold wrapP wrapD
    simp only [if_neg hb]
    clear h hl hb
    cases t
    all_goals
      go_enter Tryd.func19, Tryd.ntmps19
      go_wp2_with (go_at_call 45; refine K.out.mono ?_; rintro e w' ⟨A', n', c', rfl, h1, h2, h3⟩)
      go_ret2
      exact ⟨_, _, _, rfl, h1, h2⟩
/-- What Unwrap tells: is it text, the octets, may it be? -/
def unT (p : Int) (bs : List UInt8) : Bool := if p = 56 ∨ p = 57 then p == 56 else if (p = 51 ∨ p = 53) ∧ bs ≠ [] then p == 51 else false
def unD (p : Int) (bs : List UInt8) : List UInt8 := if p = 56 ∨ p = 57 then [] else if (p = 51 ∨ p = 53) ∧ bs ≠ [] then bs else []
def unK (p : Int) (bs : List UInt8) : Bool := if p = 56 ∨ p = 57 then true else if (p = 51 ∨ p = 53) ∧ bs ≠ [] then true else false
theorem un_56 (bs : List UInt8) : unT 56 bs = true ∧ unD 56 bs = [] ∧ unK 56 bs = true := ⟨rfl, rfl, rfl⟩
theorem un_57 (bs : List UInt8) : unT 57 bs = false ∧ unD 57 bs = [] ∧ unK 57 bs = true := ⟨rfl, rfl, rfl⟩
theorem un_51 {bs : List UInt8} (h : bs ≠ []) : unT 51 bs = true ∧ unD 51 bs = bs ∧ unK 51 bs = true := by
  unfold unT unD unK
  simp [h]
theorem un_53 {bs : List UInt8} (h : bs ≠ []) : unT 53 bs = false ∧ unD 53 bs = bs ∧ unK 53 bs = true := by
  unfold unT unD unK
  simp [h]
theorem un_no {p : Int} {bs : List UInt8} (h1 : ¬ (p = 56 ∨ p = 57)) (h2 : ¬ ((p = 51 ∨ p = 53) ∧ bs ≠ [])) : unT p bs = false ∧ unD p bs = [] ∧ unK p bs = false := by
  unfold unT unD unK
  rw [if_neg h1, if_neg h1, if_neg h1, if_neg h2, if_neg h2, if_neg h2]
  exact ⟨rfl, rfl, rfl⟩
theorem un_wrap (t : Bool) (bs : List UInt8) : unT (wrapP t bs) (wrapD bs) = t ∧ unD (wrapP t bs) (wrapD bs) = bs ∧ unK (wrapP t bs) (wrapD bs) = true := by
  unfold wrapP wrapD
  by_cases h : bs = []
  · subst h
    cases t <;> exact ⟨rfl, rfl, rfl⟩
  · rw [if_neg h, if_neg h]
    cases t
    · exact un_53 h
    · exact un_51 h
set_option maxHeartbeats 2000000 in
theorem unwrap_any (p : Int) (A : Option Addr) (n c : Nat) (bs : List UInt8) (w : World) (h : BS w A n c bs) (hn : n ≤ 100000) :
    Calls Tryd.prog 20 #[.int .u32 p, .slice A n c] w (RetO w (unD p bs) fun v => .tuple #[.bool (unT p bs), v, .bool (unK p bs)]) := by
  have hl := h.len
  by_cases h56 : p = 56
  · subst h56
    obtain ⟨e1, e2, e3⟩ := un_56 bs
    rw [e1, e2, e3]
    go_enter Tryd.func20, Tryd.ntmps20
    go_wp2_with fail
    go_ret3
    exact ⟨_, _, _, rfl, BS.nil _, Below.refl _ _⟩
  by_cases h57 : p = 57
  · subst h57
    obtain ⟨e1, e2, e3⟩ := un_57 bs
    rw [e1, e2, e3]
    go_enter Tryd.func20, Tryd.ntmps20
    go_wp2_with fail
    go_ret3
    exact ⟨_, _, _, rfl, BS.nil _, Below.refl _ _⟩
  have h1 : ¬ (p = 56 ∨ p = 57) := by omega
  have g6 : (p == 56) = false := by simpa using h56
  have g7 : (p == 57) = false := by simpa using h57
  by_cases hb : bs = []
  · subst hb
    obtain rfl : n = 0 := hl
    obtain ⟨e1, e2, e3⟩ := un_no (bs := []) h1 (by simp)
    rw [e1, e2, e3]
    by_cases h51 : p = 51
    · subst h51
      go_enter Tryd.func20, Tryd.ntmps20
      go_wp2_with fail
      go_ret3
      exact ⟨_, _, _, rfl, BS.nil _, Below.refl _ _⟩
    by_cases h53 : p = 53
    · subst h53
      go_enter Tryd.func20, Tryd.ntmps20
      go_wp2_with fail
      go_ret3
      exact ⟨_, _, _, rfl, BS.nil _, Below.refl _ _⟩
    have g1 : (p == 51) = false := by simpa using h51
    have g3 : (p == 53) = false := by simpa using h53
    go_enter Tryd.func20, Tryd.ntmps20
    go_wp2_with fail
    go_ret3
    exact ⟨_, _, _, rfl, BS.nil _, Below.refl _ _⟩
  · obtain ⟨b, o, rfl⟩ := h.some hb
    have K := keep (clone_any b o n c bs w h hn)
    have hn0 : (0 : Int) < (n : Int) := by have := List.length_pos_iff.2 hb; omega
    by_cases h51 : p = 51
    · subst h51
      obtain ⟨e1, e2, e3⟩ := un_51 hb
      rw [e1, e2, e3]
      clear e1 e2 e3 h hl hb h1 g6 g7 h56 h57
      go_enter Tryd.func20, Tryd.ntmps20
      go_wp2_with (go_at_call 45; refine K.out.mono ?_; rintro e w' ⟨A', n', c', rfl, r1, r2, r3⟩)
      go_ret3
      exact ⟨_, _, _, rfl, r1, r2⟩
    by_cases h53 : p = 53
    · subst h53
      obtain ⟨e1, e2, e3⟩ := un_53 hb
      rw [e1, e2, e3]
      clear e1 e2 e3 h hl hb h1 g6 g7 h56 h57
      go_enter Tryd.func20, Tryd.ntmps20
      go_wp2_with (go_at_call 45; refine K.out.mono ?_; rintro e w' ⟨A', n', c', rfl, r1, r2, r3⟩)
      go_ret3
      exact ⟨_, _, _, rfl, r1, r2⟩
    have g1 : (p == 51) = false := by simpa using h51
    have g3 : (p == 53) = false := by simpa using h53
    obtain ⟨e1, e2, e3⟩ := un_no (bs := bs) h1 (by omega)
    rw [e1, e2, e3]
    go_enter Tryd.func20, Tryd.ntmps20
    go_wp2_with fail
    go_ret3
    exact ⟨_, _, _, rfl, BS.nil _, Below.refl _ _⟩
set_option maxHeartbeats 2000000 in
theorem refUnwrap_any (p : Int) (A : Option Addr) (n c : Nat) (bs : List UInt8) (w : World) (h : BS w A n c bs) :
    Calls Tryd.prog 21 #[.int .u32 p, .slice A n c] w (RetO w (unD p bs) fun v => .tuple #[.bool (unT p bs), v, .bool (unK p bs)]) := by
  have hl := h.len
  by_cases h56 : p = 56
  · subst h56
    obtain ⟨e1, e2, e3⟩ := un_56 bs
    rw [e1, e2, e3]
    go_enter Tryd.func21, Tryd.ntmps21
    go_wp2_with fail
    go_ret3
    exact ⟨_, _, _, rfl, BS.nil _, Below.refl _ _⟩
  by_cases h57 : p = 57
  · subst h57
    obtain ⟨e1, e2, e3⟩ := un_57 bs
    rw [e1, e2, e3]
    go_enter Tryd.func21, Tryd.ntmps21
    go_wp2_with fail
    go_ret3
    exact ⟨_, _, _, rfl, BS.nil _, Below.refl _ _⟩
  have h1 : ¬ (p = 56 ∨ p = 57) := by omega
  have g6 : (p == 56) = false := by simpa using h56
  have g7 : (p == 57) = false := by simpa using h57
  by_cases hb : bs = []
  · subst hb
    obtain rfl : n = 0 := hl
    obtain ⟨e1, e2, e3⟩ := un_no (bs := []) h1 (by simp)
    rw [e1, e2, e3]
    by_cases h51 : p = 51
    · subst h51
      go_enter Tryd.func21, Tryd.ntmps21
      go_wp2_with fail
      go_ret3
      exact ⟨_, _, _, rfl, BS.nil _, Below.refl _ _⟩
    by_cases h53 : p = 53
    · subst h53
      go_enter Tryd.func21, Tryd.ntmps21
      go_wp2_with fail
      go_ret3
      exact ⟨_, _, _, rfl, BS.nil _, Below.refl _ _⟩
    have g1 : (p == 51) = false := by simpa using h51
    have g3 : (p == 53) = false := by simpa using h53
    go_enter Tryd.func21, Tryd.ntmps21
    go_wp2_with fail
    go_ret3
    exact ⟨_, _, _, rfl, BS.nil _, Below.refl _ _⟩
  · have hn0 : (0 : Int) < (n : Int) := by have := List.length_pos_iff.2 hb; omega
    have H := keep h
    clear h hl
    by_cases h51 : p = 51
    · subst h51
      obtain ⟨e1, e2, e3⟩ := un_51 hb
      rw [e1, e2, e3]
      go_enter Tryd.func21, Tryd.ntmps21
      go_wp2_with fail
      go_ret3
      exact ⟨_, _, _, rfl, H.out, Below.refl _ _⟩
    by_cases h53 : p = 53
    · subst h53
      obtain ⟨e1, e2, e3⟩ := un_53 hb
      rw [e1, e2, e3]
      go_enter Tryd.func21, Tryd.ntmps21
      go_wp2_with fail
      go_ret3
      exact ⟨_, _, _, rfl, H.out, Below.refl _ _⟩
    have g1 : (p == 51) = false := by simpa using h51
    have g3 : (p == 53) = false := by simpa using h53
    obtain ⟨e1, e2, e3⟩ := un_no (bs := bs) h1 (by omega)
    rw [e1, e2, e3]
    go_enter Tryd.func21, Tryd.ntmps21
    go_wp2_with fail
    go_ret3
    exact ⟨_, _, _, rfl, BS.nil _, Below.refl _ _⟩
end Go.Proofs.YtapaiknghnbfmaaDoor
