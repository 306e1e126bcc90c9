/- The walk of CookieEncodes. -/
import Derived.Test.YtbkcjpimjipnfaaKR2
namespace Go.Proofs.Ytbkcjpimjipnfaa
open Go.RowKit
set_option linter.unusedVariables false

theorem encodes_long (A : Option Addr) (n c : Nat) (s : CS) (hn : 300 < n) (w : World) :
    Calls Try.prog 3 #[.slice A n c, .agg s.cells] w fun e w' => e = .returned (.bool true) ∧ Below w.heap.size w w' := by
  have hn' : 300 < (n : Int) := by omega
  have l1 := keep (below_lay w (.cells s.cells 27))
  clear hn
  go_enter Try.func3, Try.ntmps3
  go_wp2_with (go_at_call 9; refine (awake_any _).mono ?_; rintro e w1 ⟨rfl, hb1⟩; have H1 := keep (up l1.out hb1); clear hb1)
  go_ret
  exact ⟨rfl, H1.out⟩

set_option maxRecDepth 100000 in
set_option maxHeartbeats 1000000 in
theorem encodes_none (A : Option Addr) (n c : Nat) (s : CS) (hs : s.ok) (hn : n ≤ 300) (h : n ≠ 16 ∨ ¬ s.may) (w : World) :
    Calls Try.prog 3 #[.slice A n c, .agg s.cells] w fun e w' => e = .returned (.bool true) ∧ Below w.heap.size w w' := by
  have hn' : ¬ 300 < (n : Int) := by omega
  have l1 := keep (below_lay w (.cells s.cells 27))
  have C0 := keep (CB.new w s)
  have KE : Hid (∀ w, Calls Try.prog 10 #[.slice A n c, .agg s.cells] w fun e w' => e = .returned (.tuple #[.slice none 0 0, .bool false]) ∧ Below w.heap.size w w') := fun w => by
    by_cases h1 : n = 16
    · subst h1
      exact encode_not A c s (h.resolve_left (by simp)) w
    · exact encode_key A n c h1 s w
  have KT := keep (theirs_any s hs)
  have KR := keep (refEncode_none A n c s h)
  obtain ⟨made, life, tag, peer, fst, pf, room, out, inn, t0, t1⟩ := s
  dsimp only [CS.cells, CS.ref] at l1 KE KT KR ⊢
  clear hn h hs
  go_enter Try.func3, Try.ntmps3
  go_wp2_with (first
    | (go_at_call 9; refine (awake_any _).mono ?_; rintro e w1 ⟨rfl, hb1⟩
       have C1 := C0.out.step hb1
       obtain ⟨q0, q1, q2, q3, q4, q5, q6, q7, q8, q9, q10⟩ := C1.all
       have H1 := keep (And.intro C1 (up l1.out hb1))
       clear hb1 C0 C1)
    | (go_at_call 10; refine (KE.out _).mono ?_; rintro e w2 ⟨rfl, hb2⟩
       have C2 := H1.out.1.step hb2
       clear q0 q1 q2 q3 q4 q5 q6 q7 q8 q9 q10
       obtain ⟨q0, q1, q2, q3, q4, q5, q6, q7, q8, q9, q10⟩ := C2.all
       have H2 := keep (H1.out.2.trans (hb2.mono H1.out.2.size))
       clear hb2 C2 H1)
    | (go_at_call 12; refine (KT.out _).mono ?_; rintro e w3 ⟨rfl, hb3⟩
       have H3 := keep (H2.out.trans (hb3.mono H2.out.size))
       clear hb3 H2 q0 q1 q2 q3 q4 q5 q6 q7 q8 q9 q10)
    | (go_at_call 11; refine (KR.out _).mono ?_; rintro e w4 ⟨rfl, hb4⟩
       have H4 := keep (H3.out.trans (hb4.mono H3.out.size))
       have KS := keep (same_ret none none 0 0 0 0 [] [] w4 (BS.nil w4) (BS.nil w4))
       clear hb4 H3)
    | (go_at_call 13; refine KS.out.mono ?_; rintro e w5 ⟨rfl, rfl⟩))
  go_ret
  exact ⟨rfl, H4.out⟩

set_option maxRecDepth 100000 in
set_option maxHeartbeats 1000000 in
theorem encodes_some (A : Option Addr) (c : Nat) (ks : List UInt8) (s : CS) (hs : s.ok) (hm : s.may) (w : World) (hk : BS w A 16 c ks) :
    Calls Try.prog 3 #[.slice A 16 c, .agg s.cells] w fun e w' => e = .returned (.bool true) ∧ Below w.heap.size w w' := by
  have l1 := keep (below_lay w (.cells s.cells 27))
  have C0 := keep (CB.new w s)
  have HK := keep hk
  have KE := keep (fun w h => encode_some A c ks s hs hm w h)
  have KT := keep (theirs_any s hs)
  have KR := keep (fun w h => refEncode_some A c ks s hs hm w h)
  obtain ⟨bs, hbs⟩ : ∃ bs, enc ks s = bs := ⟨_, rfl⟩
  rw [hbs] at KE KR
  obtain ⟨made, life, tag, peer, fst, pf, room, out, inn, t0, t1⟩ := s
  dsimp only [CS.cells, CS.ref] at l1 KE KT KR ⊢
  clear hs hm hk hbs
  go_enter Try.func3, Try.ntmps3
  go_wp2_with (first
    | (go_at_call 9; refine (awake_any _).mono ?_; rintro e w1 ⟨rfl, hb1⟩
       have C1 := C0.out.step hb1
       obtain ⟨q0, q1, q2, q3, q4, q5, q6, q7, q8, q9, q10⟩ := C1.all
       have L1 := up l1.out hb1
       have K1 := keep (KE.out w1 (HK.out.step L1))
       have H1 := keep (And.intro C1 L1)
       clear hb1 C0 C1 L1)
    | (go_at_call 10; refine K1.out.mono ?_; rintro e w2 ⟨A2, n2, c2, rfl, s2, hb2, _⟩
       have C2 := H1.out.1.step hb2
       clear q0 q1 q2 q3 q4 q5 q6 q7 q8 q9 q10
       obtain ⟨q0, q1, q2, q3, q4, q5, q6, q7, q8, q9, q10⟩ := C2.all
       have H2 := keep (And.intro s2 (H1.out.2.trans (hb2.mono H1.out.2.size)))
       clear hb2 C2 H1 s2 K1)
    | (go_at_call 12; refine (KT.out _).mono ?_; rintro e w3 ⟨rfl, hb3⟩
       have L3 := H2.out.2.trans (hb3.mono H2.out.2.size)
       have K3 := keep (KR.out w3 (HK.out.step L3))
       have H3 := keep (And.intro (H2.out.1.step hb3) L3)
       clear hb3 H2 L3 q0 q1 q2 q3 q4 q5 q6 q7 q8 q9 q10)
    | (go_at_call 11; refine K3.out.mono ?_; rintro e w4 ⟨A4, n4', c4, rfl, s4, hb4, _⟩
       have KS := same_ret A2 A4 n2 n4' c2 c4 bs bs w4 (H3.out.1.step hb4) s4
       rw [show (bs == bs) = true by simp] at KS
       replace KS := keep KS
       have H4 := keep (H3.out.2.trans (hb4.mono H3.out.2.size))
       clear hb4 H3 s4 K3)
    | (go_at_call 13; refine KS.out.mono ?_; rintro e w5 ⟨rfl, rfl⟩))
  go_ret
  exact ⟨rfl, H4.out⟩
theorem cookieEncodes_walk (A : Option Addr) (n c : Nat) (ks : List UInt8) (s : CS) (w : World) (hk : BS w A n c ks) (hs : s.ok) :
    Calls Try.prog 3 #[.slice A n c, .agg s.cells] w fun e w' => e = .returned (.bool true) ∧ Below w.heap.size w w' := by
  by_cases hn : n ≤ 300
  · by_cases h : n = 16 ∧ s.may
    · obtain ⟨rfl, hm⟩ := h
      exact encodes_some A c ks s hs hm w hk
    · exact encodes_none A n c s hs hn (by by_cases h1 : n = 16 <;> simp_all) w
  · exact encodes_long A n c s (by omega) w
end Go.Proofs.Ytbkcjpimjipnfaa
