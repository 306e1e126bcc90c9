/- The walk of CookieOnly. -/
import Derived.Test.YtbkcjpimjipnfaaK7
namespace Go.Proofs.Ytbkcjpimjipnfaa
open Go.RowKit
set_option linter.unusedVariables false

theorem only_long (A : Option Addr) (n c : Nat) (B : Option Addr) (m d : Nat) (h : 300 < n ∨ 300 < m) (w : World) :
    Calls Try.prog 6 #[.slice A n c, .slice B m d] w fun e w' => e = .returned (.bool true) ∧ Below w.heap.size w w' := by
  have h' : (300 < (n : Int)) ∨ (¬ 300 < (n : Int) ∧ 300 < (m : Int)) := by omega
  clear h
  rcases h' with h | ⟨h, h2⟩
  all_goals
    go_enter Try.func6, Try.ntmps6
    go_wp2_with (go_at_call 9; refine (awake_any _).mono ?_; rintro e w1 ⟨rfl, hb1⟩; replace hb1 := keep hb1)
    go_ret
    exact ⟨rfl, hb1.out⟩

set_option maxRecDepth 100000 in
set_option maxHeartbeats 1000000 in
theorem only_err (A : Option Addr) (n c : Nat) (ks : List UInt8) (B : Option Addr) (m d : Nat) (bs : List UInt8) (hn : n ≤ 300) (hm : m ≤ 300) (x : Int) (hx : x ≠ 0) (hd : dec ks bs = (.zero, x)) (w : World) (hk : BS w A n c ks) (hb : BS w B m d bs) :
    Calls Try.prog 6 #[.slice A n c, .slice B m d] w fun e w' => e = .returned (.bool true) ∧ Below w.heap.size w w' := by
  have hn' : ¬ 300 < (n : Int) := by omega
  have hm' : ¬ 300 < (m : Int) := by omega
  have hx' : (x != 0) = true := by simpa using hx
  have HK := keep (And.intro hk hb)
  have HD := keep hd
  have KA_ := alike_same .zero CS.zero_ok
  dsimp only [CS.cells, CS.ref, CS.zero] at KA_
  replace KA_ := keep KA_
  clear hn hm hk hb hx hd
  go_enter Try.func6, Try.ntmps6
  go_wp2_with (first
    | (go_at_call 9; refine (awake_any _).mono ?_; rintro e w1 ⟨rfl, hb1⟩
       have K1 := decode_any A n c ks B m d bs w1 (HK.out.1.step hb1) (HK.out.2.step hb1)
       rw [HD.out] at K1
       dsimp only [DecPost, CS.cells, CS.zero] at K1
       replace K1 := keep K1
       have H1 := keep hb1
       clear hb1)
    | (go_at_call 14; refine K1.out.mono ?_; rintro e w2 ⟨rfl, hb2⟩
       have H2 := keep ((up H1.out hb2).alloc (up H1.out hb2).size (.cells zeroC 27))
       clear hb2 K1 H1)
    | (go_at_call 18; refine (KA_.out _).mono ?_; rintro e w3 ⟨rfl, hb3⟩
       have H3 := keep (H2.out.trans (hb3.mono H2.out.size))
       clear hb3 H2))
  go_ret
  exact ⟨rfl, H3.out⟩

set_option maxRecDepth 100000 in
set_option maxHeartbeats 1000000 in
theorem only_ok (A : Option Addr) (n c : Nat) (ks : List UInt8) (B : Option Addr) (m d : Nat) (bs : List UInt8) (hn : n ≤ 300) (hm : m ≤ 300) (s : CS) (hd : dec ks bs = (s, 0)) (w : World) (hk : BS w A n c ks) (hb : BS w B m d bs) :
    Calls Try.prog 6 #[.slice A n c, .slice B m d] w fun e w' => e = .returned (.bool true) ∧ Below w.heap.size w w' := by
  have hn' : ¬ 300 < (n : Int) := by omega
  have hm' : ¬ 300 < (m : Int) := by omega
  obtain ⟨h16, hok, hmay, hbe⟩ := dec_ok ks bs s hd
  obtain rfl : n = 16 := by rw [hk.len, h16]
  have HE := keep hbe
  have HS := keep (And.intro hok hmay)
  have HK := keep (And.intro hk hb)
  have HD := keep hd
  clear hn hm hk hb hd h16 hok hmay hbe
  obtain ⟨made, life, tag, peer, fst, pf, room, out, inn, t0, t1⟩ := s
  go_enter Try.func6, Try.ntmps6
  go_wp2_with (first
    | (go_at_call 9; refine (awake_any _).mono ?_; rintro e w1 ⟨rfl, hb1⟩
       have K1 := decode_any A 16 c ks B m d bs w1 (HK.out.1.step hb1) (HK.out.2.step hb1)
       rw [HD.out] at K1
       dsimp only [DecPost, CS.cells] at K1
       replace K1 := keep K1
       have H1 := keep hb1
       clear hb1)
    | (go_at_call 14; refine K1.out.mono ?_; rintro e w2 ⟨rfl, hb2⟩
       have L2 := (up H1.out hb2).alloc (up H1.out hb2).size (.cells (CS.cells ⟨made, life, tag, peer, fst, pf, room, out, inn, t0, t1⟩) 27)
       have K2 := keep (encode_some A c ks ⟨made, life, tag, peer, fst, pf, room, out, inn, t0, t1⟩ HS.out.1 HS.out.2 _ (HK.out.1.step L2))
       have H2 := keep L2
       clear hb2 K1 H1 L2)
    | (go_at_call 10; refine K2.out.mono ?_; rintro e w3 ⟨A3, n3, c3, rfl, s3, hb3, _⟩
       have L3 := H2.out.trans (hb3.mono H2.out.size)
       have K3 := same_ret B A3 m n3 d c3 bs _ w3 (HK.out.2.step L3) s3
       rw [← HE.out] at K3
       replace K3 := keep K3
       have H3 := keep L3
       clear hb3 K2 H2 L3 s3)
    | (go_at_call 13; refine K3.out.mono ?_; rintro e w4 ⟨rfl, rfl⟩))
  go_ret
  exact ⟨by simp, H3.out⟩
theorem cookieOnly_walk (A : Option Addr) (n c : Nat) (ks : List UInt8) (B : Option Addr) (m d : Nat) (bs : List UInt8) (w : World) (hk : BS w A n c ks) (hb : BS w B m d bs) :
    Calls Try.prog 6 #[.slice A n c, .slice B m d] w fun e w' => e = .returned (.bool true) ∧ Below w.heap.size w w' := by
  by_cases hn : n ≤ 300
  · by_cases hm : m ≤ 300
    · have h2 := dec_two ks bs
      by_cases hx : (dec ks bs).2 = 0
      · exact only_ok A n c ks B m d bs hn hm (dec ks bs).1 (by rw [← hx]) w hk hb
      · exact only_err A n c ks B m d bs hn hm (dec ks bs).2 hx (by rw [← h2.2.2.1 hx]) w hk hb
    · exact only_long A n c B m d (.inr (by omega)) w
  · exact only_long A n c B m d (.inl (by omega)) w
end Go.Proofs.Ytbkcjpimjipnfaa
