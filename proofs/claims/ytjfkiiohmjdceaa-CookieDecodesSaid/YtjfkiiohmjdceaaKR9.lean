/- The document's Decode and Check for layer 9: whole. -/
import Derived.Test.YtjfkiiohmjdceaaKR8
namespace Go.Proofs.Ytjfkiiohmjdceaa
open Go.RowKit
set_option linter.unusedVariables false

theorem refDecode_any (K : Option Addr) (q ck : Nat) (key : List UInt8) (A : Option Addr) (n c : Nat) (bs : List UInt8) (w : World) (hk : BS w K q ck key) (hb : BS w A n c bs) :
    Calls Try.prog 6 #[.slice K q ck, .slice A n c] w (RefPost w (dec key bs).1 (dec key bs).2) := by
  have hkl := hk.len
  have hbl := hb.len
  unfold dec
  by_cases h1 : key.length ≠ 16
  · rw [if_pos h1]
    exact refDecode_key K q ck (by omega) A n c w
  · rw [if_neg h1]
    obtain rfl : q = 16 := by omega
    by_cases h2 : bs.length < 60
    · rw [if_pos h2]
      exact refDecode_short K ck A n c (by omega) w
    · rw [if_neg h2]
      by_cases h3 : 60 < bs.length
      · rw [if_pos (.inl h3)]
        exact refDecode_long K ck A n c (by omega) w
      · obtain rfl : n = 60 := by omega
        by_cases h4 : bs.drop 56 = bol
        · rw [if_neg (by simp [h3, h4])]
          by_cases h5 : seal_ key (bs.take 48) ≠ bs
          · rw [if_pos h5]
            exact refDecode_seal K ck key A c bs w hk hb h4 h5
          · rw [if_neg h5]
            have := refDecode_good K ck key A c bs w hk hb h4 (by simpa using h5) _ rfl
            by_cases h6 : (stateOf (bs.take 48)).may
            · rw [if_pos h6]
              exact this.mono fun e w' h => h.1 h6
            · rw [if_neg h6]
              exact this.mono fun e w' h => h.2 h6
        · rw [if_pos (.inr h4)]
          exact refDecode_mark K ck A c bs w hb h4

set_option maxRecDepth 100000 in
set_option maxHeartbeats 1000000 in
theorem refCheck_of (K : Option Addr) (q ck : Nat) (A : Option Addr) (n c : Nat) (s : CS) (x : Int) (hx : x ≠ 0) (now : Int) (w : World)
    (hd : Calls Try.prog 6 #[.slice K q ck, .slice A n c] (w.alloc (.cells refZ 33)) (RefPost (w.alloc (.cells refZ 33)) s x)) :
    Calls Try.prog 8 #[.slice K q ck, .slice A n c, .int .i64 now] w (RefPost w .zero x) := by
  have hx' : (x != 0) = true := by simpa using hx
  have K1 := keep hd
  clear hd hx
  obtain ⟨made, life, tag, peer, fst, pf, room, out, inn, t0, t1⟩ := s
  unfold RefPost at K1
  dsimp only [CS.ref] at K1
  go_enter Try.func8, Try.ntmps8
  go_wp2_with (go_at_call 6; refine K1.out.mono ?_; rintro e w1 ⟨rfl, hb1⟩
               have R1 := ((refZ_new w).step hb1).step (below_lay w1 (.cells #[.int .i64 made, .int .i64 life, .int .i64 tag, .int .i64 peer, .int .i64 fst, .int .i64 pf, .int .i64 room, .int .i64 t0, .int .i64 t1, .int .i64 out, .int .i64 inn] 33))
               have S1 := RB.new w1 ⟨made, life, tag, peer, fst, pf, room, out, inn, t0, t1⟩
               obtain ⟨r0, r1, r2, r3, r4, r5, r6, r7, r8, r9, r10⟩ := R1.all
               obtain ⟨y0, y1, y2, y3, y4, y5, y6, y7, y8, y9, y10⟩ := R1.fzs
               obtain ⟨s0, s1, s2, s3, s4, s5, s6, s7, s8, s9, s10⟩ := S1.all
               dsimp only at s0 s1 s2 s3 s4 s5 s6 s7 s8 s9 s10
               have HR := keep (And.intro R1 (up (up (below_lay w (.cells refZ 33)) hb1) (below_lay w1 (.cells #[.int .i64 made, .int .i64 life, .int .i64 tag, .int .i64 peer, .int .i64 fst, .int .i64 pf, .int .i64 room, .int .i64 t0, .int .i64 t1, .int .i64 out, .int .i64 inn] 33))))
               clear R1 S1 hb1 K1)
  obtain ⟨R, B⟩ := HR.out
  (try simp only [Exit.inBlock, Exit.then])
  exact bodyPost_ret (ret_ref_err rfl _ _ w.heap.size .zero rfl (laidR R .zero)) rfl ⟨rfl, below11 B (Nat.le_refl _) _ _ _ _ _ _ _ _ _ _ _⟩

set_option maxRecDepth 100000 in
set_option maxHeartbeats 2000000 in
theorem refCheck_fresh (K : Option Addr) (q ck : Nat) (A : Option Addr) (n c : Nat) (s : CS) (hm : s.may) (now : Int) (w : World)
    (hd : Calls Try.prog 6 #[.slice K q ck, .slice A n c] (w.alloc (.cells refZ 33)) (RefPost (w.alloc (.cells refZ 33)) s 0)) :
    Calls Try.prog 8 #[.slice K q ck, .slice A n c, .int .i64 now] w (RefPost w (if now < s.made ∨ s.made + s.life < now then .zero else s) (if now < s.made ∨ s.made + s.life < now then 7 else 0)) := by
  have K1 := keep hd
  obtain ⟨⟨m0, m1⟩, l0, l1⟩ := hm
  clear hd
  obtain ⟨made, life, tag, peer, fst, pf, room, out, inn, t0, t1⟩ := s
  dsimp only at m0 m1 l0 l1 ⊢
  unfold RefPost at K1
  dsimp only [CS.ref] at K1
  rcases Int.lt_or_le now made with h1 | h1
  · rw [if_pos (Or.inl h1), if_pos (Or.inl h1)]
    go_enter Try.func8, Try.ntmps8
    go_wp2_with (go_at_call 6; refine K1.out.mono ?_; rintro e w1 ⟨rfl, hb1⟩
                 have R1 := ((refZ_new w).step hb1).step (below_lay w1 (.cells #[.int .i64 made, .int .i64 life, .int .i64 tag, .int .i64 peer, .int .i64 fst, .int .i64 pf, .int .i64 room, .int .i64 t0, .int .i64 t1, .int .i64 out, .int .i64 inn] 33))
                 have S1 := RB.new w1 ⟨made, life, tag, peer, fst, pf, room, out, inn, t0, t1⟩
                 obtain ⟨r0, r1, r2, r3, r4, r5, r6, r7, r8, r9, r10⟩ := R1.all
                 obtain ⟨y0, y1, y2, y3, y4, y5, y6, y7, y8, y9, y10⟩ := R1.fzs
                 obtain ⟨s0, s1, s2, s3, s4, s5, s6, s7, s8, s9, s10⟩ := S1.all
                 dsimp only at s0 s1 s2 s3 s4 s5 s6 s7 s8 s9 s10
                 have HR := keep (And.intro R1 (up (up (below_lay w (.cells refZ 33)) hb1) (below_lay w1 (.cells #[.int .i64 made, .int .i64 life, .int .i64 tag, .int .i64 peer, .int .i64 fst, .int .i64 pf, .int .i64 room, .int .i64 t0, .int .i64 t1, .int .i64 out, .int .i64 inn] 33))))
                 clear R1 S1 hb1 K1)
    obtain ⟨R, B⟩ := HR.out
    (try simp only [Exit.inBlock, Exit.then])
    exact bodyPost_ret (ret_ref_err rfl _ _ w.heap.size .zero rfl (laidR R .zero)) rfl ⟨rfl, below11 B (Nat.le_refl _) _ _ _ _ _ _ _ _ _ _ _⟩
  rcases Int.lt_or_le (made + life) now with h2 | h2
  · rw [if_pos (Or.inr h2), if_pos (Or.inr h2)]
    go_enter Try.func8, Try.ntmps8
    go_wp2_with (go_at_call 6; refine K1.out.mono ?_; rintro e w1 ⟨rfl, hb1⟩
                 have R1 := ((refZ_new w).step hb1).step (below_lay w1 (.cells #[.int .i64 made, .int .i64 life, .int .i64 tag, .int .i64 peer, .int .i64 fst, .int .i64 pf, .int .i64 room, .int .i64 t0, .int .i64 t1, .int .i64 out, .int .i64 inn] 33))
                 have S1 := RB.new w1 ⟨made, life, tag, peer, fst, pf, room, out, inn, t0, t1⟩
                 obtain ⟨r0, r1, r2, r3, r4, r5, r6, r7, r8, r9, r10⟩ := R1.all
                 obtain ⟨y0, y1, y2, y3, y4, y5, y6, y7, y8, y9, y10⟩ := R1.fzs
                 obtain ⟨s0, s1, s2, s3, s4, s5, s6, s7, s8, s9, s10⟩ := S1.all
                 dsimp only at s0 s1 s2 s3 s4 s5 s6 s7 s8 s9 s10
                 have HR := keep (And.intro R1 (up (up (below_lay w (.cells refZ 33)) hb1) (below_lay w1 (.cells #[.int .i64 made, .int .i64 life, .int .i64 tag, .int .i64 peer, .int .i64 fst, .int .i64 pf, .int .i64 room, .int .i64 t0, .int .i64 t1, .int .i64 out, .int .i64 inn] 33))))
                 clear R1 S1 hb1 K1)
    obtain ⟨R, B⟩ := HR.out
    (try simp only [Exit.inBlock, Exit.then])
    exact bodyPost_ret (ret_ref_err rfl _ _ w.heap.size .zero rfl (laidR R .zero)) rfl ⟨rfl, below11 B (Nat.le_refl _) _ _ _ _ _ _ _ _ _ _ _⟩
  · rw [if_neg (by omega), if_neg (by omega)]
    go_enter Try.func8, Try.ntmps8
    go_wp2_with (go_at_call 6; refine K1.out.mono ?_; rintro e w1 ⟨rfl, hb1⟩
                 have R1 := ((refZ_new w).step hb1).step (below_lay w1 (.cells #[.int .i64 made, .int .i64 life, .int .i64 tag, .int .i64 peer, .int .i64 fst, .int .i64 pf, .int .i64 room, .int .i64 t0, .int .i64 t1, .int .i64 out, .int .i64 inn] 33))
                 have S1 := RB.new w1 ⟨made, life, tag, peer, fst, pf, room, out, inn, t0, t1⟩
                 obtain ⟨r0, r1, r2, r3, r4, r5, r6, r7, r8, r9, r10⟩ := R1.all
                 obtain ⟨y0, y1, y2, y3, y4, y5, y6, y7, y8, y9, y10⟩ := R1.fzs
                 obtain ⟨s0, s1, s2, s3, s4, s5, s6, s7, s8, s9, s10⟩ := S1.all
                 dsimp only at s0 s1 s2 s3 s4 s5 s6 s7 s8 s9 s10
                 have HR := keep (And.intro R1 (up (up (below_lay w (.cells refZ 33)) hb1) (below_lay w1 (.cells #[.int .i64 made, .int .i64 life, .int .i64 tag, .int .i64 peer, .int .i64 fst, .int .i64 pf, .int .i64 room, .int .i64 t0, .int .i64 t1, .int .i64 out, .int .i64 inn] 33))))
                 clear R1 S1 hb1 K1)
    obtain ⟨R, B⟩ := HR.out
    (try simp only [Exit.inBlock, Exit.then])
    exact bodyPost_ret (ret_ref_err rfl _ _ w.heap.size ⟨made, life, tag, peer, fst, pf, room, out, inn, t0, t1⟩ rfl (laidR R ⟨made, life, tag, peer, fst, pf, room, out, inn, t0, t1⟩)) rfl ⟨rfl, below11 B (Nat.le_refl _) _ _ _ _ _ _ _ _ _ _ _⟩
theorem refCheck_any (K : Option Addr) (q ck : Nat) (key : List UInt8) (A : Option Addr) (n c : Nat) (bs : List UInt8) (now : Int) (w : World) (hk : BS w K q ck key) (hb : BS w A n c bs) :
    Calls Try.prog 8 #[.slice K q ck, .slice A n c, .int .i64 now] w (RefPost w (chk key bs now).1 (chk key bs now).2) := by
  have l1 := below_lay w (.cells refZ 33)
  have hd := refDecode_any K q ck key A n c bs _ (hk.step l1) (hb.step l1)
  have h2 := dec_two key bs
  unfold chk
  by_cases h : (dec key bs).2 ≠ 0
  · rw [if_pos h]
    exact refCheck_of K q ck A n c _ _ h now w hd
  · rw [if_neg h]
    have h0 : (dec key bs).2 = 0 := by omega
    rw [h0] at hd
    have := refCheck_fresh K q ck A n c _ (h2.2.1 h0) now w hd
    split
    · rename_i h3
      simpa [h3] using this
    · rename_i h3
      simpa [h3] using this
theorem chk_ok (key bs : List UInt8) (now : Int) : (chk key bs now).1.ok := by
  unfold chk
  split
  · exact CS.zero_ok
  · split
    · exact CS.zero_ok
    · exact (dec_two key bs).1
end Go.Proofs.Ytjfkiiohmjdceaa
