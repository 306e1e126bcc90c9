/- cookie.Check: a state that is not too old; and the law package's theirs, alike. -/
import Derived.Test.YtjfkiiohmjdceaaK5
namespace Go.Proofs.Ytjfkiiohmjdceaa
open Go.RowKit
set_option linter.unusedVariables false

/-- What octets are under a key at a time. -/
def chk (key bs : List UInt8) (now : Int) : CS × Int :=
  if (dec key bs).2 ≠ 0 then (.zero, (dec key bs).2) else if now < (dec key bs).1.made ∨ (dec key bs).1.made + (dec key bs).1.life < now then (.zero, 7) else ((dec key bs).1, 0)
theorem two_zero (k : Int) (h : k ≠ 0) (hk : 0 ≤ k ∧ k < 7) : CS.zero.ok ∧ (k = 0 → CS.zero.may) ∧ (k ≠ 0 → CS.zero = .zero) ∧ 0 ≤ k ∧ k < 7 := ⟨CS.zero_ok, fun e => absurd e h, fun _ => rfl, hk⟩
theorem dec_two (key bs : List UInt8) : (dec key bs).1.ok ∧ ((dec key bs).2 = 0 → (dec key bs).1.may) ∧ ((dec key bs).2 ≠ 0 → (dec key bs).1 = .zero) ∧ (0 ≤ (dec key bs).2 ∧ (dec key bs).2 < 7) := by
  unfold dec
  repeat' split
  all_goals first
    | exact two_zero _ (by decide) (by decide)
    | exact ⟨stateOf_ok _, fun _ => by assumption, fun h => absurd rfl h, Int.le_refl _, by show (0 : Int) < 7; decide⟩

set_option maxRecDepth 100000 in
set_option maxHeartbeats 1000000 in
theorem check_of (K : Option Addr) (q ck : Nat) (A : Option Addr) (n c : Nat) (s : CS) (x : Int) (hx : x ≠ 0) (now : Int) (w : World)
    (hd : Calls Try.prog 5 #[.slice K q ck, .slice A n c] (w.alloc (.cells zeroC 28)) (DecPost (w.alloc (.cells zeroC 28)) s x)) :
    Calls Try.prog 7 #[.slice K q ck, .slice A n c, .int .i64 now] w (DecPost w .zero x) := by
  have hx' : (x != 0) = true := by simpa using hx
  have K1 := keep hd
  clear hd hx
  obtain ⟨made, life, tag, peer, fst, pf, room, out, inn, t0, t1⟩ := s
  unfold DecPost at K1
  dsimp only [CS.cells] at K1
  go_enter Try.func7, Try.ntmps7
  go_wp2_with (go_at_call 5; refine K1.out.mono ?_; rintro e w1 ⟨rfl, hb1⟩
               have R1 := ((zero_new w).step hb1).step (below_lay w1 (.cells #[.int .i64 made, .int .i64 life, .int .u32 tag, .int .u32 peer, .int .u32 fst, .int .u32 pf, .int .u32 room, .int .u16 out, .int .u16 inn, .int .u32 t0, .int .u32 t1] 28))
               obtain ⟨⟨r0, r1, r2, r3, r4, r5, r6, r7, r8, r9, r10⟩, y0, y1, y2, y3, y4, y5, y6, y7, y8, y9, y10⟩ := R1.all
               have HR := keep (And.intro R1 (up (up (below_lay w (.cells zeroC 28)) hb1) (below_lay w1 (.cells #[.int .i64 made, .int .i64 life, .int .u32 tag, .int .u32 peer, .int .u32 fst, .int .u32 pf, .int .u32 room, .int .u16 out, .int .u16 inn, .int .u32 t0, .int .u32 t1] 28))))
               clear R1 hb1 K1)
  obtain ⟨R, B⟩ := HR.out
  (try simp only [Exit.inBlock, Exit.then])
  refine bodyPost_ret (ret_st_err rfl _ _ w.heap.size .zero rfl (laid11 R .zero)) rfl ⟨rfl, below11 B (Nat.le_refl _) _ _ _ _ _ _ _ _ _ _ _⟩

set_option maxRecDepth 100000 in
set_option maxHeartbeats 2000000 in
theorem check_fresh (K : Option Addr) (q ck : Nat) (A : Option Addr) (n c : Nat) (s : CS) (hm : s.may) (now : Int) (w : World)
    (hd : Calls Try.prog 5 #[.slice K q ck, .slice A n c] (w.alloc (.cells zeroC 28)) (DecPost (w.alloc (.cells zeroC 28)) s 0)) :
    Calls Try.prog 7 #[.slice K q ck, .slice A n c, .int .i64 now] w (DecPost w (if now < s.made ∨ s.made + s.life < now then .zero else s) (if now < s.made ∨ s.made + s.life < now then 7 else 0)) := by
  have K1 := keep hd
  obtain ⟨⟨m0, m1⟩, l0, l1⟩ := hm
  clear hd
  obtain ⟨made, life, tag, peer, fst, pf, room, out, inn, t0, t1⟩ := s
  dsimp only at m0 m1 l0 l1 ⊢
  unfold DecPost at K1
  dsimp only [CS.cells] at K1
  rcases Int.lt_or_le now made with h1 | h1
  · rw [if_pos (Or.inl h1), if_pos (Or.inl h1)]
    go_enter Try.func7, Try.ntmps7
    go_wp2_with (go_at_call 5; refine K1.out.mono ?_; rintro e w1 ⟨rfl, hb1⟩
                 have R1 := ((zero_new w).step hb1).step (below_lay w1 (.cells #[.int .i64 made, .int .i64 life, .int .u32 tag, .int .u32 peer, .int .u32 fst, .int .u32 pf, .int .u32 room, .int .u16 out, .int .u16 inn, .int .u32 t0, .int .u32 t1] 28))
                 obtain ⟨⟨r0, r1, r2, r3, r4, r5, r6, r7, r8, r9, r10⟩, y0, y1, y2, y3, y4, y5, y6, y7, y8, y9, y10⟩ := R1.all
                 have HR := keep (And.intro R1 (up (up (below_lay w (.cells zeroC 28)) hb1) (below_lay w1 (.cells #[.int .i64 made, .int .i64 life, .int .u32 tag, .int .u32 peer, .int .u32 fst, .int .u32 pf, .int .u32 room, .int .u16 out, .int .u16 inn, .int .u32 t0, .int .u32 t1] 28))))
                 clear R1 hb1 K1)
    obtain ⟨R, B⟩ := HR.out
    (try simp only [Exit.inBlock, Exit.then])
    exact bodyPost_ret (ret_st_err rfl _ _ w.heap.size .zero rfl (laid11 R .zero)) rfl ⟨rfl, below11 B (Nat.le_refl _) _ _ _ _ _ _ _ _ _ _ _⟩
  rcases Int.lt_or_le (made + life) now with h2 | h2
  · rw [if_pos (Or.inr h2), if_pos (Or.inr h2)]
    go_enter Try.func7, Try.ntmps7
    go_wp2_with (go_at_call 5; refine K1.out.mono ?_; rintro e w1 ⟨rfl, hb1⟩
                 have R1 := ((zero_new w).step hb1).step (below_lay w1 (.cells #[.int .i64 made, .int .i64 life, .int .u32 tag, .int .u32 peer, .int .u32 fst, .int .u32 pf, .int .u32 room, .int .u16 out, .int .u16 inn, .int .u32 t0, .int .u32 t1] 28))
                 obtain ⟨⟨r0, r1, r2, r3, r4, r5, r6, r7, r8, r9, r10⟩, y0, y1, y2, y3, y4, y5, y6, y7, y8, y9, y10⟩ := R1.all
                 have HR := keep (And.intro R1 (up (up (below_lay w (.cells zeroC 28)) hb1) (below_lay w1 (.cells #[.int .i64 made, .int .i64 life, .int .u32 tag, .int .u32 peer, .int .u32 fst, .int .u32 pf, .int .u32 room, .int .u16 out, .int .u16 inn, .int .u32 t0, .int .u32 t1] 28))))
                 clear R1 hb1 K1)
    obtain ⟨R, B⟩ := HR.out
    (try simp only [Exit.inBlock, Exit.then])
    exact bodyPost_ret (ret_st_err rfl _ _ w.heap.size .zero rfl (laid11 R .zero)) rfl ⟨rfl, below11 B (Nat.le_refl _) _ _ _ _ _ _ _ _ _ _ _⟩
  · rw [if_neg (by omega), if_neg (by omega)]
    go_enter Try.func7, Try.ntmps7
    go_wp2_with (go_at_call 5; refine K1.out.mono ?_; rintro e w1 ⟨rfl, hb1⟩
                 have R1 := ((zero_new w).step hb1).step (below_lay w1 (.cells #[.int .i64 made, .int .i64 life, .int .u32 tag, .int .u32 peer, .int .u32 fst, .int .u32 pf, .int .u32 room, .int .u16 out, .int .u16 inn, .int .u32 t0, .int .u32 t1] 28))
                 obtain ⟨⟨r0, r1, r2, r3, r4, r5, r6, r7, r8, r9, r10⟩, y0, y1, y2, y3, y4, y5, y6, y7, y8, y9, y10⟩ := R1.all
                 have HR := keep (And.intro R1 (up (up (below_lay w (.cells zeroC 28)) hb1) (below_lay w1 (.cells #[.int .i64 made, .int .i64 life, .int .u32 tag, .int .u32 peer, .int .u32 fst, .int .u32 pf, .int .u32 room, .int .u16 out, .int .u16 inn, .int .u32 t0, .int .u32 t1] 28))))
                 clear R1 hb1 K1)
    obtain ⟨R, B⟩ := HR.out
    (try simp only [Exit.inBlock, Exit.then])
    exact bodyPost_ret (ret_st_err rfl _ _ w.heap.size ⟨made, life, tag, peer, fst, pf, room, out, inn, t0, t1⟩ rfl (laid11 R ⟨made, life, tag, peer, fst, pf, room, out, inn, t0, t1⟩)) rfl ⟨rfl, below11 B (Nat.le_refl _) _ _ _ _ _ _ _ _ _ _ _⟩
theorem check_any (K : Option Addr) (q ck : Nat) (key : List UInt8) (A : Option Addr) (n c : Nat) (bs : List UInt8) (now : Int) (w : World) (hk : BS w K q ck key) (hb : BS w A n c bs) :
    Calls Try.prog 7 #[.slice K q ck, .slice A n c, .int .i64 now] w (DecPost w (chk key bs now).1 (chk key bs now).2) := by
  have l1 := below_lay w (.cells zeroC 28)
  have hd := decode_any K q ck key A n c bs _ (hk.step l1) (hb.step l1)
  have h2 := dec_two key bs
  unfold chk
  by_cases h : (dec key bs).2 ≠ 0
  · rw [if_pos h]
    exact check_of K q ck A n c _ _ h now w hd
  · rw [if_neg h]
    have h0 : (dec key bs).2 = 0 := by omega
    rw [h0] at hd
    have := check_fresh K q ck A n c _ (h2.2.1 h0) now w hd
    split
    · rename_i h3
      simpa [h3] using this
    · rename_i h3
      simpa [h3] using this
end Go.Proofs.Ytjfkiiohmjdceaa
