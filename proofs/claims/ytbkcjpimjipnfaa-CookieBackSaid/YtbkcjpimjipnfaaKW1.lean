/- The walks of CookieBack and CookieOnly. -/
import Derived.Test.YtbkcjpimjipnfaaK7
namespace Go.Proofs.Ytbkcjpimjipnfaa
open Go.RowKit
set_option linter.unusedVariables false

theorem CB.drew {w : World} {g : Nat} {s : CS} (h : CB w g s) : CB w.drew g s := h
theorem encode_none (A : Option Addr) (n c : Nat) (s : CS) (h : n ≠ 16 ∨ ¬ s.may) (w : World) :
    Calls Try.prog 10 #[.slice A n c, .agg s.cells] w fun e w' => e = .returned (.tuple #[.slice none 0 0, .bool false]) ∧ Below w.heap.size w w' := by
  by_cases hn : n = 16
  · subst hn
    exact encode_not A c s (h.resolve_left (by simp)) w
  · exact encode_key A n c hn s w

set_option maxRecDepth 100000 in
set_option maxHeartbeats 1000000 in
theorem back_none (A : Option Addr) (n c : Nat) (s : CS) (h : n ≠ 16 ∨ ¬ s.may) (now : Int) (w : World) :
    Calls Try.prog 5 #[.slice A n c, .agg s.cells, .int .i64 now] w fun e w' => e = .returned (.bool true) ∧ Below w.heap.size w w' := by
  have KE := keep (encode_none A n c s h)
  have C0 := keep (CB.new w s)
  have l1 := keep (below_lay w (.cells s.cells 27))
  have hc : (((n : Int) != 16) = true) ∨ (n = 16 ∧ (s.made < 0 ∨ (¬ s.made < 0 ∧ (s.life < 0 ∨ (¬ s.life < 0 ∧ (281474976710656 < s.made ∨ (¬ 281474976710656 < s.made ∧ 281474976710656 < s.life))))))) := by
    by_cases hn : n = 16
    · right
      refine ⟨hn, ?_⟩
      have hm := h.resolve_left (by simpa using hn)
      unfold CS.may at hm
      omega
    · left
      simp
      omega
  clear h
  obtain ⟨made, life, tag, peer, fst, pf, room, out, inn, t0, t1⟩ := s
  dsimp only at hc
  dsimp only [CS.cells] at KE l1 ⊢
  rcases hc with hc | ⟨rfl, h1 | ⟨h1, h2 | ⟨h2, h3 | ⟨h3, h4⟩⟩⟩⟩
  all_goals
    go_enter Try.func5, Try.ntmps5
    go_wp2_with (first
      | (go_at_call 9; refine (awake_any _).mono ?_; rintro e w1 ⟨rfl, hb1⟩
         have C1 := keep (C0.out.step hb1)
         obtain ⟨q0, q1, q2, q3, q4, q5, q6, q7, q8, q9, q10⟩ := C1.out.all
         have H1 := keep (up l1.out hb1)
         clear hb1 C0)
      | (go_at_call 10; refine (KE.out _).mono ?_; rintro e w2 ⟨rfl, hb2⟩
         obtain ⟨r0, r1, _⟩ := (C1.out.step hb2).all
         have H2 := keep (H1.out.trans (hb2.mono H1.out.size))
         clear hb2 C1 q0 q1 q2 q3 q4 q5 q6 q7 q8 q9 q10))
    go_ret
    exact ⟨rfl, H2.out⟩

/-- Two states' blocks, cell by cell. -/
theorem two_all {w : World} {g k : Nat} {s : CS} (h : CB w g s) (h' : CB w k s) : (w.cell? ⟨g, 0, none⟩ = some (.int .i64 s.made) ∧ w.cell? ⟨g, 1, none⟩ = some (.int .i64 s.life) ∧ w.cell? ⟨g, 2, none⟩ = some (.int .u32 s.tag) ∧ w.cell? ⟨g, 3, none⟩ = some (.int .u32 s.peer) ∧ w.cell? ⟨g, 4, none⟩ = some (.int .u32 s.fst) ∧ w.cell? ⟨g, 5, none⟩ = some (.int .u32 s.pf) ∧ w.cell? ⟨g, 6, none⟩ = some (.int .u32 s.room) ∧ w.cell? ⟨g, 7, none⟩ = some (.int .u16 s.out) ∧ w.cell? ⟨g, 8, none⟩ = some (.int .u16 s.inn) ∧ w.cell? ⟨g, 9, none⟩ = some (.int .u32 s.t0) ∧ w.cell? ⟨g, 10, none⟩ = some (.int .u32 s.t1)) ∧ (w.cell? ⟨k, 0, none⟩ = some (.int .i64 s.made) ∧ w.cell? ⟨k, 1, none⟩ = some (.int .i64 s.life) ∧ w.cell? ⟨k, 2, none⟩ = some (.int .u32 s.tag) ∧ w.cell? ⟨k, 3, none⟩ = some (.int .u32 s.peer) ∧ w.cell? ⟨k, 4, none⟩ = some (.int .u32 s.fst) ∧ w.cell? ⟨k, 5, none⟩ = some (.int .u32 s.pf) ∧ w.cell? ⟨k, 6, none⟩ = some (.int .u32 s.room) ∧ w.cell? ⟨k, 7, none⟩ = some (.int .u16 s.out) ∧ w.cell? ⟨k, 8, none⟩ = some (.int .u16 s.inn) ∧ w.cell? ⟨k, 9, none⟩ = some (.int .u32 s.t0) ∧ w.cell? ⟨k, 10, none⟩ = some (.int .u32 s.t1)) := ⟨h.all, h'.all⟩

set_option maxRecDepth 100000 in
set_option maxHeartbeats 1000000 in
theorem back_early (A : Option Addr) (c : Nat) (ks : List UInt8) (s : CS) (hs : s.ok) (hm : s.may) (now : Int) (h1 : now < s.made) (w : World) (hk : BS w A 16 c ks) :
    Calls Try.prog 5 #[.slice A 16 c, .agg s.cells, .int .i64 now] w fun e w' => e = .returned (.bool true) ∧ Below w.heap.size w w' := by
  have HK := keep hk
  have hkl : ks.length = 16 := hk.len.symm
  have C0 := keep (CB.new w s)
  have l1 := keep (below_lay w (.cells s.cells 27))
  have KT := keep (theirs_any s hs)
  have KA_ := keep (alike_same s hs)
  have HD := keep (dec_enc ks s hkl hs hm)
  have HC := chk_enc ks s hkl hs hm now
  obtain ⟨bs, hbs⟩ : ∃ bs, enc ks s = bs := ⟨_, rfl⟩
  rw [hbs] at HD HC
  replace hbs := keep hbs
  obtain ⟨made, life, tag, peer, fst, pf, room, out, inn, t0, t1⟩ := s
  obtain ⟨⟨m0, m1⟩, q0', q1'⟩ := id hm
  dsimp only at m0 m1 q0' q1' HC h1
  dsimp only [CS.cells, CS.ref] at l1 KT KA_ ⊢
  clear hk hkl
  rw [if_pos (Or.inl h1)] at HC
  replace HC := keep HC
  go_enter Try.func5, Try.ntmps5
  go_wp2_with (first
    | (go_at_call 9; refine (awake_any _).mono ?_; rintro e w1 ⟨rfl, hb1⟩
       have C1 := C0.out.step hb1
       obtain ⟨q0, q1, q2, q3, q4, q5, q6, q7, q8, q9, q10⟩ := C1.all
       have L1 := up l1.out hb1
       have K1 := encode_some A c ks ⟨made, life, tag, peer, fst, pf, room, out, inn, t0, t1⟩ hs hm w1 (HK.out.step L1)
       have H1 := keep (And.intro C1 L1)
       replace K1 := keep K1
       clear hb1 C0 C1 L1)
    | (go_at_call 10; refine K1.out.mono ?_; rintro e w2 ⟨A2, n2', c2, rfl, s2, hb2, _⟩
       obtain rfl : n2' = 60 := by rw [s2.len, enc_length]
       have L2 := H1.out.2.trans (hb2.mono H1.out.2.size)
       rw [hbs.out] at s2
       have K2 := decode_any A 16 c ks A2 60 c2 bs w2 (HK.out.step L2) s2
       rw [HD.out] at K2
       dsimp only [DecPost, CS.cells] at K2
       have H2 := keep (And.intro (H1.out.1.step hb2) (And.intro L2 s2))
       replace K2 := keep K2
       clear hb2 L2 s2 K1 H1 q0 q1 q2 q3 q4 q5 q6 q7 q8 q9 q10)
    | (go_at_call 14; refine K2.out.mono ?_; rintro e w3 ⟨rfl, hb3⟩
       have l3 := below_lay w3 (.cells #[.int .i64 made, .int .i64 life, .int .u32 tag, .int .u32 peer, .int .u32 fst, .int .u32 pf, .int .u32 room, .int .u16 out, .int .u16 inn, .int .u32 t0, .int .u32 t1] 27)
       have hb4 := up hb3 l3
       have L4 := H2.out.2.1.trans (hb4.mono H2.out.2.1.size)
       have K3 := check_any A 16 c ks A2 60 c2 bs now _ (HK.out.step L4) (H2.out.2.2.step hb4)
       rw [HC.out] at K3
       dsimp only [DecPost, CS.cells, CS.zero] at K3
       have T4 := CB.new w3 ⟨made, life, tag, peer, fst, pf, room, out, inn, t0, t1⟩
       have H4 := keep (And.intro (H2.out.1.step hb4) (And.intro T4 L4))
       replace K3 := keep K3
       clear hb3 l3 hb4 L4 T4 K2 H2)
    | (go_at_call 16; refine K3.out.mono ?_; rintro e w5 ⟨rfl, hb5⟩
       have l5 := below_lay w5 (.cells zeroC 27)
       have hb6 := up hb5 l5
       have L6 := H4.out.2.2.trans (hb6.mono H4.out.2.2.size)
       have C6 := H4.out.1.step hb6
       have T6 := H4.out.2.1.step hb6
       obtain ⟨q0, q1, _⟩ := C6.all
       have H6 := keep L6
       replace C6 := keep C6
       replace T6 := keep T6
       clear hb5 l5 hb6 L6 K3 H4))
  obtain ⟨w6, hw6⟩ : ∃ w6, w5.alloc (.cells zeroC 27) = w6 := ⟨_, rfl⟩
  rw [hw6] at H6 C6 T6 ⊢
  clear hw6 q0 q1
  have c6 := C6.out
  have t6 := T6.out
  have two6 := two_all c6 t6
  dsimp only at two6
  clear C6 T6
  go_region_held3 (fun w' => (w'.cell? ⟨w.heap.size, 0, none⟩ = some (.int .i64 made) ∧ w'.cell? ⟨w.heap.size, 1, none⟩ = some (.int .i64 life) ∧ w'.cell? ⟨w.heap.size, 2, none⟩ = some (.int .u32 tag) ∧ w'.cell? ⟨w.heap.size, 3, none⟩ = some (.int .u32 peer) ∧ w'.cell? ⟨w.heap.size, 4, none⟩ = some (.int .u32 fst) ∧ w'.cell? ⟨w.heap.size, 5, none⟩ = some (.int .u32 pf) ∧ w'.cell? ⟨w.heap.size, 6, none⟩ = some (.int .u32 room) ∧ w'.cell? ⟨w.heap.size, 7, none⟩ = some (.int .u16 out) ∧ w'.cell? ⟨w.heap.size, 8, none⟩ = some (.int .u16 inn) ∧ w'.cell? ⟨w.heap.size, 9, none⟩ = some (.int .u32 t0) ∧ w'.cell? ⟨w.heap.size, 10, none⟩ = some (.int .u32 t1)) ∧ (w'.cell? ⟨w3.heap.size, 0, none⟩ = some (.int .i64 made) ∧ w'.cell? ⟨w3.heap.size, 1, none⟩ = some (.int .i64 life) ∧ w'.cell? ⟨w3.heap.size, 2, none⟩ = some (.int .u32 tag) ∧ w'.cell? ⟨w3.heap.size, 3, none⟩ = some (.int .u32 peer) ∧ w'.cell? ⟨w3.heap.size, 4, none⟩ = some (.int .u32 fst) ∧ w'.cell? ⟨w3.heap.size, 5, none⟩ = some (.int .u32 pf) ∧ w'.cell? ⟨w3.heap.size, 6, none⟩ = some (.int .u32 room) ∧ w'.cell? ⟨w3.heap.size, 7, none⟩ = some (.int .u16 out) ∧ w'.cell? ⟨w3.heap.size, 8, none⟩ = some (.int .u16 inn) ∧ w'.cell? ⟨w3.heap.size, 9, none⟩ = some (.int .u32 t0) ∧ w'.cell? ⟨w3.heap.size, 10, none⟩ = some (.int .u32 t1)))
    (first | exact two_all c6 t6 | exact two_all c7 t7 | exact two_all c8 t8)
    (first
    | (go_at_call 12; refine (KT.out _).mono ?_; rintro e w7 ⟨rfl, hb7⟩
       have c7 := CB.step (CB.drew c6) hb7
       have t7 := CB.step (CB.drew t6) hb7
       have H7 := keep (H6.out.drew.trans (hb7.mono H6.out.drew.size))
       clear hb7 H6 c6 t6 two6)
    | (go_at_call 18; refine (KA_.out _).mono ?_; rintro e w8 ⟨rfl, hb8⟩
       have c8 := CB.step c7 hb8
       have t8 := CB.step t7 hb8
       have H8 := keep (H7.out.trans (hb8.mono H7.out.size))
       clear hb8 H7 c7 t7))
  all_goals (try go_wp2_with fail)
  go_ret
  exact ⟨rfl, H8.out⟩

set_option maxRecDepth 100000 in
set_option maxHeartbeats 1000000 in
theorem back_late (A : Option Addr) (c : Nat) (ks : List UInt8) (s : CS) (hs : s.ok) (hm : s.may) (now : Int) (h1 : s.made ≤ now) (h2 : s.made + s.life < now) (w : World) (hk : BS w A 16 c ks) :
    Calls Try.prog 5 #[.slice A 16 c, .agg s.cells, .int .i64 now] w fun e w' => e = .returned (.bool true) ∧ Below w.heap.size w w' := by
  have HK := keep hk
  have hkl : ks.length = 16 := hk.len.symm
  have C0 := keep (CB.new w s)
  have l1 := keep (below_lay w (.cells s.cells 27))
  have KT := keep (theirs_any s hs)
  have KA_ := keep (alike_same s hs)
  have HD := keep (dec_enc ks s hkl hs hm)
  have HC := chk_enc ks s hkl hs hm now
  obtain ⟨bs, hbs⟩ : ∃ bs, enc ks s = bs := ⟨_, rfl⟩
  rw [hbs] at HD HC
  replace hbs := keep hbs
  obtain ⟨made, life, tag, peer, fst, pf, room, out, inn, t0, t1⟩ := s
  obtain ⟨⟨m0, m1⟩, q0', q1'⟩ := id hm
  dsimp only at m0 m1 q0' q1' HC h1 h2
  dsimp only [CS.cells, CS.ref] at l1 KT KA_ ⊢
  have g1 : decide (now ≤ made + life) = false := decide_eq_false (by omega)
  clear hk hkl
  rw [if_pos (Or.inr h2)] at HC
  replace HC := keep HC
  go_enter Try.func5, Try.ntmps5
  go_wp2_with (first
    | (go_at_call 9; refine (awake_any _).mono ?_; rintro e w1 ⟨rfl, hb1⟩
       have C1 := C0.out.step hb1
       obtain ⟨q0, q1, q2, q3, q4, q5, q6, q7, q8, q9, q10⟩ := C1.all
       have L1 := up l1.out hb1
       have K1 := encode_some A c ks ⟨made, life, tag, peer, fst, pf, room, out, inn, t0, t1⟩ hs hm w1 (HK.out.step L1)
       have H1 := keep (And.intro C1 L1)
       replace K1 := keep K1
       clear hb1 C0 C1 L1)
    | (go_at_call 10; refine K1.out.mono ?_; rintro e w2 ⟨A2, n2', c2, rfl, s2, hb2, _⟩
       obtain rfl : n2' = 60 := by rw [s2.len, enc_length]
       have L2 := H1.out.2.trans (hb2.mono H1.out.2.size)
       rw [hbs.out] at s2
       have K2 := decode_any A 16 c ks A2 60 c2 bs w2 (HK.out.step L2) s2
       rw [HD.out] at K2
       dsimp only [DecPost, CS.cells] at K2
       have H2 := keep (And.intro (H1.out.1.step hb2) (And.intro L2 s2))
       replace K2 := keep K2
       clear hb2 L2 s2 K1 H1 q0 q1 q2 q3 q4 q5 q6 q7 q8 q9 q10)
    | (go_at_call 14; refine K2.out.mono ?_; rintro e w3 ⟨rfl, hb3⟩
       have l3 := below_lay w3 (.cells #[.int .i64 made, .int .i64 life, .int .u32 tag, .int .u32 peer, .int .u32 fst, .int .u32 pf, .int .u32 room, .int .u16 out, .int .u16 inn, .int .u32 t0, .int .u32 t1] 27)
       have hb4 := up hb3 l3
       have L4 := H2.out.2.1.trans (hb4.mono H2.out.2.1.size)
       have K3 := check_any A 16 c ks A2 60 c2 bs now _ (HK.out.step L4) (H2.out.2.2.step hb4)
       rw [HC.out] at K3
       dsimp only [DecPost, CS.cells, CS.zero] at K3
       have T4 := CB.new w3 ⟨made, life, tag, peer, fst, pf, room, out, inn, t0, t1⟩
       have H4 := keep (And.intro (H2.out.1.step hb4) (And.intro T4 L4))
       replace K3 := keep K3
       clear hb3 l3 hb4 L4 T4 K2 H2)
    | (go_at_call 16; refine K3.out.mono ?_; rintro e w5 ⟨rfl, hb5⟩
       have l5 := below_lay w5 (.cells zeroC 27)
       have hb6 := up hb5 l5
       have L6 := H4.out.2.2.trans (hb6.mono H4.out.2.2.size)
       have C6 := H4.out.1.step hb6
       have T6 := H4.out.2.1.step hb6
       obtain ⟨q0, q1, _⟩ := C6.all
       have H6 := keep L6
       replace C6 := keep C6
       replace T6 := keep T6
       clear hb5 l5 hb6 L6 K3 H4))
  obtain ⟨w6, hw6⟩ : ∃ w6, w5.alloc (.cells zeroC 27) = w6 := ⟨_, rfl⟩
  rw [hw6] at H6 C6 T6 ⊢
  clear hw6 q0 q1
  have c6 := C6.out
  have t6 := T6.out
  have two6 := two_all c6 t6
  dsimp only at two6
  clear C6 T6
  go_region_held3 (fun w' => (w'.cell? ⟨w.heap.size, 0, none⟩ = some (.int .i64 made) ∧ w'.cell? ⟨w.heap.size, 1, none⟩ = some (.int .i64 life) ∧ w'.cell? ⟨w.heap.size, 2, none⟩ = some (.int .u32 tag) ∧ w'.cell? ⟨w.heap.size, 3, none⟩ = some (.int .u32 peer) ∧ w'.cell? ⟨w.heap.size, 4, none⟩ = some (.int .u32 fst) ∧ w'.cell? ⟨w.heap.size, 5, none⟩ = some (.int .u32 pf) ∧ w'.cell? ⟨w.heap.size, 6, none⟩ = some (.int .u32 room) ∧ w'.cell? ⟨w.heap.size, 7, none⟩ = some (.int .u16 out) ∧ w'.cell? ⟨w.heap.size, 8, none⟩ = some (.int .u16 inn) ∧ w'.cell? ⟨w.heap.size, 9, none⟩ = some (.int .u32 t0) ∧ w'.cell? ⟨w.heap.size, 10, none⟩ = some (.int .u32 t1)) ∧ (w'.cell? ⟨w3.heap.size, 0, none⟩ = some (.int .i64 made) ∧ w'.cell? ⟨w3.heap.size, 1, none⟩ = some (.int .i64 life) ∧ w'.cell? ⟨w3.heap.size, 2, none⟩ = some (.int .u32 tag) ∧ w'.cell? ⟨w3.heap.size, 3, none⟩ = some (.int .u32 peer) ∧ w'.cell? ⟨w3.heap.size, 4, none⟩ = some (.int .u32 fst) ∧ w'.cell? ⟨w3.heap.size, 5, none⟩ = some (.int .u32 pf) ∧ w'.cell? ⟨w3.heap.size, 6, none⟩ = some (.int .u32 room) ∧ w'.cell? ⟨w3.heap.size, 7, none⟩ = some (.int .u16 out) ∧ w'.cell? ⟨w3.heap.size, 8, none⟩ = some (.int .u16 inn) ∧ w'.cell? ⟨w3.heap.size, 9, none⟩ = some (.int .u32 t0) ∧ w'.cell? ⟨w3.heap.size, 10, none⟩ = some (.int .u32 t1)))
    (first | exact two_all c6 t6 | exact two_all c7 t7 | exact two_all c8 t8)
    (first
    | (go_at_call 12; refine (KT.out _).mono ?_; rintro e w7 ⟨rfl, hb7⟩
       have c7 := CB.step (CB.drew c6) hb7
       have t7 := CB.step (CB.drew t6) hb7
       have H7 := keep (H6.out.drew.trans (hb7.mono H6.out.drew.size))
       clear hb7 H6 c6 t6 two6)
    | (go_at_call 18; refine (KA_.out _).mono ?_; rintro e w8 ⟨rfl, hb8⟩
       have c8 := CB.step c7 hb8
       have t8 := CB.step t7 hb8
       have H8 := keep (H7.out.trans (hb8.mono H7.out.size))
       clear hb8 H7 c7 t7))
  all_goals (try go_wp2_with fail)
  go_ret
  exact ⟨rfl, H8.out⟩

set_option maxRecDepth 100000 in
set_option maxHeartbeats 1000000 in
theorem back_fresh (A : Option Addr) (c : Nat) (ks : List UInt8) (s : CS) (hs : s.ok) (hm : s.may) (now : Int) (h1 : s.made ≤ now) (h2 : now ≤ s.made + s.life) (w : World) (hk : BS w A 16 c ks) :
    Calls Try.prog 5 #[.slice A 16 c, .agg s.cells, .int .i64 now] w fun e w' => e = .returned (.bool true) ∧ Below w.heap.size w w' := by
  have HK := keep hk
  have hkl : ks.length = 16 := hk.len.symm
  have C0 := keep (CB.new w s)
  have l1 := keep (below_lay w (.cells s.cells 27))
  have KT := keep (theirs_any s hs)
  have KA_ := keep (alike_same s hs)
  have HD := keep (dec_enc ks s hkl hs hm)
  have HC := chk_enc ks s hkl hs hm now
  obtain ⟨bs, hbs⟩ : ∃ bs, enc ks s = bs := ⟨_, rfl⟩
  rw [hbs] at HD HC
  replace hbs := keep hbs
  obtain ⟨made, life, tag, peer, fst, pf, room, out, inn, t0, t1⟩ := s
  obtain ⟨⟨m0, m1⟩, q0', q1'⟩ := id hm
  dsimp only at m0 m1 q0' q1' HC h1 h2
  dsimp only [CS.cells, CS.ref] at l1 KT KA_ ⊢
  have g1 : decide (now ≤ made + life) = true := decide_eq_true (by omega)
  clear hk hkl
  rw [if_neg (by omega)] at HC
  replace HC := keep HC
  go_enter Try.func5, Try.ntmps5
  go_wp2_with (first
    | (go_at_call 9; refine (awake_any _).mono ?_; rintro e w1 ⟨rfl, hb1⟩
       have C1 := C0.out.step hb1
       obtain ⟨q0, q1, q2, q3, q4, q5, q6, q7, q8, q9, q10⟩ := C1.all
       have L1 := up l1.out hb1
       have K1 := encode_some A c ks ⟨made, life, tag, peer, fst, pf, room, out, inn, t0, t1⟩ hs hm w1 (HK.out.step L1)
       have H1 := keep (And.intro C1 L1)
       replace K1 := keep K1
       clear hb1 C0 C1 L1)
    | (go_at_call 10; refine K1.out.mono ?_; rintro e w2 ⟨A2, n2', c2, rfl, s2, hb2, _⟩
       obtain rfl : n2' = 60 := by rw [s2.len, enc_length]
       have L2 := H1.out.2.trans (hb2.mono H1.out.2.size)
       rw [hbs.out] at s2
       have K2 := decode_any A 16 c ks A2 60 c2 bs w2 (HK.out.step L2) s2
       rw [HD.out] at K2
       dsimp only [DecPost, CS.cells] at K2
       have H2 := keep (And.intro (H1.out.1.step hb2) (And.intro L2 s2))
       replace K2 := keep K2
       clear hb2 L2 s2 K1 H1 q0 q1 q2 q3 q4 q5 q6 q7 q8 q9 q10)
    | (go_at_call 14; refine K2.out.mono ?_; rintro e w3 ⟨rfl, hb3⟩
       have l3 := below_lay w3 (.cells #[.int .i64 made, .int .i64 life, .int .u32 tag, .int .u32 peer, .int .u32 fst, .int .u32 pf, .int .u32 room, .int .u16 out, .int .u16 inn, .int .u32 t0, .int .u32 t1] 27)
       have hb4 := up hb3 l3
       have L4 := H2.out.2.1.trans (hb4.mono H2.out.2.1.size)
       have K3 := check_any A 16 c ks A2 60 c2 bs now _ (HK.out.step L4) (H2.out.2.2.step hb4)
       rw [HC.out] at K3
       dsimp only [DecPost, CS.cells, CS.zero] at K3
       have T4 := CB.new w3 ⟨made, life, tag, peer, fst, pf, room, out, inn, t0, t1⟩
       have H4 := keep (And.intro (H2.out.1.step hb4) (And.intro T4 L4))
       replace K3 := keep K3
       clear hb3 l3 hb4 L4 T4 K2 H2)
    | (go_at_call 16; refine K3.out.mono ?_; rintro e w5 ⟨rfl, hb5⟩
       have l5 := below_lay w5 (.cells #[.int .i64 made, .int .i64 life, .int .u32 tag, .int .u32 peer, .int .u32 fst, .int .u32 pf, .int .u32 room, .int .u16 out, .int .u16 inn, .int .u32 t0, .int .u32 t1] 27)
       have hb6 := up hb5 l5
       have L6 := H4.out.2.2.trans (hb6.mono H4.out.2.2.size)
       have C6 := H4.out.1.step hb6
       have T6 := H4.out.2.1.step hb6
       obtain ⟨q0, q1, _⟩ := C6.all
       have H6 := keep L6
       replace C6 := keep C6
       replace T6 := keep T6
       clear hb5 l5 hb6 L6 K3 H4))
  obtain ⟨w6, hw6⟩ : ∃ w6, w5.alloc (.cells #[.int .i64 made, .int .i64 life, .int .u32 tag, .int .u32 peer, .int .u32 fst, .int .u32 pf, .int .u32 room, .int .u16 out, .int .u16 inn, .int .u32 t0, .int .u32 t1] 27) = w6 := ⟨_, rfl⟩
  rw [hw6] at H6 C6 T6 ⊢
  clear hw6 q0 q1
  have c6 := C6.out
  have t6 := T6.out
  have two6 := two_all c6 t6
  dsimp only at two6
  clear C6 T6
  refine wp_region_held_drew (S := fun w' => (w'.cell? ⟨w.heap.size, 0, none⟩ = some (.int .i64 made) ∧ w'.cell? ⟨w.heap.size, 1, none⟩ = some (.int .i64 life) ∧ w'.cell? ⟨w.heap.size, 2, none⟩ = some (.int .u32 tag) ∧ w'.cell? ⟨w.heap.size, 3, none⟩ = some (.int .u32 peer) ∧ w'.cell? ⟨w.heap.size, 4, none⟩ = some (.int .u32 fst) ∧ w'.cell? ⟨w.heap.size, 5, none⟩ = some (.int .u32 pf) ∧ w'.cell? ⟨w.heap.size, 6, none⟩ = some (.int .u32 room) ∧ w'.cell? ⟨w.heap.size, 7, none⟩ = some (.int .u16 out) ∧ w'.cell? ⟨w.heap.size, 8, none⟩ = some (.int .u16 inn) ∧ w'.cell? ⟨w.heap.size, 9, none⟩ = some (.int .u32 t0) ∧ w'.cell? ⟨w.heap.size, 10, none⟩ = some (.int .u32 t1)) ∧ (w'.cell? ⟨w3.heap.size, 0, none⟩ = some (.int .i64 made) ∧ w'.cell? ⟨w3.heap.size, 1, none⟩ = some (.int .i64 life) ∧ w'.cell? ⟨w3.heap.size, 2, none⟩ = some (.int .u32 tag) ∧ w'.cell? ⟨w3.heap.size, 3, none⟩ = some (.int .u32 peer) ∧ w'.cell? ⟨w3.heap.size, 4, none⟩ = some (.int .u32 fst) ∧ w'.cell? ⟨w3.heap.size, 5, none⟩ = some (.int .u32 pf) ∧ w'.cell? ⟨w3.heap.size, 6, none⟩ = some (.int .u32 room) ∧ w'.cell? ⟨w3.heap.size, 7, none⟩ = some (.int .u16 out) ∧ w'.cell? ⟨w3.heap.size, 8, none⟩ = some (.int .u16 inn) ∧ w'.cell? ⟨w3.heap.size, 9, none⟩ = some (.int .u32 t0) ∧ w'.cell? ⟨w3.heap.size, 10, none⟩ = some (.int .u32 t1))) (by kernel_rfl) (two_all c6 t6) fun hHeld => ?_
  refine wpAnyH_take (i := 0) (v := ?v0z) rfl (by kernel_rfl) (by kernel_rfl) (by kernel_rfl) (fun _ _ _ h => h) (Or.inl ⟨by rfl, ?y0z⟩) (by assumption) ?_
  case y0z =>
    intro w hSw
    (try dsimp only at hSw)
    go_simp
    (try with_reducible rfl)
  (try simp only [Act.put, List.setIfInBounds_toArray, List.set_cons_zero, List.set_cons_succ, List.getElem_toArray, List.getElem_cons_zero])
  refine wpAnyH_take (i := 1) (v := ?v1z) rfl (by kernel_rfl) (by kernel_rfl) (by kernel_rfl) (fun _ _ _ h => h) (Or.inl ⟨by rfl, ?y1z⟩) (by assumption) ?_
  case y1z =>
    intro w hSw
    (try dsimp only at hSw)
    go_simp
    (try with_reducible rfl)
  (try simp only [Act.put, List.setIfInBounds_toArray, List.set_cons_zero, List.set_cons_succ, List.getElem_toArray, List.getElem_cons_zero, List.getElem_cons_succ])
  refine wpAnyH_take (i := 2) (v := ?v2z) rfl (by kernel_rfl) (by kernel_rfl) (by kernel_rfl) (fun _ _ _ h => h) (Or.inl ⟨by rfl, ?y2z⟩) (by assumption) ?_
  case y2z =>
    intro w hSw
    (try dsimp only at hSw)
    go_simp
    (try with_reducible rfl)
  (try simp only [Act.put, List.setIfInBounds_toArray, List.set_cons_zero, List.set_cons_succ, List.getElem_toArray, List.getElem_cons_zero, List.getElem_cons_succ])
  refine wpAnyH_take (i := 3) (v := ?v3z) rfl (by kernel_rfl) (by kernel_rfl) (by kernel_rfl) (fun _ _ _ h => h) (Or.inl ⟨by rfl, ?y3z⟩) (by assumption) ?_
  case y3z =>
    intro w hSw
    (try dsimp only at hSw)
    go_simp
    (try with_reducible rfl)
  (try simp only [Act.put, List.setIfInBounds_toArray, List.set_cons_zero, List.set_cons_succ, List.getElem_toArray, List.getElem_cons_zero, List.getElem_cons_succ])
  refine wpAnyH_take (i := 4) (v := ?v4z) rfl (by kernel_rfl) (by kernel_rfl) (by kernel_rfl) (fun _ _ _ h => h) (Or.inl ⟨by rfl, ?y4z⟩) (by assumption) ?_
  case y4z =>
    intro w hSw
    (try dsimp only at hSw)
    go_simp
    (try with_reducible rfl)
  (try simp only [Act.put, List.setIfInBounds_toArray, List.set_cons_zero, List.set_cons_succ, List.getElem_toArray, List.getElem_cons_zero, List.getElem_cons_succ])
  refine wpAnyH_take (i := 5) (v := ?v5z) rfl (by kernel_rfl) (by kernel_rfl) (by kernel_rfl) (fun _ _ _ h => h) (Or.inl ⟨by rfl, ?y5z⟩) (by assumption) ?_
  case y5z =>
    intro w hSw
    (try dsimp only at hSw)
    go_simp
    (try with_reducible rfl)
  (try simp only [Act.put, List.setIfInBounds_toArray, List.set_cons_zero, List.set_cons_succ, List.getElem_toArray, List.getElem_cons_zero, List.getElem_cons_succ])
  refine wpAnyH_take (i := 6) (v := ?v6z) rfl (by kernel_rfl) (by kernel_rfl) (by kernel_rfl) (fun _ _ _ h => h) (Or.inl ⟨by rfl, ?y6z⟩) (by assumption) ?_
  case y6z =>
    intro w hSw
    (try dsimp only at hSw)
    go_simp
    (try with_reducible rfl)
  (try simp only [Act.put, List.setIfInBounds_toArray, List.set_cons_zero, List.set_cons_succ, List.getElem_toArray, List.getElem_cons_zero, List.getElem_cons_succ])
  refine wpAnyH_take (i := 7) (v := ?v7z) rfl (by kernel_rfl) (by kernel_rfl) (by kernel_rfl) (fun _ _ _ h => h) (Or.inl ⟨by rfl, ?y7z⟩) (by assumption) ?_
  case y7z =>
    intro w hSw
    (try dsimp only at hSw)
    go_simp
    (try with_reducible rfl)
  (try simp only [Act.put, List.setIfInBounds_toArray, List.set_cons_zero, List.set_cons_succ, List.getElem_toArray, List.getElem_cons_zero, List.getElem_cons_succ])
  refine wpAnyH_take (i := 8) (v := ?v8z) rfl (by kernel_rfl) (by kernel_rfl) (by kernel_rfl) (fun _ _ _ h => h) (Or.inl ⟨by rfl, ?y8z⟩) (by assumption) ?_
  case y8z =>
    intro w hSw
    (try dsimp only at hSw)
    go_simp
    (try with_reducible rfl)
  (try simp only [Act.put, List.setIfInBounds_toArray, List.set_cons_zero, List.set_cons_succ, List.getElem_toArray, List.getElem_cons_zero, List.getElem_cons_succ])
  refine wpAnyH_take (i := 9) (v := ?v9z) rfl (by kernel_rfl) (by kernel_rfl) (by kernel_rfl) (fun _ _ _ h => h) (Or.inl ⟨by rfl, ?y9z⟩) (by assumption) ?_
  case y9z =>
    intro w hSw
    (try dsimp only at hSw)
    go_simp
    (try with_reducible rfl)
  (try simp only [Act.put, List.setIfInBounds_toArray, List.set_cons_zero, List.set_cons_succ, List.getElem_toArray, List.getElem_cons_zero, List.getElem_cons_succ])
  refine wpAnyH_take (i := 10) (v := ?v10z) rfl (by kernel_rfl) (by kernel_rfl) (by kernel_rfl) (fun _ _ _ h => h) (Or.inl ⟨by rfl, ?y10z⟩) (by assumption) ?_
  case y10z =>
    intro w hSw
    (try dsimp only at hSw)
    go_simp
    (try with_reducible rfl)
  (try simp only [Act.put, List.setIfInBounds_toArray, List.set_cons_zero, List.set_cons_succ, List.getElem_toArray, List.getElem_cons_zero, List.getElem_cons_succ])
  refine wpAnyH_take (i := 11) (v := ?v11z) rfl (by kernel_rfl) (by kernel_rfl) (by kernel_rfl) (fun _ _ _ h => h) (Or.inl ⟨by rfl, ?y11z⟩) (by assumption) ?_
  case y11z =>
    intro w hSw
    (try dsimp only at hSw)
    go_simp
    (try with_reducible rfl)
  (try simp only [Act.put, List.setIfInBounds_toArray, List.set_cons_zero, List.set_cons_succ, List.getElem_toArray, List.getElem_cons_zero, List.getElem_cons_succ])
  refine wpAnyH_take (i := 12) (v := ?v12z) rfl (by kernel_rfl) (by kernel_rfl) (by kernel_rfl) (fun _ _ _ h => h) (Or.inl ⟨by rfl, ?y12z⟩) (by assumption) ?_
  case y12z =>
    intro w hSw
    (try dsimp only at hSw)
    go_simp
    (try with_reducible rfl)
  (try simp only [Act.put, List.setIfInBounds_toArray, List.set_cons_zero, List.set_cons_succ, List.getElem_toArray, List.getElem_cons_zero, List.getElem_cons_succ])
  refine wpAnyH_ready (rs := [13]) (by kernel_rfl) (by simp) ?_
  refine AllReadyH.cons rfl (fun K hK => ?_) AllReadyH.nil
  go_simp
  go_at_call 12
  refine (KT.out _).mono ?_
  rintro e w7 ⟨rfl, hb7⟩
  have c7 := CB.step (CB.drew c6) hb7
  have t7 := CB.step (CB.drew t6) hb7
  have H7 := keep (H6.out.drew.trans (hb7.mono H6.out.drew.size))
  clear hb7 H6 c6 t6 two6 hHeld
  refine hK.out _ _ (two_all c7 t7) fun hHeld => ?_
  clear hK
  (try simp only [Act.put, List.setIfInBounds_toArray, List.set_cons_zero, List.set_cons_succ, List.getElem_toArray, List.getElem_cons_zero, List.getElem_cons_succ])
  refine wpAnyH_ready (rs := [14]) (by kernel_rfl) (by simp) ?_
  refine AllReadyH.cons rfl (fun K hK => ?_) AllReadyH.nil
  go_simp
  go_at_call 18
  refine (KA_.out _).mono ?_
  rintro e w8 ⟨rfl, hb8⟩
  have c8 := CB.step c7 hb8
  have t8 := CB.step t7 hb8
  have H8 := keep (H7.out.trans (hb8.mono H7.out.size))
  clear hb8 H7 c7 t7 hHeld
  refine hK.out _ _ (two_all c8 t8) fun hHeld => ?_
  clear hK
  (try simp only [Act.put, List.setIfInBounds_toArray, List.set_cons_zero, List.set_cons_succ, List.getElem_toArray, List.getElem_cons_zero, List.getElem_cons_succ])
  refine wpAnyH_take (i := 15) (v := ?v15z) rfl (by kernel_rfl) (by kernel_rfl) (by kernel_rfl) (fun _ _ _ h => h) (Or.inl ⟨by rfl, ?y15z⟩) (by assumption) ?_
  case y15z =>
    intro w hSw
    (try dsimp only at hSw)
    go_simp
    (try with_reducible rfl)
  (try simp only [Act.put, List.setIfInBounds_toArray, List.set_cons_zero, List.set_cons_succ, List.getElem_toArray, List.getElem_cons_zero, List.getElem_cons_succ])
  refine wpAnyH_take (i := 16) (v := ?v16z) rfl (by kernel_rfl) (by kernel_rfl) (by kernel_rfl) (fun _ _ _ h => h) (Or.inl ⟨by rfl, ?y16z⟩) (by assumption) ?_
  case y16z =>
    intro w hSw
    (try dsimp only at hSw)
    go_simp
    (try with_reducible rfl)
  (try simp only [Act.put, List.setIfInBounds_toArray, List.set_cons_zero, List.set_cons_succ, List.getElem_toArray, List.getElem_cons_zero, List.getElem_cons_succ])
  refine wpAnyH_take (i := 17) (v := ?v17z) rfl (by kernel_rfl) (by kernel_rfl) (by kernel_rfl) (fun _ _ _ h => h) (Or.inl ⟨by rfl, ?y17z⟩) (by assumption) ?_
  case y17z =>
    intro w hSw
    (try dsimp only at hSw)
    go_simp
    (try with_reducible rfl)
  (try simp only [Act.put, List.setIfInBounds_toArray, List.set_cons_zero, List.set_cons_succ, List.getElem_toArray, List.getElem_cons_zero, List.getElem_cons_succ])
  refine wpAnyH_take (i := 18) (v := ?v18z) rfl (by kernel_rfl) (by kernel_rfl) (by kernel_rfl) (fun _ _ _ h => h) (Or.inl ⟨by rfl, ?y18z⟩) (by assumption) ?_
  case y18z =>
    intro w hSw
    (try dsimp only at hSw)
    go_simp
    (try with_reducible rfl)
  (try simp only [Act.put, List.setIfInBounds_toArray, List.set_cons_zero, List.set_cons_succ, List.getElem_toArray, List.getElem_cons_zero, List.getElem_cons_succ])
  refine wpAnyH_take (i := 19) (v := ?v19z) rfl (by kernel_rfl) (by kernel_rfl) (by kernel_rfl) (fun _ _ _ h => h) (Or.inl ⟨by rfl, ?y19z⟩) (by assumption) ?_
  case y19z =>
    intro w hSw
    (try dsimp only at hSw)
    go_simp
    (try with_reducible rfl)
  (try simp only [Act.put, List.setIfInBounds_toArray, List.set_cons_zero, List.set_cons_succ, List.getElem_toArray, List.getElem_cons_zero, List.getElem_cons_succ])
  refine wpAnyH_take (i := 20) (v := ?v20z) rfl (by kernel_rfl) (by kernel_rfl) (by kernel_rfl) (fun _ _ _ h => h) (Or.inl ⟨by rfl, ?y20z⟩) (by assumption) ?_
  case y20z =>
    intro w hSw
    (try dsimp only at hSw)
    go_simp
    (try with_reducible rfl)
  (try simp only [Act.put, List.setIfInBounds_toArray, List.set_cons_zero, List.set_cons_succ, List.getElem_toArray, List.getElem_cons_zero, List.getElem_cons_succ])
  refine wpAnyH_take (i := 21) (v := ?v21z) rfl (by kernel_rfl) (by kernel_rfl) (by kernel_rfl) (fun _ _ _ h => h) (Or.inl ⟨by rfl, ?y21z⟩) (by assumption) ?_
  case y21z =>
    intro w hSw
    (try dsimp only at hSw)
    go_simp
    (try with_reducible rfl)
  (try simp only [Act.put, List.setIfInBounds_toArray, List.set_cons_zero, List.set_cons_succ, List.getElem_toArray, List.getElem_cons_zero, List.getElem_cons_succ])
  refine wpAnyH_take (i := 22) (v := ?v22z) rfl (by kernel_rfl) (by kernel_rfl) (by kernel_rfl) (fun _ _ _ h => h) (Or.inl ⟨by rfl, ?y22z⟩) (by assumption) ?_
  case y22z =>
    intro w hSw
    (try dsimp only at hSw)
    go_simp
    (try with_reducible rfl)
  (try simp only [Act.put, List.setIfInBounds_toArray, List.set_cons_zero, List.set_cons_succ, List.getElem_toArray, List.getElem_cons_zero, List.getElem_cons_succ])
  refine wpAnyH_take (i := 23) (v := ?v23z) rfl (by kernel_rfl) (by kernel_rfl) (by kernel_rfl) (fun _ _ _ h => h) (Or.inl ⟨by rfl, ?y23z⟩) (by assumption) ?_
  case y23z =>
    intro w hSw
    (try dsimp only at hSw)
    go_simp
    (try with_reducible rfl)
  (try simp only [Act.put, List.setIfInBounds_toArray, List.set_cons_zero, List.set_cons_succ, List.getElem_toArray, List.getElem_cons_zero, List.getElem_cons_succ])
  refine wpAnyH_take (i := 24) (v := ?v24z) rfl (by kernel_rfl) (by kernel_rfl) (by kernel_rfl) (fun _ _ _ h => h) (Or.inl ⟨by rfl, ?y24z⟩) (by assumption) ?_
  case y24z =>
    intro w hSw
    (try dsimp only at hSw)
    go_simp
    (try with_reducible rfl)
  (try simp only [Act.put, List.setIfInBounds_toArray, List.set_cons_zero, List.set_cons_succ, List.getElem_toArray, List.getElem_cons_zero, List.getElem_cons_succ])
  refine wpAnyH_take (i := 25) (v := undef) rfl (by kernel_rfl) (by kernel_rfl) (by kernel_rfl) (fun _ _ _ h => h) (Or.inr ⟨by rfl, rfl⟩) (by assumption) ?_
  (try simp only [Act.put, List.setIfInBounds_toArray, List.set_cons_zero, List.set_cons_succ, List.getElem_toArray, List.getElem_cons_zero, List.getElem_cons_succ])
  refine wpAnyH_take (i := 26) (v := undef) rfl (by kernel_rfl) (by kernel_rfl) (by kernel_rfl) (fun _ _ _ h => h) (Or.inr ⟨by rfl, rfl⟩) (by assumption) ?_
  (try simp only [Act.put, List.setIfInBounds_toArray, List.set_cons_zero, List.set_cons_succ, List.getElem_toArray, List.getElem_cons_zero, List.getElem_cons_succ])
  refine wpAnyH_take (i := 27) (v := ?v27z) rfl (by kernel_rfl) (by kernel_rfl) (by kernel_rfl) (fun _ _ _ h => h) (Or.inl ⟨by rfl, ?y27z⟩) (by assumption) ?_
  case y27z =>
    intro w hSw
    (try dsimp only at hSw)
    go_simp
    (try with_reducible rfl)
  (try simp only [Act.put, List.setIfInBounds_toArray, List.set_cons_zero, List.set_cons_succ, List.getElem_toArray, List.getElem_cons_zero, List.getElem_cons_succ])
  refine wpAnyH_take (i := 28) (v := ?v28z) rfl (by kernel_rfl) (by kernel_rfl) (by kernel_rfl) (fun _ _ _ h => h) (Or.inl ⟨by rfl, ?y28z⟩) (by assumption) ?_
  case y28z =>
    intro w hSw
    (try dsimp only at hSw)
    go_simp
    (try with_reducible rfl)
  (try simp only [Act.put, List.setIfInBounds_toArray, List.set_cons_zero, List.set_cons_succ, List.getElem_toArray, List.getElem_cons_zero, List.getElem_cons_succ])
  refine wpAnyH_take (i := 29) (v := ?v29z) rfl (by kernel_rfl) (by kernel_rfl) (by kernel_rfl) (fun _ _ _ h => h) (Or.inl ⟨by rfl, ?y29z⟩) (by assumption) ?_
  case y29z =>
    intro w hSw
    (try dsimp only at hSw)
    go_simp
    (try with_reducible rfl)
  (try simp only [Act.put, List.setIfInBounds_toArray, List.set_cons_zero, List.set_cons_succ, List.getElem_toArray, List.getElem_cons_zero, List.getElem_cons_succ])
  refine wpAnyH_done (by kernel_rfl) ?_ _
  go_wp2_with fail
  go_ret
  exact ⟨rfl, H8.out⟩

theorem cookieBack_walk (A : Option Addr) (n c : Nat) (ks : List UInt8) (s : CS) (now : Int) (w : World) (hk : BS w A n c ks) (hs : s.ok) (hw : (Lit.int .i64 now).wf = true) :
    Calls Try.prog 5 #[.slice A n c, .agg s.cells, .int .i64 now] w fun e w' => e = .returned (.bool true) ∧ Below w.heap.size w w' := by
  by_cases h : n = 16 ∧ s.may
  · obtain ⟨rfl, hm⟩ := h
    rcases Int.lt_or_le now s.made with h1 | h1
    · exact back_early A c ks s hs hm now h1 w hk
    · rcases Int.lt_or_le (s.made + s.life) now with h2 | h2
      · exact back_late A c ks s hs hm now h1 h2 w hk
      · exact back_fresh A c ks s hs hm now h1 h2 w hk
  · exact back_none A n c s (by by_cases h1 : n = 16 <;> simp_all) now w
end Go.Proofs.Ytbkcjpimjipnfaa
