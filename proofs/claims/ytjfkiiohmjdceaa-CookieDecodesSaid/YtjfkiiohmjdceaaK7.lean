/- The law package's own small functions: theirs, alike, key, awake. -/
import Derived.Test.YtjfkiiohmjdceaaK6
import Derived.Test.YtjfkiiohmjdceaaSipWk
import Derived.Deep.QuietTactic
import Derived.BigQuiet
namespace Go.Proofs.Ytjfkiiohmjdceaa
open Go.RowKit
set_option linter.unusedVariables false

/-- A state as the document's list of numbers. -/
def rl (s : CS) : List Int := [s.made, s.life, s.tag, s.peer, s.fst, s.pf, s.room, s.t0, s.t1, s.out, s.inn]
abbrev CS.ref (s : CS) : Array Value := #[.int .i64 s.made, .int .i64 s.life, .int .i64 s.tag, .int .i64 s.peer, .int .i64 s.fst, .int .i64 s.pf, .int .i64 s.room, .int .i64 s.t0, .int .i64 s.t1, .int .i64 s.out, .int .i64 s.inn]
theorem Ref_size : (Try.prog.info? 33).map (·.size) = some 11 := by kernel_rfl
/-- A block of the document's eleven numbers. -/
def RB (w : World) (g : Nat) (s : CS) : Prop := w.heap[g]? = some (.cells s.ref 33 (0, 0))
theorem RB.lt {w : World} {g : Nat} {s : CS} (h : RB w g s) : g < w.heap.size := (Array.getElem?_eq_some_iff.1 h).1
theorem RB.step {w w' : World} {g : Nat} {s : CS} (h : RB w g s) (hb : Below w.heap.size w w') : RB w' g s := (hb.block g h.lt).trans h
theorem ref_get (s : CS) (j : Nat) (hj : j < 11) : ∃ x, (rl s)[j]? = some x ∧ s.ref[j]? = some (.int .i64 x) := by
  rcases j with _ | _ | _ | _ | _ | _ | _ | _ | _ | _ | _ | j <;> first | exact ⟨_, rfl, rfl⟩ | omega
theorem RB.cell {w : World} {g : Nat} {s : CS} (h : RB w g s) (j : Nat) (x : Int) (hx : s.ref[j]? = some (.int .i64 x)) : w.cell? ⟨g, j, none⟩ = some (.int .i64 x) := by rw [cell_of_row _ _ _ _ _ _ h]; exact hx
theorem RB.all {w : World} {g : Nat} {s : CS} (h : RB w g s) :
    w.cell? ⟨g, 0, none⟩ = some (.int .i64 s.made) ∧ w.cell? ⟨g, 1, none⟩ = some (.int .i64 s.life) ∧ w.cell? ⟨g, 2, none⟩ = some (.int .i64 s.tag) ∧ w.cell? ⟨g, 3, none⟩ = some (.int .i64 s.peer) ∧
    w.cell? ⟨g, 4, none⟩ = some (.int .i64 s.fst) ∧ w.cell? ⟨g, 5, none⟩ = some (.int .i64 s.pf) ∧ w.cell? ⟨g, 6, none⟩ = some (.int .i64 s.room) ∧ w.cell? ⟨g, 7, none⟩ = some (.int .i64 s.t0) ∧
    w.cell? ⟨g, 8, none⟩ = some (.int .i64 s.t1) ∧ w.cell? ⟨g, 9, none⟩ = some (.int .i64 s.out) ∧ w.cell? ⟨g, 10, none⟩ = some (.int .i64 s.inn) :=
  ⟨h.cell 0 _ rfl, h.cell 1 _ rfl, h.cell 2 _ rfl, h.cell 3 _ rfl, h.cell 4 _ rfl, h.cell 5 _ rfl, h.cell 6 _ rfl, h.cell 7 _ rfl, h.cell 8 _ rfl, h.cell 9 _ rfl, h.cell 10 _ rfl⟩

theorem ret_ref {fn : Func} {p : Tmp} (hr : fn.results = #[.cell p 33]) (tmps : Array Value) (w : World) (g : Nat) (s : CS) (hp : tmps.getD p undef = .pointer (some ⟨g, 0, none⟩)) (h : RB w g s) :
    (results fn tmps).run Try.prog w = .ok (.agg s.ref) w :=
  results_cell_row hr tmps w g _ s.ref (0, 0) _ hp h Try.underlying33 rfl Ref_size
theorem RB.new (w : World) (s : CS) : RB (w.alloc (.cells s.ref 33)) w.heap.size s := heap_alloc_new w _
set_option maxRecDepth 100000 in
theorem theirs_any (s : CS) (hs : s.ok) (w : World) :
    Calls Try.prog 18 #[.agg s.cells] w fun e w' => e = .returned (.agg s.ref) ∧ Below w.heap.size w w' := by
  obtain ⟨made, life, tag, peer, fst, pf, room, out, inn, t0, t1⟩ := s
  have h2 := hs.tag
  have h3 := hs.peer
  have h4 := hs.fst
  have h5 := hs.pf
  have h6 := hs.room
  have h7 := hs.out
  have h8 := hs.inn
  have h9 := hs.t0
  have h10 := hs.t1
  dsimp only at h2 h3 h4 h5 h6 h7 h8 h9 h10
  dsimp only [CS.cells, CS.ref]
  clear hs
  go_enter Try.func18, Try.ntmps18
  go_wp2_with fail
  (try simp only [Exit.inBlock, Exit.then])
  refine bodyPost_ret (ret_ref rfl _ _ (w.heap.size + 1) ⟨made, life, tag, peer, fst, pf, room, out, inn, t0, t1⟩ rfl ?_) rfl ⟨rfl, up (below_lay w _) (below_lay _ _)⟩
  have := RB.new (w.alloc (.cells (CS.cells ⟨made, life, tag, peer, fst, pf, room, out, inn, t0, t1⟩) 28)) ⟨made, life, tag, peer, fst, pf, room, out, inn, t0, t1⟩
  rw [World.size_alloc] at this
  exact this

set_option maxRecDepth 100000 in
theorem key_any (w : World) :
    Calls Try.prog 11 #[] w fun e w' => ∃ A c, e = .returned (.slice A 16 c) ∧ BS w' A 16 c (cnt 16) ∧ Below w.heap.size w w' := by
  obtain ⟨i0, hi0, hz0, hz1, hz2⟩ := info_parts u8_info
  go_enter Try.func11, Try.ntmps11
  go_wp2_with fail
  go_loopw [1, 2] (fun o i wr => ∃ j : Nat, j ≤ 16 ∧ i = .int .i64 j ∧ (∃ A' c', o = .slice A' j c' ∧ Hid (wr.ownsRow w.heap.size 5 1 (.slice A' j c') j (bc (cnt j)))) ∧ Hid (Below w.heap.size w wr)) (fun _ i _ => 16 - (intOf i).toNat)
  case atStart => exact ⟨0, Nat.zero_le _, rfl, ⟨none, 0, rfl, World.ownsRow_nil _ _ _ _⟩, Below.refl _ _⟩
  case round =>
    obtain ⟨j, hj, rfl, ⟨A', c', rfl, HO⟩, hbw⟩ := hrel
    by_cases hlt : j < 16
    · have hsz := hbw.out.size
      have hw8 : IntKind.u8.wrap (j : Int) = (j : Int) := by rw [wrap_u8]; omega
      go_wp2_with (at_builtin; refine wpList_append_lies _ rfl _ _ _ rfl w.heap.size 5 i0 _ 1 1 Try.underlying22 hi0 hz0 hz1 hz2 rfl (by omega) _ j (bc (cnt j)) (by rfl) ((HO.out.alloc _)) ⟨wr.heap.size, 0, none⟩ 1 1 [.int .u8 (j : Int)] (by rfl) (by rfl) (World.news_of_block (cs := #[.int .u8 (j : Int)]) (t := 5) (fr := (0, 0)) (heap_alloc_new wr _)) (by simp [Value.oneCell']) (by omega) (by unfold maxLen; omega) (by omega) (by simp; omega) (wr.heap.size + 1) (by simp) ?_
                   intro gg cap w1 hown1 hgrow hat hlt1
                   have hgb : Below w.heap.size w w1 := ((hbw.out.alloc hsz _)).grown hgrow (by simp; omega) (fun k hk => (HO.out.lt k hk).1)
                   replace hown1 := keep hown1
                   replace hgb := keep hgb
                   clear hgrow hat hlt1)
      go_roundw
      case rel =>
        refine ⟨j + 1, by omega, by go_num, ⟨_, cap, rfl, ?_⟩, hgb⟩
        have h1 := hown1.out
        have e : bc (cnt j) ++ [.int .u8 (j : Int)] = bc (cnt (j + 1)) := by
          rw [cnt_snoc, bc_append]
          have : ((UInt8.ofNat j).toNat : Int) = j := by rw [UInt8.toNat_ofNat']; omega
          show bc (cnt j) ++ [.int .u8 (j : Int)] = bc (cnt j) ++ [.int .u8 ((UInt8.ofNat j).toNat : Int)]
          rw [this]
        rw [e] at h1
        exact h1
      case measure => simp [intOf]; omega
    · obtain rfl : j = 16 := by omega
      go_wp2_with fail
      go_ret
      exact ⟨A', c', rfl, BS.of_own HO.out, hbw.out⟩

theorem chk_enc (key : List UInt8) (s : CS) (hk : key.length = 16) (h : s.ok) (hm : s.may) (now : Int) : chk key (enc key s) now = if now < s.made ∨ s.made + s.life < now then (.zero, 7) else (s, 0) := by
  unfold chk
  rw [dec_enc key s hk h hm]
  simp

/-- A state is alike to its own numbers. -/
theorem alike_same (s : CS) (hs : s.ok) (w : World) :
    Calls Try.prog 9 #[.agg s.cells, .agg s.ref] w fun e w' => e = .returned (.bool true) ∧ Below w.heap.size w w' := by
  have l1 := below_lay w (.cells s.cells 28)
  have l2 := below_lay (w.alloc (.cells s.cells 28)) (.cells s.ref 33)
  have B0 := RB.new (w.alloc (.cells s.cells 28)) s
  rw [World.size_alloc] at B0
  have K1 := keep (theirs_any s hs ((w.alloc (.cells s.cells 28)).alloc (.cells s.ref 33)))
  have HB := keep (And.intro B0 (up l1 l2))
  obtain ⟨S, hS⟩ : ∃ S, S = s := ⟨_, rfl⟩
  have HG : Hid (∀ j, j < 11 → ∃ x, s.ref[j]? = some (.int .i64 x)) := fun j hj => by
    obtain ⟨x, _, hx⟩ := ref_get s j hj
    exact ⟨x, hx⟩
  clear l1 l2 B0 hs
  obtain ⟨made, life, tag, peer, fst, pf, room, out, inn, t0, t1⟩ := s
  dsimp only [CS.cells, CS.ref] at K1 ⊢
  go_enter Try.func9, Try.ntmps9
  go_wp2_with (go_at_call 18; refine K1.out.mono ?_; rintro e w1 ⟨rfl, hb1⟩; have HB1 := keep (And.intro (HB.out.1.step hb1) (HB.out.2.trans (hb1.mono HB.out.2.size))); clear hb1 K1 HB)
  have X1 := RB.new w1 ⟨made, life, tag, peer, fst, pf, room, out, inn, t0, t1⟩
  have HX := keep (And.intro X1 (And.intro (HB1.out.1.step (below_lay w1 (.cells (CS.ref ⟨made, life, tag, peer, fst, pf, room, out, inn, t0, t1⟩) 33))) (HB1.out.2.alloc HB1.out.2.size (.cells (CS.ref ⟨made, life, tag, peer, fst, pf, room, out, inn, t0, t1⟩) 33))))
  obtain ⟨w2, hw2⟩ : ∃ w2, w1.alloc (.cells (CS.ref ⟨made, life, tag, peer, fst, pf, room, out, inn, t0, t1⟩) 33) = w2 := ⟨_, rfl⟩
  dsimp only [CS.ref] at hw2
  rw [hw2]
  dsimp only [CS.ref] at HX
  rw [hw2] at HX
  clear hw2 X1 HB1
  go_loopw [6] (fun i wr => ∃ j : Nat, j ≤ 11 ∧ i = .int .i64 j ∧ Hid (wr.heap = w2.heap ∧ Below w.heap.size w wr)) (fun i _ => 11 - (intOf i).toNat)
  case atStart => exact ⟨0, by omega, rfl, rfl, HX.out.2.2⟩
  case round =>
    obtain ⟨j, hj, rfl, hw, hbw⟩ := hrel
    by_cases hlt : j < 11
    · obtain ⟨x, hx⟩ := HG.out j hlt
      have h1 : RB wr w1.heap.size ⟨made, life, tag, peer, fst, pf, room, out, inn, t0, t1⟩ := by
        unfold RB
        rw [hw]
        exact HX.out.1
      have h2 : RB wr (w.heap.size + 1) ⟨made, life, tag, peer, fst, pf, room, out, inn, t0, t1⟩ := by
        unfold RB
        rw [hw]
        exact HX.out.2.1
      have q1 := h1.cell j x hx
      have q2 := h2.cell j x hx
      have HW := keep (And.intro hw hbw)
      replace hx := keep hx
      clear h1 h2 hw hbw
      go_wp2_with fail
      go_quiet (fail)
      go_wp2_with fail
      refine ⟨⟨j + 1, by omega, by go_num, keep ⟨HW.out.1, below_drew_more HW.out.2 nq⟩⟩, by simp [intOf]; omega⟩
    · obtain rfl : j = 11 := by omega
      go_wp2_with fail
      go_ret
      exact ⟨rfl, hbw⟩

/-- The state that awake tells. -/
abbrev aw : CS := ⟨5, 10, 7, 0, 0, 0, 0, 0, 3, 0, 0⟩
abbrev awC : Array Value := #[.int .i64 5, .int .i64 10, .int .u32 7, .int .u32 0, .int .u32 0, .int .u32 0, .int .u32 0, .int .u16 0, .int .u16 3, .int .u32 0, .int .u32 0]
theorem aw_ok : aw.ok := ⟨by decide, by decide, by decide, by decide, by decide, by decide, by decide, by decide, by decide, by decide, by decide⟩
theorem aw_may : aw.may := by decide
set_option maxRecDepth 100000 in
set_option maxHeartbeats 1000000 in
theorem awake_any (w : World) : Calls Try.prog 4 #[] w fun e w' => e = .returned (.bool true) ∧ Below w.heap.size w w' := by
  have E15 : chk (cnt 16) (enc (cnt 16) aw) 15 = (aw, 0) := by rw [chk_enc _ _ (by rw [cnt_length]) aw_ok aw_may]; rfl
  have E16 : chk (cnt 16) (enc (cnt 16) aw) 16 = (.zero, 7) := by rw [chk_enc _ _ (by rw [cnt_length]) aw_ok aw_may]; rfl
  obtain ⟨bs, hbs⟩ : ∃ bs, enc (cnt 16) aw = bs := ⟨_, rfl⟩
  rw [hbs] at E15 E16
  have HE15 := keep E15
  have HE16 := keep E16
  replace hbs := keep hbs
  have C0 := keep (show SB (w.alloc (.cells awC 28)) w.heap.size aw.cells from heap_alloc_new w _)
  have l1 := keep (below_lay w (.cells awC 28))
  clear E15 E16
  go_enter Try.func4, Try.ntmps4
  go_wp2_with fail
  go_cut [2, 3] from 9 to 15 (fun x y wx => ∃ A c, x = .slice A 60 c ∧ y = .bool true ∧ Hid (BS wx A 60 c bs ∧ Below w.heap.size w wx))
  case first =>
    go_region_with (first
      | (go_at_call 11; refine (key_any _).mono ?_; rintro e w1 ⟨A1, c1, rfl, s1, b1⟩
         have C1 := (show SB (w.alloc (.cells awC 28)).drew w.heap.size aw.cells from C0.out).step b1
         obtain ⟨⟨a0, a1, a2, a3, a4, a5, a6, a7, a8, a9, a10⟩, _⟩ := C1.all
         have H1 := keep (And.intro s1 b1)
         have KE := encode_some A1 c1 (cnt 16) aw aw_ok aw_may w1 s1
         rw [hbs.out] at KE
         replace KE := keep KE
         clear C1 s1 b1)
      | (go_at_call 10; refine KE.out.mono ?_; rintro e w2 ⟨A2, n2', c2, rfl, s2, b2, _⟩
         obtain rfl : n2' = 60 := by rw [s2.len, ← hbs.out, enc_length]
         have H2 := keep (And.intro s2 b2)
         clear s2 b2 KE))
    all_goals (try go_wp2_with fail)
    all_goals go_meet
    all_goals
      have hL := l1.out.drew
      have h1 := hL.trans (H1.out.2.mono hL.size)
      exact ⟨A2, c2, rfl, rfl, keep ⟨H2.out.1, h1.trans (H2.out.2.mono h1.size)⟩⟩
  case rest =>
    obtain ⟨A2, c2, rfl, rfl, HB⟩ := hcut
    clear C0 l1
    have K3 := keep (key_any wc)
    go_wp2_with fail
    refine K3.out.mono ?_
    rintro e w3 ⟨A3, c3, rfl, s3, b3⟩
    have K4 := check_any A3 16 c3 (cnt 16) A2 60 c2 bs 15 w3 s3 (HB.out.1.step b3)
    rw [HE15.out] at K4
    dsimp only [DecPost, CS.cells, aw] at K4
    replace K4 := keep K4
    have HB3 := keep (And.intro (HB.out.1.step b3) (HB.out.2.trans (b3.mono HB.out.2.size)))
    clear s3 b3 K3 HB
    go_wp2_with fail
    refine K4.out.mono ?_
    rintro e w4 ⟨rfl, b4⟩
    have l4 := below_lay w4 (.cells awC 28)
    have HB4 := keep (And.intro ((HB3.out.1.step b4).step l4) ((HB3.out.2.trans (b4.mono HB3.out.2.size)).alloc (HB3.out.2.trans (b4.mono HB3.out.2.size)).size (.cells awC 28)))
    have C4 := keep (show SB (w4.alloc (.cells awC 28)) w4.heap.size aw.cells from heap_alloc_new w4 _)
    have K5 := keep (key_any (w4.alloc (.cells awC 28)))
    clear b4 l4 K4 HB3
    go_wp2_with fail
    refine K5.out.mono ?_
    rintro e w5 ⟨A5, c5, rfl, s5, b5⟩
    have K6 := check_any A5 16 c5 (cnt 16) A2 60 c2 bs 16 w5 s5 (HB4.out.1.step b5)
    rw [HE16.out] at K6
    dsimp only [DecPost, CS.cells, CS.zero] at K6
    replace K6 := keep K6
    have HB5 := keep (HB4.out.2.trans (b5.mono HB4.out.2.size))
    have C5 := keep (C4.out.step b5)
    clear s5 b5 K5 HB4 C4
    go_wp2_with fail
    refine K6.out.mono ?_
    rintro e w6 ⟨rfl, b6⟩
    have C6 := (C5.out.step b6).step (below_lay w6 (.cells zeroC 28))
    have a0 := C6.cell 0 (.int .i64 5) rfl
    have a2 := C6.cell 2 (.int .u32 7) rfl
    have a8 := C6.cell 8 (.int .u16 3) rfl
    have HB6 := keep (HB5.out.trans (b6.mono HB5.out.size))
    clear b6 K6 HB5 C5 C6
    go_wp2_with fail
    go_ret
    exact ⟨rfl, HB6.out.alloc HB6.out.size _⟩
end Go.Proofs.Ytjfkiiohmjdceaa
