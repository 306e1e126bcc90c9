/- The reference of package sip: the words, and the code. -/
import Derived.Test.YtjfkiiohmjdceaaSipWRounds
namespace Go.Proofs.Ytjfkiiohmjdceaa
open Go.RowKit
set_option linter.unusedVariables false

theorem u64_info : (Try.prog.info? 54).map (fun i => (i.zero, i.size, i.bytes)) = some (some (.int .u64 0), 1, 8) := by kernel_rfl
/-- The first j words of octets. -/
def ws (bs : List UInt8) : Nat → List (BitVec 64)
  | 0 => []
  | j + 1 => ws bs j ++ [wd ((bs.drop (8 * j)).take 8)]
theorem ws_length (bs : List UInt8) : ∀ j, (ws bs j).length = j
  | 0 => rfl
  | j + 1 => by rw [ws, List.length_append, ws_length bs j]; rfl
def allw (bs : List UInt8) : List (BitVec 64) := ws bs (bs.length / 8) ++ [lw (bs.drop (8 * (bs.length / 8))) bs.length]
theorem st_ws (bs : List UInt8) (v : V4) : ∀ j, st bs v j = (ws bs j).foldl tk v
  | 0 => rfl
  | j + 1 => by rw [ws, List.foldl_append, st, st_ws bs v j]; rfl
theorem code_allw (key bs : List UInt8) : code key bs = fin ((allw bs).foldl tk (beg (wd (key.take 8)) (wd (key.drop 8)))) := by
  unfold code allw
  rw [List.foldl_append, ← st_ws]
  rfl
/-- The values of words. -/
def wv (l : List (BitVec 64)) : List Value := l.map fun x => .int .u64 (x.toNat : Int)

theorem refNumber_of (w0 : World) (A : Option Addr) (n c : Nat) (x : BitVec 64) (w : World) (h : Num w0 A n c x) (hb : Below w0.heap.size w0 w) :
    Calls Try.prog 40 #[.slice A n c] w fun e w' => e = .returned (.int .u64 (x.toNat : Int)) ∧ w = w' := by
  obtain ⟨bs, h1, h2, h3⟩ := h.is
  exact refNumber_at A n c bs x h3 w (h1.step hb) h2
set_option maxRecDepth 100000 in
set_option maxHeartbeats 1000000 in
theorem Words_any (B : Option Addr) (m d : Nat) (bs : List UInt8) (w : World) (hb : BS w B m d bs) (hm : m ≤ 100000) :
    Calls Try.prog 41 #[.slice B m d] w fun e w' => ∃ A c, e = .returned (.slice A (m / 8 + 1) c) ∧ SR w' A (wv (allw bs)) ∧ Below w.heap.size w w' := by
  obtain ⟨i0, hi0, hz0, hz1, hz2⟩ := info_parts u64_info
  obtain ⟨N, hN⟩ : ∃ N, m / 8 = N := ⟨_, rfl⟩
  have hq : (m : Int) / 8 = (N : Int) := by omega
  have hN1 : 8 * N ≤ m := by omega
  have hN2 : m < 8 * N + 8 := by omega
  have HB := keep hb
  have HN := keep hN
  have hmd := hb.cap
  clear hb hN
  go_enter Try.func41, Try.ntmps41
  go_wp2_with fail
  go_loopw [3, 5] (fun o i wr => ∃ j : Nat, j ≤ N ∧ i = .int .i64 j ∧ (∃ A' c', o = .slice A' j c' ∧ Hid (wr.ownsRow w.heap.size 54 1 (.slice A' j c') j (wv (ws bs j)))) ∧ Hid (Below w.heap.size w wr)) (fun _ i _ => N - (intOf i).toNat)
  case atStart => exact ⟨0, Nat.zero_le _, rfl, ⟨none, 0, rfl, World.ownsRow_nil _ _ _ _⟩, Below.refl _ _⟩
  case round =>
    obtain ⟨j, hj, rfl, ⟨A', c', rfl, HO⟩, hbw⟩ := hrel
    by_cases hlt : j < N
    · have hw0 : 8 * j + 8 ≤ m := by omega
      obtain ⟨b1, o1, rfl, hb1⟩ := HB.out.place (by omega)
      have hsz := hbw.out.size
      have e1 : (8 : Int) * (j : Int) + 8 ≤ (d : Int) := by omega
      have e2 : ¬ d = 8 * j := by omega
      obtain ⟨x, hx⟩ : ∃ x, wd ((bs.drop (8 * j)).take 8) = x := ⟨_, rfl⟩
      have N1 : Num w (some ⟨b1, o1 + 8 * j, none⟩) 8 (d - 8 * j) x := by
        have hl := HB.out.len
        refine ⟨_, ⟨by rw [List.length_take, List.length_drop]; omega, by omega, ?_⟩, by omega, hx⟩
        have := (HB.out.br.drop (k := 8 * j) (cap := d) (by omega)).take 8
        rw [if_neg e2] at this
        simpa [Addr.add_lit] using this
      have hs : Hid (wv (ws bs (j + 1)) = wv (ws bs j) ++ [.int .u64 (x.toNat : Int)]) := by
        show wv (ws bs j ++ [wd ((bs.drop (8 * j)).take 8)]) = _
        rw [hx]
        unfold wv
        rw [List.map_append]
        rfl
      clear hx
      go_wp2_with (first
        | (go_at_call 40
           refine (refNumber_of w _ _ _ _ _ (by assumption) ?hb).mono ?_
           case hb => exact hbw.out
           rintro e w' ⟨rfl, rfl⟩)
        | (at_builtin; refine wpList_append_lies _ rfl _ _ _ rfl w.heap.size 54 i0 _ 1 8 Try.underlying81 hi0 hz0 hz1 hz2 rfl (by omega) _ j (wv (ws bs j)) (by rfl) ((HO.out.alloc _)) ⟨wr.heap.size, 0, none⟩ 1 1 [.int .u64 (x.toNat : Int)] (by rfl) (by rfl) (World.news_of_block (cs := #[.int .u64 (x.toNat : Int)]) (t := 54) (fr := (0, 0)) (heap_alloc_new wr _)) (by simp [Value.oneCell']) (by omega) (by unfold maxLen; omega) (by omega) (by simp; omega) (wr.heap.size + 1) (by simp) ?_
           intro gg cap w1 hown1 hgrow hat hlt1
           have hgb : Below w.heap.size w w1 := ((hbw.out.alloc hsz _)).grown hgrow (by simp; omega) (fun k hk => (HO.out.lt k hk).1)
           replace hown1 := keep hown1
           replace hgb := keep hgb
           clear hgrow hat hlt1))
      go_roundw
      case rel =>
        refine ⟨j + 1, by omega, by go_num, ⟨_, cap, rfl, ?_⟩, hgb⟩
        rw [hs.out]
        exact hown1.out
      case measure => simp [intOf]; omega
    · obtain rfl : N = j := by omega
      have hsz := hbw.out.size
      obtain ⟨x, hx⟩ : ∃ x, wd (bs.drop (8 * N)) = x := ⟨_, rfl⟩
      obtain ⟨y, hy⟩ : ∃ y, lw (bs.drop (8 * N)) bs.length = y := ⟨_, rfl⟩
      have hY : IntKind.u64.wrap ((x.toNat : Int) + (m : Int) % 256 * 72057594037927936) = (y.toNat : Int) := by
        have hl : (bs.drop (8 * N)).length < 8 := by rw [List.length_drop]; have := HB.out.len; omega
        have a1 := num_lt (bs.drop (8 * N))
        have a2 : 256 ^ (bs.drop (8 * N)).length ≤ 256 ^ 7 := Nat.pow_le_pow_right (by omega) (by omega)
        rw [← hx, ← hy, wd_nat _ (by omega), lw_nat _ _ hl, ← HB.out.len, IntKind.wrap_u64]
        omega
      have h256 : IntKind.u64.wrap ((m : Int) % 256) = (m : Int) % 256 := by rw [IntKind.wrap_u64]; omega
      have hE : Hid (wv (allw bs) = wv (ws bs N) ++ [.int .u64 (y.toNat : Int)]) := by
        show _ = _
        unfold allw wv
        rw [← HB.out.len, HN.out, HB.out.len, hy, List.map_append]
        rfl
      have hbr := HB.out.br.drop (k := 8 * N) (cap := d) (by have := HB.out.len; omega)
      by_cases hd : d = 8 * N
      all_goals
        first
          | (have N1 : Num w B (m - 8 * N) 0 x := by
               rw [if_pos hd] at hbr
               exact ⟨_, ⟨by rw [List.length_drop]; have := HB.out.len; omega, by omega, hbr⟩, by omega, hx⟩)
          | (have N1 : Num w (B.map (·.add (8 * N))) (m - 8 * N) (d - 8 * N) x := by
               rw [if_neg hd] at hbr
               exact ⟨_, ⟨by rw [List.length_drop]; have := HB.out.len; omega, by omega, hbr⟩, by omega, hx⟩)
        clear hx hy hbr
        go_wp2_with (first
          | (go_at_call 40
             refine (refNumber_of w _ _ _ _ _ (by assumption) ?hb).mono ?_
             case hb => exact hbw.out
             rintro e w' ⟨rfl, rfl⟩)
          | (at_builtin; refine wpList_append_lies _ rfl _ _ _ rfl w.heap.size 54 i0 _ 1 8 Try.underlying81 hi0 hz0 hz1 hz2 rfl (by omega) _ N (wv (ws bs N)) (by rfl) ((HO.out.alloc _)) ⟨wr.heap.size, 0, none⟩ 1 1 [.int .u64 (y.toNat : Int)] (by rfl) (by rfl) (World.news_of_block (cs := #[.int .u64 (y.toNat : Int)]) (t := 54) (fr := (0, 0)) (heap_alloc_new wr _)) (by simp [Value.oneCell']) (by omega) (by unfold maxLen; omega) (by omega) (by simp; omega) (wr.heap.size + 1) (by simp) ?_
             intro gg cap w1 hown1 hgrow hat hlt1
             have hgb : Below w.heap.size w w1 := ((hbw.out.alloc hsz _)).grown hgrow (by simp; omega) (fun k hk => (HO.out.lt k hk).1)
             replace hown1 := keep hown1
             replace hgb := keep hgb
             clear hgrow hat hlt1))
        go_ret
        rw [HN.out]
        refine ⟨_, cap, rfl, ?_, hgb.out⟩
        rw [hE.out]
        exact SR.of_own hown1.out
end Go.Proofs.Ytjfkiiohmjdceaa
