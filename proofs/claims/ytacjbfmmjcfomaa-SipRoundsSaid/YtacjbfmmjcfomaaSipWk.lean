/- The laws' examples. -/
import Derived.Test.YtacjbfmmjcfomaaSip5
import Derived.Deep.AppendLies
namespace Go.Proofs.Ytacjbfmmjcfomaa
open Go.RowKit
set_option linter.unusedVariables false

theorem u8_info : (Try.prog.info? 5).map (fun i => (i.zero, i.size, i.bytes)) = some (some (.int .u8 0), 1, 1) := by kernel_rfl
/-- Octets that count from 0 on. -/
def cnt (n : Nat) : List UInt8 := (List.range n).map fun i => UInt8.ofNat i
theorem cnt_snoc (j : Nat) : cnt (j + 1) = cnt j ++ [UInt8.ofNat j] := by
  unfold cnt
  rw [List.range_succ, List.map_append]
  rfl
theorem cnt_length (j : Nat) : (cnt j).length = j := by unfold cnt; rw [List.length_map, List.length_range]
set_option maxRecDepth 100000 in
theorem counted_any (n : Nat) (hn : n < 256) (w : World) :
    Calls Try.prog 12 #[.int .i64 (n : Int)] w fun e w' => ∃ A c, e = .returned (.slice A n c) ∧ BS w' A n c (cnt n) ∧ Below w.heap.size w w' := by
  obtain ⟨i0, hi0, hz0, hz1, hz2⟩ := info_parts u8_info
  go_enter Try.func12, Try.ntmps12
  go_wp2_with fail
  go_loopw [3, 4] (fun o i wr => ∃ j : Nat, j ≤ n ∧ i = .int .i64 j ∧ (∃ A' c', o = .slice A' j c' ∧ Hid (wr.ownsRow w.heap.size 5 1 (.slice A' j c') j (bc (cnt j)))) ∧ Hid (Below w.heap.size w wr)) (fun _ i _ => n - (intOf i).toNat)
  case atStart => exact ⟨0, Nat.zero_le _, rfl, ⟨none, 0, rfl, World.ownsRow_nil _ _ _ _⟩, Below.refl _ _⟩
  case round =>
    obtain ⟨j, hj, rfl, ⟨A', c', rfl, HO⟩, hbw⟩ := hrel
    by_cases hlt : j < n
    · have hsz := hbw.out.size
      have hw8 : IntKind.u8.wrap (j : Int) = (j : Int) := by rw [wrap_u8]; omega
      go_wp2_with (at_builtin; refine wpList_append_lies _ rfl _ _ _ rfl w.heap.size 5 i0 _ 1 1 Try.underlying29 hi0 hz0 hz1 hz2 rfl (by omega) _ j (bc (cnt j)) (by rfl) ((HO.out.alloc _)) ⟨wr.heap.size, 0, none⟩ 1 1 [.int .u8 (j : Int)] (by rfl) (by rfl) (World.news_of_block (cs := #[.int .u8 (j : Int)]) (t := 5) (fr := (0, 0)) (heap_alloc_new wr _)) (by simp [Value.oneCell']) (by omega) (by unfold maxLen; omega) (by omega) (by simp; omega) (wr.heap.size + 1) (by simp) ?_
                   intro gg cap w1 hown1 hgrow hat hlt1
                   have hgb : Below w.heap.size w w1 := ((hbw.out.alloc hsz _)).grown hgrow (by simp; omega) (fun k hk => (HO.out.lt k hk).1)
                   replace hown1 := keep hown1
                   replace hgb := keep hgb
                   clear hgrow hat hlt1)
      go_roundw
      case rel =>
        refine ⟨j + 1, by omega, by go_num, ⟨_, cap, rfl, ?_⟩, hgb⟩
        have h1 := hown1.out
        have e : bc (cnt j) ++ [.int .u8 (j : Int)] = bc (cnt (j + 1)) := by
          rw [cnt_snoc, bc_append]
          have : ((UInt8.ofNat j).toNat : Int) = j := by rw [UInt8.toNat_ofNat']; omega
          show bc (cnt j) ++ [.int .u8 (j : Int)] = bc (cnt j) ++ [.int .u8 ((UInt8.ofNat j).toNat : Int)]
          rw [this]
        rw [e] at h1
        exact h1
      case measure => simp [intOf]; omega
    · obtain rfl : n = j := by omega
      go_wp2_with fail
      go_ret
      exact ⟨A', c', rfl, BS.of_own HO.out, hbw.out⟩
theorem Round_zero (w : World) : Calls Try.prog 8 #[.agg #[.int .u64 0, .int .u64 0, .int .u64 0, .int .u64 0]] w fun e w' => e = .returned (.agg #[.int .u64 0, .int .u64 0, .int .u64 0, .int .u64 0]) ∧ Below w.heap.size w w' := by
  have h : Hid (rnd .zero = .zero) := by show _ = _; kernel_rfl
  exact Round_any .zero .zero h w
theorem eq_zero (w : World) : (binOp .eql 24 (.agg #[.int .u64 0, .int .u64 0, .int .u64 0, .int .u64 0]) (.agg #[.int .u64 0, .int .u64 0, .int .u64 0, .int .u64 0])).run Try.prog w = .ok (.bool true) w := by kernel_rfl
theorem code_example : ((code (cnt 16) (cnt 15)).toNat : Int) = 11613035633349379557 := by decide +kernel
set_option maxRecDepth 100000 in
theorem awake_any (w : World) : Calls Try.prog 7 #[] w fun e w' => e = .returned (.bool true) ∧ Below w.heap.size w w' := by
  have HC := keep code_example
  have hz := eq_zero
  go_enter Try.func7, Try.ntmps7
  go_wp2_with (first
    | (go_at_call_of 12 (Value.int IntKind.i64 16); refine (counted_any 16 (by decide) w).mono ?_
       rintro e w1 ⟨A1, c1, rfl, s1, b1⟩
       have K2 := keep (counted_any 15 (by decide) w1)
       replace s1 := keep s1
       replace b1 := keep b1)
    | (go_at_call 12; refine K2.out.mono ?_
       rintro e w2 ⟨A2, c2, rfl, s2, b2⟩
       have K3 := Code_some A1 c1 (cnt 16) A2 15 c2 (cnt 15) w2 (s1.out.step b2) s2 (by decide)
       rw [HC.out] at K3
       replace K3 := keep K3
       have b12 := keep (b1.out.trans (b2.mono b1.out.size))
       clear K2 s1 s2 b1 b2 HC)
    | (go_at_call 10; refine K3.out.mono ?_
       rintro e w3 ⟨rfl, b3⟩
       have b13 := keep (b12.out.trans (b3.mono b12.out.size))
       have K4 := keep (counted_any 15 (by decide) w3)
       clear K3 b12 b3)
    | (go_at_call 12; refine K4.out.mono ?_
       rintro e w4 ⟨A4, c4, rfl, s4, b4⟩
       have b14 := keep (b13.out.trans (b4.mono b13.out.size))
       clear K4 b13 b4 s4)
    | (go_at_call 10; refine (Code_none A4 15 c4 none 0 0 (by decide) w4).mono ?_
       rintro e w5 ⟨rfl, rfl⟩)
    | (go_at_call 8; refine (Round_zero _).mono ?_
       rintro e w6 ⟨rfl, b6⟩
       have b16 := keep (b14.out.trans (b6.mono b14.out.size))
       clear b14 b6))
  go_ret
  exact ⟨rfl, b16.out⟩
end Go.Proofs.Ytacjbfmmjcfomaa
