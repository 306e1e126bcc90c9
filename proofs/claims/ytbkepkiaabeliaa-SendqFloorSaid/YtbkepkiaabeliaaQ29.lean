/- New, and a piece. -/
import Derived.Test.YtbkepkiaabeliaaQ28
import Derived.Test.YtbkepkiaabeliaaQ15
namespace Go.Proofs.Ytbkepkiaabeliaa
open Go.RowKit Go.Maps
set_option linter.unusedVariables false

def newG (b : Nat) : Gq := ⟨b, (none, 0, 0), fun i => i = b, fun _ => False⟩
def newQ (first : Int) : Qm := ⟨[], first, fun _ => ⟨0, 0, false⟩⟩
theorem New_any (first : Int) (hf : 0 ≤ first ∧ first < 4294967296) (w : World) : Calls Try.prog 12 #[.int .u32 first] w fun e w' => e = .returned (.pointer (some ⟨w.heap.size, 0, none⟩)) ∧ QA w' (newG w.heap.size) (newQ first) ∧ Below w.heap.size w w' := by
  have L0 := below_lay w (.cells #[.slice none 0 0, .int .u32 first] 72)
  have H := keep (show QA (w.alloc (.cells #[.slice none 0 0, .int .u32 first] 72)) (newG w.heap.size) (newQ first) ∧ Below w.heap.size w (w.alloc (.cells #[.slice none 0 0, .int .u32 first] 72)) from
    ⟨⟨heap_alloc_new w _, rfl, World.ownsRow_nil _ _ _ _, fun g hg => (by cases hg), fun e he => (by cases he), List.nodup_nil, hf, Nat.zero_le _, fun _ _ h => h, fun i hi => (by rw [show i = w.heap.size from hi]; simp), fun _ h => h.elim⟩, L0⟩)
  clear L0 hf
  go_enter Try.func12, Try.ntmps12
  go_wp2
  go_ret
  exact ⟨rfl, H.out⟩
theorem new_nums (first : Int) : Nums (newQ first) := fun i e he => by simp [newQ] at he
def pz (n g : Nat) : CZ := ⟨0, 3, 0, 0, 0, 0, 0, (none, 0, 0), (none, 0, 0), (none, 0, 0), (none, 0, 0), (some ⟨g, 0, none⟩, n, n), [], [], [], [], List.replicate n 0⟩
theorem bc_zeros (n : Nat) : bc (List.replicate n (0 : UInt8)) = List.replicate n (Value.int .u8 0) := by
  unfold bc
  rw [List.map_replicate]
  rfl
theorem pz_zv {w : World} {n g : Nat} (h : w.heap[g]? = some (.cells (List.replicate n (Value.int .u8 0)).toArray 5 (0, 0))) : ZV w (pz n g) :=
  ⟨(show (0 : Int) ≤ 0 ∧ (0 : Int) < 256 by decide), (show (0 : Int) ≤ 3 ∧ (3 : Int) < 256 by decide), (show (0 : Int) ≤ 0 ∧ (0 : Int) < 4294967296 by decide), (show (0 : Int) ≤ 0 ∧ (0 : Int) < 4294967296 by decide), (show (0 : Int) ≤ 0 ∧ (0 : Int) < 65536 by decide), (show (0 : Int) ≤ 0 ∧ (0 : Int) < 65536 by decide), (show (0 : Int) ≤ 0 ∧ (0 : Int) < 4294967296 by decide),
    ⟨rfl, Nat.le_refl _, SR.nil _ _⟩, ⟨rfl, Nat.le_refl _, SR.nil _ _⟩, ⟨rfl, Nat.le_refl _, SR.nil _ _⟩, ⟨rfl, Nat.le_refl _, SR.nil _ _⟩, fun p hp => (by cases hp), ⟨(List.length_replicate ..).symm, Nat.le_refl _, by
      show SR w (some ⟨g, 0, none⟩) (bc (List.replicate n 0))
      rw [bc_zeros]
      simpa using SR.row h⟩⟩
theorem pz_sm {n g : Nat} (h : n ≤ 1000000) : Sm (pz n g) := ⟨Nat.zero_le _, Nat.zero_le _, Nat.zero_le _, Nat.zero_le _, h⟩
theorem by_info : (Try.prog.info? 5).map (fun i => (i.zero, i.size, i.bytes)) = some (some (.int .u8 0), 1, 1) := by kernel_rfl
set_option maxRecDepth 100000 in
set_option maxHeartbeats 1000000 in
theorem piece_any (n : Nat) (hn : n ≤ 1000000) (w : World) : Calls Try.prog 29 #[.int .i64 n] w fun e w' => e = .returned (.agg (pz n (w.heap.size + 1)).cells.toArray) ∧ ZV w' (pz n (w.heap.size + 1)) ∧ w.heap.size + 1 < w'.heap.size ∧ Below w.heap.size w w' := by
  obtain ⟨i0, hi0, hz0, hz1, hz2⟩ := info_parts by_info
  have L0 := keep (below_lay w (.cells zZero.cells.toArray 51))
  have HZ := keep (show ZB (w.alloc (.cells zZero.cells.toArray 51)) w.heap.size zZero from heap_alloc_new w _)
  have s1 : (w.alloc (.cells zZero.cells.toArray 51)).heap.size = w.heap.size + 1 := by simp
  have S1 := keep s1
  clear s1
  dsimp only [zZero, CZ.cells] at L0 HZ S1
  go_enter Try.func29, Try.ntmps29
  go_wp2_with (at_make; refine wpl_make rfl _ _ 49 rfl 5 i0 (.int .u8 0) Try.underlying49 hi0 hz0 hz1 rfl n _ rfl rfl rfl (by rw [hz2]; omega) (by unfold maxLen; omega) ?_
               intro w2 hg2 hb2 hs2
               have HB2 := keep hb2
               have HS2 := keep hs2
               have HZ2 := keep (ZB.step HZ.out hb2)
               obtain ⟨⟨f0, f1, f2, f3, f4, f5⟩, f6, f7, f8, f9, f10, f11⟩ := HZ2.out.fz12
               obtain ⟨⟨z0, z1, z2, z3, z4, z5, z6⟩, z7, z8, z9, z10, z11⟩ := HZ2.out.all
               dsimp only at z0 z1 z2 z3 z4 z5 z6 z7 z8 z9 z10 z11
               clear hb2 hs2)
  have hzb := ZB.laid (cs := _) rfl HZ2.out (pz n (w.heap.size + 1))
  have hpt := ZB.part w2 w.heap.size (pz n (w.heap.size + 1))
  have hun := ZB.under (L0.out.trans (HB2.out.mono L0.out.size)) (Nat.le_refl _) (pz n (w.heap.size + 1))
  have hgg := hg2.out
  have hss := HS2.out
  rw [S1.out] at hgg hss
  have hrow := (hpt.block _ hss (by omega)).trans hgg
  have hsz := Nat.lt_of_lt_of_le hss hpt.size
  exact bodyPost_ret (ret_zchunk rfl _ _ w.heap.size (pz n (w.heap.size + 1)) rfl hzb) rfl ⟨rfl, pz_zv hrow, hsz, hun⟩
end Go.Proofs.Ytbkepkiaabeliaa
