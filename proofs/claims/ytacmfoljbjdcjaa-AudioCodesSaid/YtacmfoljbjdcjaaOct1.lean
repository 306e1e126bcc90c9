/- Contracts of package octet's functions that only compute or lay octets: same, fillers, lay. For every input within the bounds that each names. -/
import Derived.Test.YtacmfoljbjdcjaaProg
import Derived.Test.YtacmfoljbjdcjaaMem
import Derived.KernelRfl
namespace Go.Proofs.Ytacmfoljbjdcjaa
open Go.RowKit
set_option linter.unusedVariables false

theorem same_any (A B : Option Addr) (bs ds : List UInt8) (c d : Nat) (w : World) (ha : BR w A bs) (hb : BR w B ds) :
    Calls Try.prog 14 #[.slice A bs.length c, .slice B ds.length d] w fun e w' => e = .returned (.bool (bs == ds)) ∧ w = w' := by
  have k1 := run_bytes_str (P := Try.prog) w 24 5 Try.underlying24 Try.underlying5 A bs c ha 9 Try.underlying9
  have k2 := run_bytes_str (P := Try.prog) w 24 5 Try.underlying24 Try.underlying5 B ds d hb 9 Try.underlying9
  go_enter Try.func14, Try.ntmps14
  go_wp2
  go_outline
  go_ret
  exact ⟨rfl, rfl⟩

theorem u8_info : (Try.prog.info? 5).map (fun i => (i.zero, i.size, i.bytes)) = some (some (.int .u8 0), 1, 1) := by kernel_rfl
theorem u8_size : (Try.prog.info? 5).map (·.size) = some 1 := by kernel_rfl

theorem splice_two (X Y : List Value) (z : Value) : splice (splice (List.replicate (X.length + Y.length) z) 0 X) X.length Y = X ++ Y := by
  simp [splice, List.drop_replicate]

/-- lay(b, behind..), behind not empty. -/
theorem lay_some (A B : Option Addr) (bs ds : List UInt8) (c d : Nat) (w : World) (ha : BR w A bs) (hb : BR w B ds) (hn : bs.length + ds.length ≤ 281474976710656) (hne : ds ≠ []) :
    Calls Try.prog 41 #[.slice A bs.length c, .slice B ds.length d] w fun e w' => e = .returned (.slice (some ⟨w.heap.size, 0, none⟩) (bs.length + ds.length) (bs.length + ds.length)) ∧
      w'.heap[w.heap.size]? = some (.cells (bc (bs ++ ds)).toArray 5 (0, 0)) ∧ Below w.heap.size w w' := by
  obtain ⟨i0, hi0, hz0, hz1, hz2⟩ := info_parts u8_info
  have L1 := keep (bc_length bs)
  have L2 := keep (bc_length ds)
  go_enter Try.func41, Try.ntmps41
  go_wp2_with (first
    | (at_make; refine wpl_make rfl (.tmp 11) (.tmp 11) 24 rfl 5 i0 (.int .u8 0) Try.underlying24 hi0 hz0 hz1 rfl (bs.length + ds.length) _ rfl rfl (by simp) (by rw [hz2]; omega) (by unfold maxLen; omega) ?_; intro w1 hg1 hb1 hs1)
    | (with_reducible (refine wpl_copy rfl (.tmp 13) (.tmp 14) 24 24 rfl 5 Try.underlying24 u8_size _ A _ _ _ _ rfl rfl w.heap.size 0 _ 5 hg1.out (bc bs) L1.out (by omega) (BR.step ha hb1).sr (fun _ => rfl) (by rw [L1.out]; simp) (bc_one bs) ?_); intro w2 hg2 hb2 hs2; have hB2 := hb2 _ _ (Nat.le_refl _) hb1)
    | (with_reducible (refine wpl_copy rfl (.tmp 18) (.tmp 19) 24 24 rfl 5 Try.underlying24 u8_size _ B _ _ _ _ rfl rfl w.heap.size bs.length _ 5 hg2.out (bc ds) L2.out (by omega) (BR.step hb hB2).sr (fun _ => rfl) (by rw [length_splice _ _ _ (by rw [L1.out]; simp), L2.out]; simp) (bc_one ds) ?_); intro w3 hg3 hb3 hs3; have hB3 := hb3 _ _ (Nat.le_refl _) hB2))
  go_ret
  refine ⟨rfl, ?_, hB3⟩
  have h3 := hg3.out
  have e := splice_two (bc bs) (bc ds) (.int .u8 0)
  rw [L1.out, L2.out] at e
  rw [e, ← bc_append] at h3
  exact h3

/-- lay(b), nothing behind. -/
theorem lay_none (A : Option Addr) (B : Option Addr) (bs : List UInt8) (c d : Nat) (w : World) (ha : BR w A bs) (hn : bs.length ≤ 281474976710656) :
    Calls Try.prog 41 #[.slice A bs.length c, .slice B 0 d] w fun e w' => e = .returned (.slice (some ⟨w.heap.size, 0, none⟩) bs.length bs.length) ∧
      w'.heap[w.heap.size]? = some (.cells (bc bs).toArray 5 (0, 0)) ∧ Below w.heap.size w w' := by
  obtain ⟨i0, hi0, hz0, hz1, hz2⟩ := info_parts u8_info
  have L1 := keep (bc_length bs)
  go_enter Try.func41, Try.ntmps41
  go_wp2_with (first
    | (at_make; refine wpl_make rfl (.tmp 11) (.tmp 11) 24 rfl 5 i0 (.int .u8 0) Try.underlying24 hi0 hz0 hz1 rfl bs.length _ rfl rfl (by simp) (by rw [hz2]; omega) (by unfold maxLen; omega) ?_; intro w1 hg1 hb1 hs1)
    | (with_reducible (refine wpl_copy rfl (.tmp 13) (.tmp 14) 24 24 rfl 5 Try.underlying24 u8_size _ A _ _ _ _ rfl rfl w.heap.size 0 _ 5 hg1.out (bc bs) L1.out (by omega) (BR.step ha hb1).sr (fun _ => rfl) (by rw [L1.out]; simp) (bc_one bs) ?_); intro w2 hg2 hb2 hs2; have hB2 := hb2 _ _ (Nat.le_refl _) hb1)
    | (with_reducible (refine wpl_copy rfl (.tmp 18) (.tmp 19) 24 24 rfl 5 Try.underlying24 u8_size _ B _ _ _ _ rfl rfl w.heap.size bs.length _ 5 hg2.out [] rfl (Nat.zero_le _) (SR.nil _ _) (fun hx => absurd rfl hx) (by rw [length_splice _ _ _ (by rw [L1.out]; simp)]; simp) (fun v hv => absurd hv List.not_mem_nil) ?_); intro w3 hg3 hb3 hs3; have hB3 := hb3 _ _ (Nat.le_refl _) hB2))
  go_ret
  refine ⟨rfl, ?_, hB3⟩
  have h3 := hg3.out
  have e := splice_two (bc bs) [] (.int .u8 0)
  rw [L1.out] at e
  simp only [List.length_nil, Nat.add_zero, List.append_nil] at e
  rw [e] at h3
  exact h3

/-- lay(b, behind..): new octets: b's, then the others. -/
theorem lay_any (A B : Option Addr) (bs ds : List UInt8) (c d : Nat) (w : World) (ha : BR w A bs) (hb : BR w B ds) (hn : bs.length + ds.length ≤ 281474976710656) :
    Calls Try.prog 41 #[.slice A bs.length c, .slice B ds.length d] w fun e w' => e = .returned (.slice (some ⟨w.heap.size, 0, none⟩) (bs.length + ds.length) (bs.length + ds.length)) ∧
      w'.heap[w.heap.size]? = some (.cells (bc (bs ++ ds)).toArray 5 (0, 0)) ∧ Below w.heap.size w w' := by
  rcases ds with _ | ⟨x, l⟩
  · simpa using lay_none A B bs c d w ha (by simpa using hn)
  · exact lay_some A B bs (x :: l) c d w ha hb hn (by simp)

theorem lay_ret (A B : Option Addr) (n m c d : Nat) (bs ds : List UInt8) (w : World) (ha : BS w A n c bs) (hb : BS w B m d ds) (hn : n + m ≤ 281474976710656) :
    Calls Try.prog 41 #[.slice A n c, .slice B m d] w (RetB w (bs ++ ds)) := by
  obtain ⟨rfl, _, ha⟩ := ha
  obtain ⟨rfl, _, hb⟩ := hb
  exact (lay_any A B bs ds c d w ha hb hn).mono fun e w' ⟨he, hg, hB⟩ => ⟨_, _, _, he, ⟨by simp, Nat.le_refl _, BR.row hg⟩, hB, own_row hg _ (by simp [bc_length]) (by unfold maxLen; omega)⟩
theorem same_ret (A B : Option Addr) (n m c d : Nat) (bs ds : List UInt8) (w : World) (ha : BS w A n c bs) (hb : BS w B m d ds) :
    Calls Try.prog 14 #[.slice A n c, .slice B m d] w fun e w' => e = .returned (.bool (bs == ds)) ∧ w = w' := by
  obtain ⟨rfl, _, ha⟩ := ha
  obtain ⟨rfl, _, hb⟩ := hb
  exact same_any A B bs ds c d w ha hb
end Go.Proofs.Ytacmfoljbjdcjaa
