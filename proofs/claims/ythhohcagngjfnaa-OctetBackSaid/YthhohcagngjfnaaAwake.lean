/- The document's examples hold: awake answers true. -/
import Derived.Test.YthhohcagngjfnaaRef1
namespace Go.Proofs.Ythhohcagngjfnaa
open Go.RowKit
set_option linter.unusedVariables false

theorem same_eq (A B : Option Addr) (n m c d : Nat) (bs ds : List UInt8) (w : World) (ha : BS w A n c bs) (hb : BS w B m d ds) (h : bs = ds) :
    Calls Try.prog 10 #[.slice A n c, .slice B m d] w fun e w' => e = .returned (.bool true) ∧ Below w.heap.size w w' := by
  subst h
  exact (same_ret A B n m c d bs bs w ha hb).mono fun e w' ⟨he, hw⟩ => ⟨by simpa using he, hw ▸ Below.refl _ _⟩

theorem awake_any (w : World) : Calls Try.prog 9 #[] w fun e w' => e = .returned (.bool true) ∧ Below w.heap.size w w' := by
  have l0 := below_lay w (.cells #[.int .u8 1, .int .u8 2] 5)
  have K0 := keep (new_any _ 2 2 [b8 1, b8 2] _ (BS.laid w 5 [1, 2] (by simp)) (by omega))
  go_enter Try.func9, Try.ntmps9
  go_wp2_with fail
  refine K0.out.mono ?_
  rintro e w1 ⟨g, A1, n1, c1, rfl, hr1, hg1, hb1⟩
  have K1 := keep (get16_any g A1 n1 c1 _ w1 hr1)
  have hn1 : n1 = 2 := hr1.2.len
  clear K0
  go_wp2_with fail
  refine K1.out.mono ?_
  rintro e w2 (⟨_, rfl, hp2⟩ | ⟨h, _⟩)
  · clear K1
    have hB2 : Below w.heap.size w w2 := by
      obtain ⟨_, _, _, _, hg⟩ := hp2
      exact (l0.trans (hb1.mono l0.size)).trans (grown_below hg (Nat.le_trans l0.size hg1) hr1.lt)
    have hnum : numB [b8 1, b8 2] = 258 := by decide
    clear l0 hb1 hg1 hr1 hn1 hp2
    go_wp2_with fail
    refine (put16_any none 0 0 [] 258 (by omega) (by omega) w2 (BS.nil w2) (by omega)).mono ?_
    rintro e w3 ⟨A3, n3, c3, rfl, hs3, hb3, ho3⟩
    have hB3 := up hB2 hb3
    have l3 := below_lay w3 (.cells #[.int .u8 1, .int .u8 2] 5)
    have K4 := keep (same_eq A3 _ n3 2 c3 2 _ _ _ (hs3.step l3) (BS.laid w3 5 [1, 2] (by simp)) (by decide))
    go_wp2_with (go_at_call 10; refine K4.out.mono ?_; rintro e w4 ⟨rfl, hb4⟩)
    have hB4 := up (up hB3 l3) hb4
    clear K4 hs3 hb3 l3 hb4 hB2 hB3
    have l5 := below_lay w4 (.cells #[.int .u8 1, .int .u8 2] 5)
    have K5 := keep (pad_any _ 2 2 [b8 1, b8 2] _ (BS.laid w4 5 [1, 2] (by simp)) (by omega))
    go_wp2_with (go_at_call 15; refine K5.out.mono ?_; rintro e w5 ⟨A5, n5, c5, rfl, hs5, hb5, ho5⟩)
    have hB5 := up (up hB4 l5) hb5
    clear K5 hb5 l5 hB4
    have l6 := below_lay w5 (.cells #[.int .u8 1, .int .u8 2, .int .u8 0, .int .u8 0] 5)
    have K6 := keep (same_eq A5 _ n5 4 c5 4 _ _ _ (hs5.step l6) (BS.laid w5 5 [1, 2, 0, 0] (by simp)) (by decide))
    go_wp2_with (go_at_call 10; refine K6.out.mono ?_; rintro e w6 ⟨rfl, hb6⟩)
    have hB6 := up (up hB5 l6) hb6
    go_ret
    exact ⟨rfl, hB6⟩
  · omega
end Go.Proofs.Ythhohcagngjfnaa
