/- The walk of the law CookieDecodes. -/
import Derived.Test.YtjfkiiohmjdceaaKR9
import Derived.Deep.RegionHeld3
namespace Go.Proofs.Ytjfkiiohmjdceaa
open Go.RowKit
set_option linter.unusedVariables false

/-- The four states side by side: what the code told, and the document, twice. -/
structure Four (w : World) (g1 g2 g3 g4 : Nat) (s u : CS) (W : World) : Prop where
  a : CB W g1 s
  b : RB W g2 s
  c : CB W g3 u
  d : RB W g4 u
  below : Below w.heap.size w W
theorem Four.step {w W W' : World} {g1 g2 g3 g4 : Nat} {s u : CS} (h : Four w g1 g2 g3 g4 s u W) (hb : Below W.heap.size W W') : Four w g1 g2 g3 g4 s u W' := ⟨h.a.step hb, h.b.step hb, h.c.step hb, h.d.step hb, up h.below hb⟩
theorem Four.drew {w W : World} {g1 g2 g3 g4 : Nat} {s u : CS} (h : Four w g1 g2 g3 g4 s u W) : Four w g1 g2 g3 g4 s u W.drew := ⟨h.a, h.b, h.c, h.d, h.below.drew⟩
theorem Four.all {w W : World} {g1 g2 g3 g4 : Nat} {amade alife atag apeer afst apf aroom aout ainn at0 at1 bmade blife btag bpeer bfst bpf broom bout binn bt0 bt1 : Int} (h : Four w g1 g2 g3 g4 ⟨amade, alife, atag, apeer, afst, apf, aroom, aout, ainn, at0, at1⟩ ⟨bmade, blife, btag, bpeer, bfst, bpf, broom, bout, binn, bt0, bt1⟩ W) :
    (W.cell? ⟨g1, 0, none⟩ = some (.int .i64 amade) ∧ W.cell? ⟨g1, 1, none⟩ = some (.int .i64 alife) ∧ W.cell? ⟨g1, 2, none⟩ = some (.int .u32 atag) ∧ W.cell? ⟨g1, 3, none⟩ = some (.int .u32 apeer) ∧ W.cell? ⟨g1, 4, none⟩ = some (.int .u32 afst) ∧ W.cell? ⟨g1, 5, none⟩ = some (.int .u32 apf) ∧ W.cell? ⟨g1, 6, none⟩ = some (.int .u32 aroom) ∧ W.cell? ⟨g1, 7, none⟩ = some (.int .u16 aout) ∧ W.cell? ⟨g1, 8, none⟩ = some (.int .u16 ainn) ∧ W.cell? ⟨g1, 9, none⟩ = some (.int .u32 at0) ∧ W.cell? ⟨g1, 10, none⟩ = some (.int .u32 at1)) ∧ (W.cell? ⟨g2, 0, none⟩ = some (.int .i64 amade) ∧ W.cell? ⟨g2, 1, none⟩ = some (.int .i64 alife) ∧ W.cell? ⟨g2, 2, none⟩ = some (.int .i64 atag) ∧ W.cell? ⟨g2, 3, none⟩ = some (.int .i64 apeer) ∧ W.cell? ⟨g2, 4, none⟩ = some (.int .i64 afst) ∧ W.cell? ⟨g2, 5, none⟩ = some (.int .i64 apf) ∧ W.cell? ⟨g2, 6, none⟩ = some (.int .i64 aroom) ∧ W.cell? ⟨g2, 7, none⟩ = some (.int .i64 at0) ∧ W.cell? ⟨g2, 8, none⟩ = some (.int .i64 at1) ∧ W.cell? ⟨g2, 9, none⟩ = some (.int .i64 aout) ∧ W.cell? ⟨g2, 10, none⟩ = some (.int .i64 ainn)) ∧ (W.cell? ⟨g3, 0, none⟩ = some (.int .i64 bmade) ∧ W.cell? ⟨g3, 1, none⟩ = some (.int .i64 blife) ∧ W.cell? ⟨g3, 2, none⟩ = some (.int .u32 btag) ∧ W.cell? ⟨g3, 3, none⟩ = some (.int .u32 bpeer) ∧ W.cell? ⟨g3, 4, none⟩ = some (.int .u32 bfst) ∧ W.cell? ⟨g3, 5, none⟩ = some (.int .u32 bpf) ∧ W.cell? ⟨g3, 6, none⟩ = some (.int .u32 broom) ∧ W.cell? ⟨g3, 7, none⟩ = some (.int .u16 bout) ∧ W.cell? ⟨g3, 8, none⟩ = some (.int .u16 binn) ∧ W.cell? ⟨g3, 9, none⟩ = some (.int .u32 bt0) ∧ W.cell? ⟨g3, 10, none⟩ = some (.int .u32 bt1)) ∧ (W.cell? ⟨g4, 0, none⟩ = some (.int .i64 bmade) ∧ W.cell? ⟨g4, 1, none⟩ = some (.int .i64 blife) ∧ W.cell? ⟨g4, 2, none⟩ = some (.int .i64 btag) ∧ W.cell? ⟨g4, 3, none⟩ = some (.int .i64 bpeer) ∧ W.cell? ⟨g4, 4, none⟩ = some (.int .i64 bfst) ∧ W.cell? ⟨g4, 5, none⟩ = some (.int .i64 bpf) ∧ W.cell? ⟨g4, 6, none⟩ = some (.int .i64 broom) ∧ W.cell? ⟨g4, 7, none⟩ = some (.int .i64 bt0) ∧ W.cell? ⟨g4, 8, none⟩ = some (.int .i64 bt1) ∧ W.cell? ⟨g4, 9, none⟩ = some (.int .i64 bout) ∧ W.cell? ⟨g4, 10, none⟩ = some (.int .i64 binn)) :=
  ⟨h.a.all, h.b.all, h.c.all, h.d.all⟩

set_option maxRecDepth 100000 in
set_option maxHeartbeats 8000000 in
theorem decodes_few (K : Option Addr) (q ck : Nat) (ks : List UInt8) (A : Option Addr) (n c : Nat) (bs : List UInt8) (now : Int) (w : World) (hk : BS w K q ck ks) (hb : BS w A n c bs) (hq : q ≤ 300) (hn : n ≤ 300) :
    Calls Try.prog 3 #[.slice K q ck, .slice A n c, .int .i64 now] w fun e w' => e = .returned (.bool true) ∧ Below w.heap.size w w' := by
  have hqz : ¬ 300 < (q : Int) := by omega
  have hnz : ¬ 300 < (n : Int) := by omega
  have HK := keep hk
  have HB := keep hb
  obtain ⟨⟨amade, alife, atag, apeer, afst, apf, aroom, aout, ainn, at0, at1⟩, x, hd⟩ : ∃ s x, dec ks bs = (s, x) := ⟨_, _, rfl⟩
  obtain ⟨⟨bmade, blife, btag, bpeer, bfst, bpf, broom, bout, binn, bt0, bt1⟩, y, hc⟩ : ∃ s x, chk ks bs now = (s, x) := ⟨_, _, rfl⟩
  have ok1 := (dec_two ks bs).1
  have ok2 := chk_ok ks bs now
  rw [hd] at ok1
  rw [hc] at ok2
  have K1 : Hid (∀ W : World, BS W K q ck ks → BS W A n c bs → Calls Try.prog 5 #[.slice K q ck, .slice A n c] W fun e w' => e = .returned (.tuple #[.agg #[.int .i64 amade, .int .i64 alife, .int .u32 atag, .int .u32 apeer, .int .u32 afst, .int .u32 apf, .int .u32 aroom, .int .u16 aout, .int .u16 ainn, .int .u32 at0, .int .u32 at1], .int .i64 x]) ∧ Below W.heap.size W w') := keep fun W h1 h2 => by
    have := decode_any K q ck ks A n c bs W h1 h2
    rw [hd] at this
    exact this
  have K2 : Hid (∀ W : World, BS W K q ck ks → BS W A n c bs → Calls Try.prog 6 #[.slice K q ck, .slice A n c] W fun e w' => e = .returned (.tuple #[.agg #[.int .i64 amade, .int .i64 alife, .int .i64 atag, .int .i64 apeer, .int .i64 afst, .int .i64 apf, .int .i64 aroom, .int .i64 at0, .int .i64 at1, .int .i64 aout, .int .i64 ainn], .int .i64 x]) ∧ Below W.heap.size W w') := keep fun W h1 h2 => by
    have := refDecode_any K q ck ks A n c bs W h1 h2
    rw [hd] at this
    exact this
  have K3 : Hid (∀ W : World, BS W K q ck ks → BS W A n c bs → Calls Try.prog 7 #[.slice K q ck, .slice A n c, .int .i64 now] W fun e w' => e = .returned (.tuple #[.agg #[.int .i64 bmade, .int .i64 blife, .int .u32 btag, .int .u32 bpeer, .int .u32 bfst, .int .u32 bpf, .int .u32 broom, .int .u16 bout, .int .u16 binn, .int .u32 bt0, .int .u32 bt1], .int .i64 y]) ∧ Below W.heap.size W w') := keep fun W h1 h2 => by
    have := check_any K q ck ks A n c bs now W h1 h2
    rw [hc] at this
    exact this
  have K4 : Hid (∀ W : World, BS W K q ck ks → BS W A n c bs → Calls Try.prog 8 #[.slice K q ck, .slice A n c, .int .i64 now] W fun e w' => e = .returned (.tuple #[.agg #[.int .i64 bmade, .int .i64 blife, .int .i64 btag, .int .i64 bpeer, .int .i64 bfst, .int .i64 bpf, .int .i64 broom, .int .i64 bt0, .int .i64 bt1, .int .i64 bout, .int .i64 binn], .int .i64 y]) ∧ Below W.heap.size W w') := keep fun W h1 h2 => by
    have := refCheck_any K q ck ks A n c bs now W h1 h2
    rw [hc] at this
    exact this
  have KA1 : Hid (∀ W : World, Calls Try.prog 9 #[.agg #[.int .i64 amade, .int .i64 alife, .int .u32 atag, .int .u32 apeer, .int .u32 afst, .int .u32 apf, .int .u32 aroom, .int .u16 aout, .int .u16 ainn, .int .u32 at0, .int .u32 at1], .agg #[.int .i64 amade, .int .i64 alife, .int .i64 atag, .int .i64 apeer, .int .i64 afst, .int .i64 apf, .int .i64 aroom, .int .i64 at0, .int .i64 at1, .int .i64 aout, .int .i64 ainn]] W fun e w' => e = .returned (.bool true) ∧ Below W.heap.size W w') := keep fun W => alike_same ⟨amade, alife, atag, apeer, afst, apf, aroom, aout, ainn, at0, at1⟩ ok1 W
  have KA2 : Hid (∀ W : World, Calls Try.prog 9 #[.agg #[.int .i64 bmade, .int .i64 blife, .int .u32 btag, .int .u32 bpeer, .int .u32 bfst, .int .u32 bpf, .int .u32 broom, .int .u16 bout, .int .u16 binn, .int .u32 bt0, .int .u32 bt1], .agg #[.int .i64 bmade, .int .i64 blife, .int .i64 btag, .int .i64 bpeer, .int .i64 bfst, .int .i64 bpf, .int .i64 broom, .int .i64 bt0, .int .i64 bt1, .int .i64 bout, .int .i64 binn]] W fun e w' => e = .returned (.bool true) ∧ Below W.heap.size W w') := keep fun W => alike_same ⟨bmade, blife, btag, bpeer, bfst, bpf, broom, bout, binn, bt0, bt1⟩ ok2 W
  clear hk hb hq hn hd hc ok1 ok2
  go_enter Try.func3, Try.ntmps3
  go_wp2_with (first
    | (go_at_call 4; refine (awake_any _).mono ?_; rintro e w1 ⟨rfl, hb1⟩; have L1 := keep hb1; clear hb1)
    | (go_at_call 5; refine (K1.out _ (HK.out.step L1.out) (HB.out.step L1.out)).mono ?_; rintro e w2 ⟨rfl, hb2⟩
       have l2 := below_lay w2 (.cells #[.int .i64 amade, .int .i64 alife, .int .u32 atag, .int .u32 apeer, .int .u32 afst, .int .u32 apf, .int .u32 aroom, .int .u16 aout, .int .u16 ainn, .int .u32 at0, .int .u32 at1] 28)
       have A2 := keep (show CB (w2.alloc (.cells #[.int .i64 amade, .int .i64 alife, .int .u32 atag, .int .u32 apeer, .int .u32 afst, .int .u32 apf, .int .u32 aroom, .int .u16 aout, .int .u16 ainn, .int .u32 at0, .int .u32 at1] 28)) w2.heap.size ⟨amade, alife, atag, apeer, afst, apf, aroom, aout, ainn, at0, at1⟩ from CB.new w2 ⟨amade, alife, atag, apeer, afst, apf, aroom, aout, ainn, at0, at1⟩)
       have L2 := keep (up (up L1.out hb2) l2)
       clear hb2 l2 L1 K1)
    | (go_at_call 6; refine (K2.out _ (HK.out.step L2.out) (HB.out.step L2.out)).mono ?_; rintro e w3 ⟨rfl, hb3⟩
       have l3 := below_lay w3 (.cells #[.int .i64 amade, .int .i64 alife, .int .i64 atag, .int .i64 apeer, .int .i64 afst, .int .i64 apf, .int .i64 aroom, .int .i64 at0, .int .i64 at1, .int .i64 aout, .int .i64 ainn] 33)
       have A3 := keep ((A2.out.step hb3).step l3)
       have B3 := keep (show RB (w3.alloc (.cells #[.int .i64 amade, .int .i64 alife, .int .i64 atag, .int .i64 apeer, .int .i64 afst, .int .i64 apf, .int .i64 aroom, .int .i64 at0, .int .i64 at1, .int .i64 aout, .int .i64 ainn] 33)) w3.heap.size ⟨amade, alife, atag, apeer, afst, apf, aroom, aout, ainn, at0, at1⟩ from RB.new w3 ⟨amade, alife, atag, apeer, afst, apf, aroom, aout, ainn, at0, at1⟩)
       have L3 := keep (up (up L2.out hb3) l3)
       clear hb3 l3 L2 A2 K2)
    | (go_at_call 7; refine (K3.out _ (HK.out.step L3.out) (HB.out.step L3.out)).mono ?_; rintro e w4 ⟨rfl, hb4⟩
       have l4 := below_lay w4 (.cells #[.int .i64 bmade, .int .i64 blife, .int .u32 btag, .int .u32 bpeer, .int .u32 bfst, .int .u32 bpf, .int .u32 broom, .int .u16 bout, .int .u16 binn, .int .u32 bt0, .int .u32 bt1] 28)
       have A4 := keep ((A3.out.step hb4).step l4)
       have B4 := keep ((B3.out.step hb4).step l4)
       have C4 := keep (show CB (w4.alloc (.cells #[.int .i64 bmade, .int .i64 blife, .int .u32 btag, .int .u32 bpeer, .int .u32 bfst, .int .u32 bpf, .int .u32 broom, .int .u16 bout, .int .u16 binn, .int .u32 bt0, .int .u32 bt1] 28)) w4.heap.size ⟨bmade, blife, btag, bpeer, bfst, bpf, broom, bout, binn, bt0, bt1⟩ from CB.new w4 ⟨bmade, blife, btag, bpeer, bfst, bpf, broom, bout, binn, bt0, bt1⟩)
       have L4 := keep (up (up L3.out hb4) l4)
       clear hb4 l4 L3 A3 B3 K3)
    | (go_at_call 8; refine (K4.out _ (HK.out.step L4.out) (HB.out.step L4.out)).mono ?_; rintro e w5 ⟨rfl, hb5⟩
       have l5 := below_lay w5 (.cells #[.int .i64 bmade, .int .i64 blife, .int .i64 btag, .int .i64 bpeer, .int .i64 bfst, .int .i64 bpf, .int .i64 broom, .int .i64 bt0, .int .i64 bt1, .int .i64 bout, .int .i64 binn] 33)
       have F5 := keep (show Four w w2.heap.size w3.heap.size w4.heap.size w5.heap.size ⟨amade, alife, atag, apeer, afst, apf, aroom, aout, ainn, at0, at1⟩ ⟨bmade, blife, btag, bpeer, bfst, bpf, broom, bout, binn, bt0, bt1⟩ (w5.alloc (.cells #[.int .i64 bmade, .int .i64 blife, .int .i64 btag, .int .i64 bpeer, .int .i64 bfst, .int .i64 bpf, .int .i64 broom, .int .i64 bt0, .int .i64 bt1, .int .i64 bout, .int .i64 binn] 33)) from ⟨(A4.out.step hb5).step l5, (B4.out.step hb5).step l5, (C4.out.step hb5).step l5, RB.new w5 ⟨bmade, blife, btag, bpeer, bfst, bpf, broom, bout, binn, bt0, bt1⟩, up (up L4.out hb5) l5⟩)
       obtain ⟨⟨p0, p1, p2, p3, p4, p5, p6, p7, p8, p9, p10⟩, ⟨q0, q1, q2, q3, q4, q5, q6, q7, q8, q9, q10⟩, ⟨r0, r1, r2, r3, r4, r5, r6, r7, r8, r9, r10⟩, ⟨s0, s1, s2, s3, s4, s5, s6, s7, s8, s9, s10⟩⟩ := F5.out.all
       clear hb5 l5 L4 A4 B4 C4 K4)
    | (go_at_call 9; refine (KB2.out _).mono ?_; rintro e w8 ⟨rfl, hb8⟩
       have F8 := keep (F7.out.step hb8)
       clear hb8 F7)
    | (go_at_call 9; refine (KA1.out _).mono ?_; rintro e w7 ⟨rfl, hb7⟩
       have F7 := keep (F5.out.step hb7)
       obtain ⟨⟨p0, p1, p2, p3, p4, p5, p6, p7, p8, p9, p10⟩, ⟨q0, q1, q2, q3, q4, q5, q6, q7, q8, q9, q10⟩, ⟨r0, r1, r2, r3, r4, r5, r6, r7, r8, r9, r10⟩, ⟨s0, s1, s2, s3, s4, s5, s6, s7, s8, s9, s10⟩⟩ := F7.out.all
       have KB2 := keep KA2.out
       clear hb7 F5 KA1))
  go_ret
  exact ⟨rfl, F8.out.below⟩
theorem cookieDecodes_walk (K : Option Addr) (q ck : Nat) (ks : List UInt8) (A : Option Addr) (n c : Nat) (bs : List UInt8) (now : Int) (w : World) (hk : BS w K q ck ks) (hb : BS w A n c bs) (_ : (Lit.int .i64 now).wf = true) :
    Calls Try.prog 3 #[.slice K q ck, .slice A n c, .int .i64 now] w fun e w' => e = .returned (.bool true) ∧ Below w.heap.size w w' := by
  by_cases hq : q ≤ 300
  · by_cases hn : n ≤ 300
    · exact decodes_few K q ck ks A n c bs now w hk hb hq hn
    · have hqz : ¬ 300 < (q : Int) := by omega
      have hnz : 300 < (n : Int) := by omega
      clear hk hb hq hn
      go_enter Try.func3, Try.ntmps3
      go_wp2_with (go_at_call 4; refine (awake_any _).mono ?_; rintro e w1 ⟨rfl, hb1⟩; have L1 := keep hb1; clear hb1)
      go_ret
      exact ⟨rfl, L1.out⟩
  · have hqz : 300 < (q : Int) := by omega
    clear hk hb hq
    go_enter Try.func3, Try.ntmps3
    go_wp2_with (go_at_call 4; refine (awake_any _).mono ?_; rintro e w1 ⟨rfl, hb1⟩; have L1 := keep hb1; clear hb1)
    go_ret
    exact ⟨rfl, L1.out⟩
end Go.Proofs.Ytjfkiiohmjdceaa
