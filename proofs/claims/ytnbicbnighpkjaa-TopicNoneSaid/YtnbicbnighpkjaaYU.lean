/- Law 19: one that is none: the walk (TopicNone). -/
import Derived.Test.YtnbicbnighpkjaaYT
import Derived.Test.YtnbicbnighpkjaaYJ
namespace Go.Proofs.Ytnbicbnighpkjaa
open Go.RowKit Go.Maps
set_option linter.unusedVariables false
set_option linter.unusedSimpArgs false

def itemB (A : Option Addr) (n c : Nat) : Obj := .cells #[.string ⟨#[97]⟩, .int .i64 0, .int .i64 0, .bool true, .slice A n c] 49
theorem nm_join {w W : World} {b j : Nat} (h : RQ w b (NM j) W) (hj : j < 3) : Calls Try.prog 22 #[ptr b, .int .i64 (j : Int)] W fun e w' => (∃ x, e = .returned (.int .i64 x)) ∧ Hid (RQ w b (joinM (NM j) (j : Int)) w') :=
  (Join_q h (wf_nat (n := j) (by omega)) (nm_u hj)).mono fun e w' ⟨k1, k2⟩ => ⟨⟨_, k1⟩, k2⟩
theorem nm_sub {w W : World} {b j : Nat} (h : RQ w b (joinM (NM j) (j : Int)) W) (hj : j < 3) : Calls Try.prog 24 #[ptr b, .int .i64 (j : Int), .string aS, .int .i64 0] W fun e w' => (∃ x, e = .returned (.int .i64 x)) ∧ Hid (RQ w b (NM (j + 1)) w') :=
  (Subscribe_q h (wf_nat (n := j) (by omega)) (s := aS) (by decide) 0).mono fun e w' ⟨k1, k2⟩ => ⟨⟨_, k1⟩, k2⟩
set_option maxHeartbeats 16000000 in
set_option maxRecDepth 1000000 in
theorem topicNone_walk (p : Int) (s : ByteArray) (B : Option Addr) (m d : Nat) (bs : List UInt8) (w : World) (hp : (Lit.int .i64 p).wf = true) (hs0 : s.size ≤ maxLen) (hB : BS w B m d bs) :
    Calls Try.prog 8 #[.int .i64 p, .string s, .slice B m d] w fun e w' => e = .returned (.bool true) ∧ Below w.heap.size w w' := by
  have KA := keep (awake_any w)
  clear hs0 hp hB
  by_cases ls : 500 < s.size
  · have lsI : (500 : Int) < (s.size : Int) := by omega
    clear ls
    go_enter Try.func8, Try.ntmps8
    go_wp2_with fail
    refine KA.out.mono ?_
    rintro e w1 ⟨rfl, hb1⟩
    go_wp2
    go_ret
    exact ⟨rfl, hb1⟩
  have lsI : ¬ (500 : Int) < (s.size : Int) := by omega
  by_cases lm : 1000 < m
  · have lmI : (1000 : Int) < (m : Int) := by omega
    clear ls lm
    go_enter Try.func8, Try.ntmps8
    go_wp2_with fail
    refine KA.out.mono ?_
    rintro e w1 ⟨rfl, hb1⟩
    go_wp2
    go_ret
    exact ⟨rfl, hb1⟩
  have lmI : ¬ (1000 : Int) < (m : Int) := by omega
  clear ls lm
  have KP := keep fun W => Publish_nil p s true B m d W
  have KU := keep fun W => Pull_nil p W
  have KN := keep fun W (hb : Below w.heap.size w W) => New_q (w := w) 3 4 hb
  rw [show clampT 3 16 = 3 from rfl, show clampT 4 64 = 4 from rfl] at KN
  unfold ivZ Iv.cells at KU
  dsimp only at KU
  go_enter Try.func8, Try.ntmps8
  go_wp2_with fail
  refine KA.out.mono ?_
  rintro e w1 ⟨rfl, hb1⟩
  have HB1 := keep hb1
  clear hb1
  go_wp2_with fail
  refine (KP.out w1).mono ?_
  rintro e w2 ⟨rfl, rfl⟩
  go_wp2_with fail
  refine (KU.out w1).mono ?_
  rintro e w3 ⟨rfl, hb3⟩
  have HB3 := keep (HB1.out.trans (hb3.mono HB1.out.size))
  clear hb3
  have HB4 := keep (HB3.out.trans ((below_lay w3 (.cells #[.string ⟨#[]⟩, .int .i64 0, .int .i64 0, .bool false, .slice none 0 0] 49)).mono HB3.out.size))
  go_wp2_with fail
  refine (KN.out _ HB4.out).mono ?_
  rintro e w5 ⟨g, rfl, h5⟩
  have HQ := keep (show RQ w g (NM 0) w5 from h5.out)
  clear h5 KN KA
  unfold ptr
  go_wp2_with fail
  go_loopw [14] (fun pv wr => ∃ j : Nat, pv = .int .i64 (j : Int) ∧ j ≤ 3 ∧ Hid (RQ w g (NM j) wr)) (fun pv _ => 3 - (intOf pv).toNat)
  case atStart => exact ⟨0, rfl, Nat.zero_le _, HQ⟩
  case round =>
    obtain ⟨j, rfl, hj, hQ⟩ := hrel
    by_cases hlt : j < 3
    · have hltI : (j : Int) < 3 := by omega
      have KJ := keep (nm_join hQ.out hlt)
      unfold ptr at KJ
      have HLT := keep hlt
      clear hlt hQ
      go_wp2_with fail
      refine KJ.out.mono ?_
      rintro e w6 ⟨⟨x6, rfl⟩, hQ6⟩
      have KS := keep (nm_sub hQ6.out HLT.out)
      unfold ptr aS at KS
      clear hQ6
      go_wp2_with fail
      refine KS.out.mono ?_
      rintro e w7 ⟨⟨x7, rfl⟩, hQ7⟩
      go_wp2_with fail
      go_roundw
      case rel => exact ⟨j + 1, by simp, HLT.out, hQ7⟩
      all_goals (have := HLT.out; simp [intOf]; omega)
    · obtain rfl : j = 3 := by omega
      have H0 := keep hQ.out
      clear hlt hQ HQ
      go_wp2_with fail
      have hbs := BS.laid wr 5 [7] (by simp)
      have KQ := keep ((H0.out.lay (.cells #[.int .u8 7] 5)).publish (p := 0) (by decide) (s := aS) (by decide) true hbs nm_u3)
      unfold ptr aS at KQ
      dsimp only [List.length] at KQ
      have HC := keep (CB.laid wr)
      clear hbs H0
      refine KQ.out.mono ?_
      rintro e w8 ⟨⟨x8, y8, rfl⟩, h8⟩
      obtain ⟨c8, f8⟩ := (HC.out.of h8.out.2).at_
      have H9 := keep (show RQ w g NP (w8.setCell ⟨wr.heap.size, 0, none⟩ (.int .u8 8)) from h8.out.1.put 0 _)
      clear KQ HC h8
      go_wp2_with fail
      obtain ⟨W9, hW9⟩ : ∃ W9, w8.setCell ⟨wr.heap.size, 0, none⟩ (.int .u8 8) = W9 := ⟨_, rfl⟩
      rw [hW9] at H9 ⊢
      clear hW9 c8 f8
      have KX := H9.out.pullx (p := 1) (by decide) (v := 7) (by rw [np_1.1])
      rw [np_1.1, np_1.2] at KX
      replace KX := keep KX
      unfold ptr aS at KX
      dsimp only at KX
      refine KX.out.mono ?_
      rintro e w10 ⟨k1, c1, rfl, hc10, h10⟩
      have hB10 := below_lay w10 (itemB (some ⟨k1, 0, none⟩) 1 c1)
      have HX := keep (h10.out.step hB10)
      have HC10 := keep (hc10.out.of (hB10.block _ hc10.out.lt))
      obtain ⟨cc, ff⟩ := HC10.out.at_
      unfold itemB at HX cc ff hB10
      rw [show (((7 : UInt8).toNat : Nat) : Int) = 7 from rfl] at cc
      clear hB10 KX H9 h10 hc10 HC10
      have H11 := keep (show RQ w g NU _ from HX.out.put 0 (.int .u8 9))
      clear HX
      go_wp2_with fail
      obtain ⟨W11, hW11⟩ : ∃ W11, (w10.alloc (.cells #[.string ⟨#[97]⟩, .int .i64 0, .int .i64 0, .bool true, .slice (some ⟨k1, 0, none⟩) 1 c1] 49)).setCell ⟨k1, 0, none⟩ (.int .u8 9) = W11 := ⟨_, rfl⟩
      rw [hW11] at H11 ⊢
      clear hW11 cc ff
      have KX := H11.out.pullx (p := 2) (by decide) (v := 7) (by rw [nu_2.1])
      rw [nu_2.1, nu_2.2] at KX
      replace KX := keep KX
      unfold ptr aS at KX
      dsimp only at KX
      refine KX.out.mono ?_
      rintro e w12 ⟨k2, c2, rfl, hc12, h12⟩
      have hB12 := below_lay w12 (itemB (some ⟨k2, 0, none⟩) 1 c2)
      have HX := keep (h12.out.step hB12)
      have HC12 := keep (hc12.out.of (hB12.block _ hc12.out.lt))
      obtain ⟨cc, ff⟩ := HC12.out.at_
      unfold itemB at HX cc ff hB12
      rw [show (((7 : UInt8).toNat : Nat) : Int) = 7 from rfl] at cc
      clear hB12 KX H11 h12 hc12 HC12 ff
      go_wp2_with fail
      refine (Join_nil p _).mono ?_
      rintro e w20 ⟨rfl, rfl⟩
      go_wp2_with fail
      refine (Leave_nil p _).mono ?_
      rintro e w21 ⟨rfl, rfl⟩
      go_wp2_with fail
      refine (Subscribe_nil p s _).mono ?_
      rintro e w22 ⟨rfl, rfl⟩
      go_wp2_with fail
      refine (Drop_nil p s _).mono ?_
      rintro e w23 ⟨rfl, rfl⟩
      go_wp2_with fail
      refine (Failed_nil p s _).mono ?_
      rintro e w24 ⟨rfl, rfl⟩
      go_wp2_with fail
      refine (Lost_nil p _).mono ?_
      rintro e w25 ⟨rfl, rfl⟩
      go_wp2_with fail
      refine (Waiting_nil p _).mono ?_
      rintro e w26 ⟨rfl, rfl⟩
      go_wp2_with fail
      refine (Count_nil s _).mono ?_
      rintro e w27 ⟨rfl, rfl⟩
      go_wp2
      go_ret
      exact ⟨rfl, HX.out.q.bl⟩
end Go.Proofs.Ytnbicbnighpkjaa
