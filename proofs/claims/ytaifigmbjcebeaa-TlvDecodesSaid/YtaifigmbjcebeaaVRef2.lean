/- The reference's one: the first parameter of octets, and what is left. -/
import Derived.Test.YtaifigmbjcebeaaVSame
import Derived.Test.YtaifigmbjcebeaaVRead
import Derived.Test.YtaifigmbjcebeaaRf2
import Derived.Test.YtaifigmbjcebeaaVIter
import Derived.Test.YtaifigmbjcebeaaApp2
namespace Go.Proofs.Ytaifigmbjcebeaa
open Go.RowKit
set_option linter.unusedVariables false

theorem results_pt3 {fn : Func} {p u v : Tmp} (h : fn.results = #[.cell p 44, .tmp u, .tmp v]) (tmps : Array Value) (w : World) (R : Nat) (hp : tmps.getD p undef = .pointer (some ⟨R, 0, none⟩)) (cs : Array Value) (hR : Slot w R cs) (hs : cs.size = 2) :
    (results fn tmps).run Try.prog w = .ok (.tuple #[.agg cs, tmps.getD u undef, tmps.getD v undef]) w := by
  obtain ⟨i0, hi0, hz0, hz1, hz2⟩ := info_parts Param_info
  have hr := run_loadVar_row w R _ 44 cs (0, 0) _ hR Try.underlying44 rfl (by rw [hi0]; simp [hz1, hs])
  have hp' : tmps[p]?.getD undef = .pointer (some ⟨R, 0, none⟩) := by simpa using hp
  simp [results, h, hp', asAddr, hr]

/-- What the document's 'one' answers. -/
def ROnePost (w : World) (A : Option Addr) (n c : Nat) (bs : List UInt8) (e : Ending) (w' : World) : Prop :=
  Below w.heap.size w w' ∧ ((∃ (x : Nat) (k : Int) (a : Option Addr) (m d : Nat) (Y : Option Addr) (y z : Nat), oneL bs = .error x ∧ 0 < x ∧ e = .returned (.tuple #[.agg #[.int .u16 k, .slice a m d], .slice Y y z, .int .i64 (x : Int)])) ∨
    (∃ (x : PX) (X : Option Addr) (m d : Nat) (r : List UInt8), oneL bs = .ok (pm x, r) ∧ e = .returned (.tuple #[pv x, .slice X m d, .int .i64 0]) ∧ ∀ W, BS W A n c bs → VP W x ∧ BS W X m d r))

theorem one_parts {W : World} {A : Option Addr} {n c : Nat} {bs : List UInt8} (h : BS W A n c bs) (L : Nat) (hL : 4 ≤ L) (hn : L + (4 - L % 4) % 4 ≤ n) :
    BS W (cutA (cutA A c 2) (c - 2) 2) (L - 4) (c - 2 - 2) ((bs.drop 4).take (L - 4)) ∧
    BS W (cutA (cutA (cutA (cutA A c 2) (c - 2) 2) (c - 2 - 2) (L - 4)) (c - 2 - 2 - (L - 4)) ((4 - L % 4) % 4)) (n - L - (4 - L % 4) % 4) (c - 2 - 2 - (L - 4) - (4 - L % 4) % 4) (bs.drop (L + (4 - L % 4) % 4)) := by
  have h2 := (h.cutA 2 (by omega)).cutA 2 (by omega)
  rw [List.drop_drop, show n - 2 - 2 = n - 4 by omega] at h2
  have h5 := h2.cutA (L - 4) (by omega)
  rw [List.drop_drop, show n - 4 - (L - 4) = n - L by omega, show 2 + 2 + (L - 4) = L by omega] at h5
  have h6 := h5.cutA ((4 - L % 4) % 4) (by omega)
  rw [List.drop_drop] at h6
  exact ⟨h2.take (L - 4) (c - 2 - 2) (by omega) (by have := h2.cap; omega), h6⟩
theorem below_drw {a b : World} {B : Nat} (h : Below B a b) (q : Nat) : Below B a (b.drewN q) := ⟨h.os, h.tape, h.output, h.size, h.block⟩
theorem rone_err {w w' : World} {A : Option Addr} {n c : Nat} {bs : List UInt8} (hb : Below w.heap.size w w') {x : Nat} (ho : oneL bs = .error x) (hx : 0 < x) (k : Int) (a : Option Addr) (m d : Nat) (Y : Option Addr) (y z : Nat) :
    ROnePost w A n c bs (.returned (.tuple #[.agg #[.int .u16 k, .slice a m d], .slice Y y z, .int .i64 (x : Int)])) w' :=
  ⟨hb, .inl ⟨x, k, a, m, d, Y, y, z, ho, hx, rfl⟩⟩

set_option maxHeartbeats 1000000 in
theorem rone_any (A : Option Addr) (n c : Nat) (bs : List UInt8) (w : World) (h : BS w A n c bs) (hbig : n ≤ 100000) :
    Calls Try.prog 31 #[.slice A n c] w (ROnePost w A n c bs) := by
  have l0 := below_lay w (.cells #[.int .u16 0, .slice none 0 0] 44)
  have HS0 : ∀ m, Hid (Slot ((w.alloc (.cells #[.int .u16 0, .slice none 0 0] 44)).drewN m) w.heap.size #[.int .u16 0, .slice none 0 0]) := fun m => heap_alloc_new w _
  have HS2 : Hid (∀ m x y, Slot ((((w.alloc (.cells #[.int .u16 0, .slice none 0 0] 44)).drewN m).setCell ⟨w.heap.size, 0, none⟩ x).setCell ⟨w.heap.size, 1, none⟩ y) w.heap.size #[x, y]) := fun m x y => ((HS0 m).out.set0 x).set1 y
  have HB2' : Hid (∀ m x y, Below w.heap.size w ((((w.alloc (.cells #[.int .u16 0, .slice none 0 0] 44)).drewN m).setCell ⟨w.heap.size, 0, none⟩ x).setCell ⟨w.heap.size, 1, none⟩ y)) := fun m x y => ((below_drw l0 m).setCell (p := ⟨w.heap.size, 0, none⟩) (Nat.le_refl _) x).setCell (p := ⟨w.heap.size, 1, none⟩) (Nat.le_refl _) y
  have HL := keep h.len
  have H := keep h
  have L0 := keep l0
  clear h l0
  by_cases h2 : n < 2
  · have K := keep (refget_short A n c 2 h2 (w.alloc (.cells #[.int .u16 0, .slice none 0 0] 44)))
    have HO := keep (show oneL bs = .error 2 by unfold oneL; rw [if_pos (by have := HL.out; omega)])
    clear h2
    go_enter Try.func31, Try.ntmps31
    go_wp2_with fail
    refine K.out.mono ?_
    rintro e w1 ⟨rfl, rfl⟩
    clear K
    go_wp2_with fail
    refine bodyPost_ret (results_pt3 rfl _ _ w.heap.size rfl _ (HS0 0).out rfl) rfl ?_
    exact rone_err L0.out HO.out (by decide) _ _ _ _ _ _ _
  · have K := keep (refget_ex A n c bs 2 (by decide) (by decide) (by omega) _ (H.out.step L0.out))
    have HB2 := keep (H.out.cutA 2 (by omega))
    obtain ⟨kn, hkn⟩ : ∃ kn, kn = numB (bs.take 2) := ⟨_, rfl⟩
    have hk16 : kn < 65536 := by rw [hkn]; exact numB_take_lt bs 2 (by have := HL.out; omega)
    obtain ⟨A2, hA2⟩ : ∃ A2, A2 = cutA A c 2 := ⟨_, rfl⟩
    rw [← hkn, ← hA2] at K
    rw [← hA2] at HB2
    have HKN := keep hkn
    have HA2 := keep hA2
    clear hkn hA2
    go_enter Try.func31, Try.ntmps31
    go_wp2_with fail
    refine K.out.mono ?_
    rintro e w1 ⟨rfl, m1, rfl⟩
    clear K
    by_cases h4 : n - 2 < 2
    · have K2 := keep (refget_short A2 (n - 2) (c - 2) 2 h4 ((w.alloc (.cells #[.int .u16 0, .slice none 0 0] 44)).drewN m1))
      have HO := keep (show oneL bs = .error 2 by unfold oneL; rw [if_pos (by have := HL.out; omega)])
      clear h2 h4
      go_wp2_with fail
      refine K2.out.mono ?_
      rintro e w2 ⟨rfl, rfl⟩
      clear K2
      go_wp2_with fail
      refine bodyPost_ret (results_pt3 rfl _ _ w.heap.size rfl _ (HS2.out m1 _ _) rfl) rfl ?_
      exact rone_err (HB2'.out m1 _ _) HO.out (by decide) _ _ _ _ _ _ _
    · have K2 := keep (refget_ex A2 (n - 2) (c - 2) _ 2 (by decide) (by decide) (by omega) _ ((HB2.out.step L0.out).drewN m1))
      have HB4 := HB2.out.cutA 2 (by omega)
      rw [List.drop_drop] at HB4
      obtain ⟨L, hL⟩ : ∃ L, L = numB ((bs.drop 2).take 2) := ⟨_, rfl⟩
      have hL16 : L < 65536 := by rw [hL]; exact numB_take_lt (bs.drop 2) 2 (by rw [List.length_drop, ← HL.out]; omega)
      obtain ⟨A4, hA4⟩ : ∃ A4, A4 = cutA A2 (c - 2) 2 := ⟨_, rfl⟩
      rw [← hL, ← hA4] at K2
      rw [← hA4, show n - 2 - 2 = n - 4 by omega] at HB4
      rw [show n - 2 - 2 = n - 4 by omega] at K2
      have HB4' := keep HB4
      have HLL := keep hL
      have HU : Hid (oneL bs = (if L < 4 then .error 3 else if 1204 < L then .error 10 else if bs.length < L then .error 2 else if bs.length < L + (4 - L % 4) % 4 then .error 2
          else if (bs.drop L).take ((4 - L % 4) % 4) = List.replicate ((4 - L % 4) % 4) 0 then .ok (((kn : Int), (bs.drop 4).take (L - 4)), bs.drop (L + (4 - L % 4) % 4)) else .error 3 : Except Nat (Pm × List UInt8))) := by
        show _ = _
        unfold oneL
        rw [if_neg (show ¬ bs.length < 4 by have := HL.out; omega), ← hL, HKN.out]
      have HA4 := keep hA4
      clear hL hA4 HB4 h2
      go_wp2_with fail
      refine K2.out.mono ?_
      rintro e w2 ⟨rfl, m2, rfl⟩
      clear K2
      by_cases hL4 : L < 4
      · have HO := keep (show oneL bs = .error 3 by rw [HU.out, if_pos hL4])
        have hL4' : (L : Int) < 4 := by omega
        clear hL4 HU
        go_wp2_with fail
        refine bodyPost_ret (results_pt3 rfl _ _ w.heap.size rfl _ (HS2.out (m1 + m2) _ _) rfl) rfl ?_
        exact rone_err (HB2'.out (m1 + m2) _ _) HO.out (by decide) _ _ _ _ _ _ _
      · have hU2 := HU.out
        rw [if_neg hL4] at hU2
        by_cases hL12 : 1204 < L
        · have HO := keep (show oneL bs = .error 10 by rw [hU2, if_pos hL12])
          clear HU hU2
          go_wp2_with fail
          refine bodyPost_ret (results_pt3 rfl _ _ w.heap.size rfl _ (HS2.out (m1 + m2) _ _) rfl) rfl ?_
          exact rone_err (HB2'.out (m1 + m2) _ _) HO.out (by decide) _ _ _ _ _ _ _
        · rw [if_neg hL12] at hU2
          have HU2 := keep hU2
          have hLk : ((L - 4 : Nat) : Int) = (L : Int) - 4 := by omega
          clear HU hU2
          by_cases hb : n - 4 < L - 4
          · have K3 := refbytes_short A4 (n - 4) (c - 2 - 2) ((L - 4 : Nat) : Int) (by omega) (by omega) ((w.alloc (.cells #[.int .u16 0, .slice none 0 0] 44)).drewN (m1 + m2))
            rw [hLk] at K3
            replace K3 := keep K3
            have HO := keep (show oneL bs = .error 2 by rw [HU2.out, if_pos (by have := HL.out; omega)])
            clear HU2 hb hLk
            go_wp2_with fail
            refine K3.out.mono ?_
            rintro e w3 ⟨rfl, rfl⟩
            clear K3
            go_wp2_with fail
            refine bodyPost_ret (results_pt3 rfl _ _ w.heap.size rfl _ (HS2.out (m1 + m2) _ _) rfl) rfl ?_
            exact rone_err (HB2'.out (m1 + m2) _ _) HO.out (by decide) _ _ _ _ _ _ _
          · have K3 := refbytes_ex A4 (n - 4) (c - 2 - 2) _ (L - 4) (by omega) _ ((HB4'.out.step L0.out).drewN (m1 + m2))
            have HV := keep (HB4'.out.take (L - 4) (c - 2 - 2) (by omega) (by have := HB4'.out.cap; omega))
            have HR := HB4'.out.cutA (L - 4) (by omega)
            obtain ⟨A5, hA5⟩ : ∃ A5, A5 = cutA A4 (c - 2 - 2) (L - 4) := ⟨_, rfl⟩
            obtain ⟨c5, hc5⟩ : ∃ c5, c5 = c - 2 - 2 - (L - 4) := ⟨_, rfl⟩
            rw [← hA5, ← hc5, show n - 4 - (L - 4) = n - L by omega, List.drop_drop, show 2 + 2 + (L - 4) = L by omega] at HR
            rw [← hA5, ← hc5, show n - 4 - (L - 4) = n - L by omega, hLk] at K3
            replace K3 := keep K3
            have HR' := keep HR
            have hU3 := HU2.out
            rw [if_neg (show ¬ bs.length < L by have := HL.out; omega)] at hU3
            have HU3 := keep hU3
            have HLn := keep (show L ≤ n by omega)
            have HA5 := keep (And.intro hA5 hc5)
            clear hA5 hc5 HR HU2 hU3 hLk hb
            go_wp2_with fail
            refine K3.out.mono ?_
            rintro e w3 ⟨rfl, m3, rfl⟩
            clear K3
            by_cases hp : n - L < (4 - L % 4) % 4
            · have K4 := keep (refunpad_short A5 (n - L) c5 L ((4 - L % 4) % 4) (by omega) rfl hp ((w.alloc (.cells #[.int .u16 0, .slice none 0 0] 44)).drewN (m1 + m2 + m3)))
              have HO := keep (show oneL bs = .error 2 by rw [HU3.out, if_pos (by have := HL.out; omega)])
              clear HU3 hp
              go_wp2_with fail
              refine K4.out.mono ?_
              rintro e w4 ⟨rfl, rfl⟩
              clear K4
              go_wp2_with fail
              refine bodyPost_ret (results_pt3 rfl _ _ w.heap.size rfl _ (HS2.out (m1 + m2 + m3) _ _) rfl) rfl ?_
              exact rone_err (HB2'.out (m1 + m2 + m3) _ _) HO.out (by decide) _ _ _ _ _ _ _
            · have K4 := keep (refunpad_ex A5 (n - L) c5 _ L ((4 - L % 4) % 4) (by omega) rfl (by omega) _ ((HR'.out.step L0.out).drewN (m1 + m2 + m3)))
              have hU4 := HU3.out
              rw [if_neg (by have := HL.out; have := HLn.out; omega)] at hU4
              have HU4 := keep hU4
              have HF := HR'.out.cutA ((4 - L % 4) % 4) (by omega)
              rw [List.drop_drop] at HF
              have HF' := keep HF
              have HLp := keep (show L + (4 - L % 4) % 4 ≤ n by have := HLn.out; omega)
              clear HU3 hU4 hp HF
              go_wp2_with fail
              refine K4.out.mono ?_
              rintro e w4 (⟨hz, rfl, rfl⟩ | ⟨hz, rfl, rfl⟩)
              · have HO := keep (show oneL bs = .ok (((kn : Int), (bs.drop 4).take (L - 4)), bs.drop (L + (4 - L % 4) % 4)) by rw [HU4.out, if_pos hz])
                clear K4 HU4 hz
                go_wp2_with fail
                refine bodyPost_ret (results_pt3 rfl _ _ w.heap.size rfl _ (HS2.out (m1 + m2 + m3) _ _) rfl) rfl ?_
                refine ⟨HB2'.out (m1 + m2 + m3) _ _, .inr ⟨((kn : Int), A4, L - 4, c - 2 - 2, (bs.drop 4).take (L - 4)), _, _, _, _, HO.out, rfl, fun W hW => ?_⟩⟩
                obtain ⟨p1, p2⟩ := one_parts hW L (by omega) HLp.out
                rw [← HA2.out, ← HA4.out, ← HA5.out.1, ← HA5.out.2] at p2
                rw [← HA2.out, ← HA4.out] at p1
                exact ⟨⟨by simp only; omega, by simp only; omega, p1⟩, p2⟩
              · have HO := keep (show oneL bs = .error 3 by rw [HU4.out, if_neg hz])
                clear K4 HU4 hz
                go_wp2_with fail
                refine bodyPost_ret (results_pt3 rfl _ _ w.heap.size rfl _ (HS2.out (m1 + m2 + m3) _ _) rfl) rfl ?_
                exact rone_err (HB2'.out (m1 + m2 + m3) _ _) HO.out (by decide) _ _ _ _ _ _ _
/-- What the document's Decode answers. -/
def RDecPost (w : World) (bs : List UInt8) (e : Ending) (w' : World) : Prop :=
  Below w.heap.size w w' ∧ ((∃ x : Nat, 0 < x ∧ decL 32 bs = .error x ∧ e = .returned (.tuple #[.slice none 0 0, .int .i64 (x : Int)])) ∨
    (∃ A m c l, decL 32 bs = .ok (l.map pm) ∧ e = .returned (.tuple #[.slice A m c, .int .i64 0]) ∧ PS w' A m c l))

set_option maxHeartbeats 1000000 in
theorem rdec_any (A : Option Addr) (n c : Nat) (bs : List UInt8) (w : World) (h : BS w A n c bs) (hbig : n ≤ 100000) :
    Calls Try.prog 18 #[.slice A n c] w (RDecPost w bs) := by
  obtain ⟨i0, hi, hz0, hz1, hz2⟩ := info_parts Param_info
  have H := keep h
  clear h
  go_enter Try.func18, Try.ntmps18
  go_wp2_with fail
  go_loopw [0, 4] (fun b out wr => ∃ (k : Nat) (xs : List PX) (X : Option Addr) (m d : Nat) (rest : List UInt8) (O : Option Addr) (oc : Nat), b = .slice X m d ∧ out = .slice O k oc ∧ xs.length = k ∧ k ≤ 32 ∧ m ≤ n ∧
      Hid (wr.ownsRow w.heap.size 44 2 (.slice O k oc) k (flatP xs)) ∧ Hid (∀ x ∈ xs, VP w x) ∧ Hid (BS w X m d rest) ∧ Hid (decL 32 bs = appE (xs.map pm) (decL (32 - k) rest)) ∧ Below w.heap.size w wr)
    (fun _ out _ => 33 - lenOf out)
  case atStart => exact ⟨0, [], A, n, c, bs, none, 0, rfl, rfl, rfl, by omega, Nat.le_refl _, World.ownsRow_nil _ _ _ _, keep (by simp), H, keep (by rw [List.map_nil, appE_nil]), Below.refl _ _⟩
  case round =>
    obtain ⟨k, xs, X, m, d, rest, O, oc, rfl, rfl, hxl, hk, hm, ho, hv, hx, hd, hb⟩ := hrel
    have HM := keep hx.out.len
    have HB := keep hb
    have hsz := hb.size
    have HXL := keep hxl
    clear hb hxl
    by_cases hm0 : m = 0
    · subst hm0
      have hrest : rest = [] := List.eq_nil_of_length_eq_zero HM.out.symm
      have HD := keep (show decL 32 bs = .ok (xs.map pm) by rw [hd.out, hrest, decL_nil]; simp [appE])
      clear hrest
      go_wp2_with fail
      go_ret2
      exact ⟨HB.out, .inr ⟨O, k, oc, xs, HD.out, rfl, PS.of_own ho.out fun x hx => (hv.out x hx).step HB.out⟩⟩
    · have hne : rest ≠ [] := by intro h; have := HM.out; rw [h] at this; simp at this; omega
      by_cases hk32 : k = 32
      · subst hk32
        have HE := keep (show decL 32 bs = .error 10 by rw [hd.out]; simp [decL, hne, appE])
        clear hne
        go_wp2_with fail
        go_ret2
        exact ⟨HB.out, .inl ⟨10, by decide, HE.out, rfl⟩⟩
      · have hk1 : k < 32 := by omega
        have hkk : ((k : Int) == 32) = false := by simp; omega
        have HNE := keep hne
        have e32 : 32 - k = 32 - (k + 1) + 1 := by omega
        rw [e32] at hd
        have KO := keep (rone_any X m d rest wr (hx.out.step HB.out) (by omega))
        clear hne hk32 e32
        go_wp2_with fail
        refine KO.out.mono ?_
        rintro e w2 ⟨hb2, ⟨x, kk, a, mm, dd, Y, y, z, hoe, hx0, rfl⟩ | ⟨⟨xk, xa, xn, xc, xv⟩, X2, m2, d2, r, hoe, he, hW⟩⟩
        · have HE := keep (show decL 32 bs = .error x by rw [hd.out, decL_err HNE.out hoe]; rfl)
          have HB2 := keep (up HB.out hb2)
          have l2 := below_lay w2 (.cells #[.int .u16 kk, .slice a mm dd] 44)
          have HB3 := keep (up HB2.out l2)
          have hx' : ((x : Int) != 0) = true := by simp; omega
          have HX0 := keep hx0
          clear KO hoe hb2 l2 hx0
          go_wp2_with fail
          go_ret2
          exact ⟨HB3.out, .inl ⟨x, HX0.out, HE.out, rfl⟩⟩
        · obtain rfl : e = .returned (.tuple #[.agg #[.int .u16 xk, .slice xa xn xc], .slice X2 m2 d2, .int .i64 0]) := he
          have HE := keep (show decL 32 bs = appE ((xs ++ [((xk, xa, xn, xc, xv) : PX)]).map pm) (decL (32 - (k + 1)) r) by
            rw [hd.out, decL_cons HNE.out hoe, appE_cons, List.map_append]
            rfl)
          obtain ⟨hvx, hbx⟩ := hW w hx.out
          have HVX := keep hvx
          have HBX := keep hbx
          have HM2 := keep (show m2 ≤ n by
            have h1 := hbx.len
            obtain ⟨h2, _⟩ := oneL_ok hoe
            have h3 := congrArg List.length h2
            rw [List.length_append] at h3
            have := HM.out
            omega)
          have l2 := below_lay w2 (.cells #[.int .u16 xk, .slice xa xn xc] 44)
          have hb3 := up hb2 l2
          have HB3 := keep (up HB.out hb3)
          have HO3 := keep (own_step ho.out hb3)
          have l4 := below_lay (w2.alloc (.cells #[.int .u16 xk, .slice xa xn xc] 44)) (.cells #[.int .u16 xk, .slice xa xn xc] 44)
          have HO4 := keep (own_step HO3.out l4)
          have HB4 := keep (up HB3.out l4)
          have hsz4 := HB4.out.size
          clear KO hoe hW hvx hbx l2 hb3 l4 hb2
          go_wp2_with (first
            | (at_builtin; refine wpl_append2 rfl (.tmp 23) (.tmp 25) 22 rfl w.heap.size 44 i0 (.agg #[.int .u16 0, .slice none 0 0]) Try.underlying22 hi hz0 hz1 rfl _ k (flatP xs) rfl HO4.out _ 1 1 (flatP [((xk, xa, xn, xc, xv) : PX)]) rfl rfl (SR.row (t := 44) (fr := (0, 0)) (cur := #[.int .u16 xk, .slice xa xn xc]) (heap_alloc2_new _ _ _)) (flatP_one _) (by unfold maxLen; omega) (by rw [hz2]; omega) hsz4 ?_
               intro A5 c5 w5 ho5 hb5 hg5
               have hb6 := keep (HB4.out.trans hb5)
               clear hg5 hb5))
          rw [← flatP_append] at ho5
          go_roundw
          case rel =>
            refine ⟨k + 1, xs ++ [(xk, xa, xn, xc, xv)], X2, m2, d2, r, A5, c5, rfl, rfl, by rw [List.length_append, HXL.out]; rfl, by omega, HM2.out, ho5, keep fun x hx => ?_, HBX, HE, hb6.out⟩
            rcases List.mem_append.1 hx with hx | hx
            · exact hv.out x hx
            · rw [List.mem_singleton.1 hx]
              exact HVX.out
          case measure => simp [lenOf]; omega
end Go.Proofs.Ytaifigmbjcebeaa
