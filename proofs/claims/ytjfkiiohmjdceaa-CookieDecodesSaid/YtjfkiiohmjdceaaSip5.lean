/- Package sip: the words, and the code. -/
import Derived.Test.YtjfkiiohmjdceaaSip4
import Derived.Deep.RegionHeld3
import Derived.Deep.Cut
import Derived.Deep.CutRange
namespace Go.Proofs.Ytjfkiiohmjdceaa
open Go.RowKit
set_option linter.unusedVariables false

/-- A word of up to eight octets. -/
def wd (bs : List UInt8) : BitVec 64 := BitVec.ofNat 64 (num bs)
theorem wd_nat (bs : List UInt8) (h : bs.length ≤ 8) : (wd bs).toNat = num bs := by
  unfold wd
  rw [BitVec.toNat_ofNat]
  exact Nat.mod_eq_of_lt (num_lt64 bs h)
/-- The last word: the octets left, and the length of all. -/
def lw (left : List UInt8) (L : Nat) : BitVec 64 := BitVec.ofNat 64 (num left + L % 256 * 2 ^ 56)
theorem lw_nat (left : List UInt8) (L : Nat) (h : left.length < 8) : (lw left L).toNat = num left + L % 256 * 2 ^ 56 := by
  unfold lw
  rw [BitVec.toNat_ofNat]
  have h1 := num_lt left
  have h2 : 256 ^ left.length ≤ 256 ^ 7 := Nat.pow_le_pow_right (by omega) (by omega)
  exact Nat.mod_eq_of_lt (by omega)
theorem number_at (A : Option Addr) (n c : Nat) (bs : List UInt8) (x : BitVec 64) (h : Hid (wd bs = x)) (w : World) (hb : BS w A n c bs) (hn : n ≤ 8) :
    Calls Try.prog 35 #[.slice A n c] w fun e w' => e = .returned (.int .u64 (x.toNat : Int)) ∧ w = w' := by
  rw [← h.out, wd_nat bs (by have := hb.len; omega)]
  exact number_any A n c bs w hb hn
theorem refNumber_at (A : Option Addr) (n c : Nat) (bs : List UInt8) (x : BitVec 64) (h : Hid (wd bs = x)) (w : World) (hb : BS w A n c bs) (hn : n ≤ 8) :
    Calls Try.prog 40 #[.slice A n c] w fun e w' => e = .returned (.int .u64 (x.toNat : Int)) ∧ w = w' := by
  rw [← h.out, wd_nat bs (by have := hb.len; omega)]
  exact refNumber_any A n c bs w hb hn

/-- The slice reads, in w, as octets whose number is x. -/
structure Num (w : World) (A : Option Addr) (n c : Nat) (x : BitVec 64) : Prop where
  is : ∃ bs, BS w A n c bs ∧ n ≤ 8 ∧ wd bs = x
theorem number_of (w0 : World) (A : Option Addr) (n c : Nat) (x : BitVec 64) (w : World) (h : Num w0 A n c x) (hb : Below w0.heap.size w0 w) :
    Calls Try.prog 35 #[.slice A n c] w fun e w' => e = .returned (.int .u64 (x.toNat : Int)) ∧ w = w' := by
  obtain ⟨bs, h1, h2, h3⟩ := h.is
  exact number_at A n c bs x h3 w (h1.step hb) h2

theorem lastWord_any (A : Option Addr) (n c : Nat) (bs : List UInt8) (L : Nat) (x : BitVec 64) (h : Hid (lw bs L = x)) (w : World) (hb : BS w A n c bs) (hn : n < 8) (hL : L ≤ 1000000) :
    Calls Try.prog 38 #[.slice A n c, .int .i64 (L : Int)] w fun e w' => e = .returned (.int .u64 (x.toNat : Int)) ∧ w = w' := by
  have K := keep (number_at A n c bs (wd bs) rfl w hb (by omega))
  have h1 : IntKind.u64.wrap (L : Int) = L := by rw [IntKind.wrap_u64]; omega
  go_enter Try.func38, Try.ntmps38
  go_wp2_with (go_at_call 35; refine K.out.mono ?_; rintro e w2 ⟨rfl, rfl⟩)
  go_ret
  have hX : bits .or .u64 ((wd bs).toNat : Int) (IntKind.u64.wrap ((L : Int) * 72057594037927936)) = (x.toNat : Int) := by
    have hl : bs.length < 8 := by have := hb.len; omega
    have a1 := num_lt bs
    have a2 : 256 ^ bs.length ≤ 256 ^ 7 := Nat.pow_le_pow_right (by omega) (by omega)
    have h2 : IntKind.u64.wrap ((L : Int) * 72057594037927936) = ((L % 256 * 2 ^ 56 : Nat) : Int) := by rw [IntKind.wrap_u64]; omega
    have h4 := Nat.shiftLeft_add_eq_or_of_lt (i := 56) (show num bs < 2 ^ 56 by omega) (L % 256)
    rw [Nat.shiftLeft_eq] at h4
    rw [h2, wd_nat bs (by omega), bits_or_u64_nat _ _ (by omega) (by omega), Nat.or_comm, ← h4, ← h.out, lw_nat bs L hl, Nat.add_comm]
  exact ⟨ret_int hX, rfl⟩

/-- The four numbers behind the first j words. -/
def st (bs : List UInt8) (v : V4) : Nat → V4
  | 0 => v
  | j + 1 => tk (st bs v j) (wd ((bs.drop (8 * j)).take 8))
/-- The code. -/
def code (key bs : List UInt8) : BitVec 64 :=
  fin (tk (st bs (beg (wd (key.take 8)) (wd (key.drop 8))) (bs.length / 8)) (lw (bs.drop (8 * (bs.length / 8))) bs.length))

theorem BS.place {w : World} {A : Option Addr} {n c : Nat} {bs : List UInt8} (h : BS w A n c bs) (hn : 0 < n) : ∃ b o, A = some ⟨b, o, none⟩ ∧ b < w.heap.size := by
  obtain ⟨b, o, e, hlt, _⟩ := h.br.at_ (j := 0) (by have := h.len; omega)
  exact ⟨b, o, e, hlt⟩
/-- A slice's length. -/
def lenS : Value → Nat
  | .slice _ n _ => n
  | _ => 0

theorem Code_none (A : Option Addr) (n c : Nat) (B : Option Addr) (m d : Nat) (hn : n ≠ 16) (w : World) :
    Calls Try.prog 21 #[.slice A n c, .slice B m d] w fun e w' => e = .returned (.tuple #[.int .u64 0, .bool false]) ∧ w = w' := by
  have hn' : ((n : Int) == 16) = false := by simp; omega
  clear hn
  go_enter Try.func21, Try.ntmps21
  go_wp2_with fail
  go_ret2
  exact ⟨rfl, rfl⟩

set_option maxRecDepth 100000 in
set_option maxHeartbeats 1000000 in
theorem Code_some (A : Option Addr) (c : Nat) (key : List UInt8) (B : Option Addr) (m d : Nat) (bs : List UInt8) (w : World) (ha : BS w A 16 c key) (hb : BS w B m d bs) (hm : m ≤ 100000) :
    Calls Try.prog 21 #[.slice A 16 c, .slice B m d] w fun e w' => e = .returned (.tuple #[.int .u64 ((code key bs).toNat : Int), .bool true]) ∧ Below w.heap.size w w' := by
  have hc : (16 : Int) ≤ (c : Int) := by have := ha.cap; omega
  have hc8 : (8 : Int) ≤ (c : Int) := by omega
  have hcn : ¬ c = 8 := by omega
  obtain ⟨b0, o0, rfl, hb0⟩ := ha.place (by decide)
  obtain ⟨k, hk⟩ : ∃ k, wd (key.take 8) = k := ⟨_, rfl⟩
  obtain ⟨l, hl⟩ : ∃ l, wd (key.drop 8) = l := ⟨_, rfl⟩
  have N1 : Num w (some ⟨b0, o0, none⟩) 8 c k := ⟨_, ⟨by rw [List.length_take]; have := ha.len; omega, by omega, ha.br.take 8⟩, by omega, hk⟩
  have N2 : Num w (some ⟨b0, o0 + 8, none⟩) 8 (c - 8) l := by
    refine ⟨_, ⟨by rw [List.length_drop]; have := ha.len; omega, by omega, ?_⟩, by omega, hl⟩
    have := ha.br.drop (k := 8) (cap := c) (by have := ha.len; omega)
    rw [if_neg hcn] at this
    simpa [Addr.add_lit] using this
  obtain ⟨u, hu⟩ : ∃ u, beg k l = u := ⟨_, rfl⟩
  have HU := keep hu
  have HK := keep (And.intro hk hl)
  go_enter Try.func21, Try.ntmps21
  go_wp2_with fail
  go_cut [6] from 8 (fun x wx => ∃ g, x = .pointer (some ⟨g, 0, none⟩) ∧ w.heap.size ≤ g ∧ At wx g u ∧ Below w.heap.size w wx)
  case first =>
    go_region_with (first
      | (go_at_call 35
         refine (number_of w _ _ _ _ _ (by assumption) ?hb).mono ?_
         case hb => first | exact (Below.refl _ _).drew | exact (below_lay _ _).drew
         rintro e w' ⟨rfl, rfl⟩)
      | (go_at_call 34; refine (begin_any k l u HU _).mono ?_; rintro e w2 ⟨rfl, hb2⟩
         first
           | (have hz := (show At ((w.alloc (.cells #[.int .u64 0, .int .u64 0, .int .u64 0, .int .u64 0] 72)).drew) w.heap.size .zero from heap_alloc_new w _).step hb2
              obtain ⟨⟨k0, k1, k2, k3⟩, f0, f1, f2, f3⟩ := hz.all
              replace hz := keep hz)
           | skip
         replace hb2 := keep hb2))
    all_goals (try go_wp2_with fail)
    all_goals go_meet
    · have hB := ((Below.refl w.heap.size w).drew).trans (hb2.out.mono (Nat.le_refl _))
      exact ⟨w2.heap.size, rfl, hB.size, heap_alloc_new w2 _, hB.alloc hB.size _⟩
    all_goals
      have hB := (below_lay w (.cells #[.int .u64 0, .int .u64 0, .int .u64 0, .int .u64 0] 72)).drew.trans (hb2.out.mono (by simp))
      exact ⟨w.heap.size, rfl, Nat.le_refl _, hz.out.lay u, below4 hB (Nat.le_refl _) _ _ _ _⟩
  case rest =>
    obtain ⟨g, rfl, hg, hAu, hBw⟩ := hcut
    have HB := keep hb
    have HBw := keep (And.intro hAu hBw)
    clear ha N1 N2 hb hk hl hu hAu hBw hc hc8 hcn
    have HML := keep HB.out.len
    go_wp2_with fail
    go_loopw [7] (fun s wr => ∃ (j r q : Nat) (A' : Option Addr), s = .slice A' r q ∧ Hid (8 * j + r = m ∧ BS w A' r q (bs.drop (8 * j))) ∧ Hid (At wr g (st bs u j) ∧ Below w.heap.size w wr)) (fun s _ => lenS s)
    case atStart => exact ⟨0, m, d, B, rfl, ⟨by omega, HB.out⟩, HBw.out⟩
    case round =>
      obtain ⟨j, r, q, A', rfl, hR, hS⟩ := hrel
      obtain ⟨v, hv⟩ : ∃ v, st bs u j = v := ⟨_, rfl⟩
      have hA := hS.out.1
      rw [hv] at hA
      have HA := keep hA
      have HW := keep hS.out.2
      obtain ⟨⟨k0, k1, k2, k3⟩, f0, f1, f2, f3⟩ := hA.all
      have hrq := hR.out.2.cap
      clear hA hS
      by_cases h8 : 8 ≤ r
      · have h8' : (8 : Int) ≤ (r : Int) := by omega
        have hq' : (8 : Int) ≤ (q : Int) := by omega
        have hrq' : (r : Int) ≤ (q : Int) := by omega
        obtain ⟨b1, o1, rfl, hb1⟩ := hR.out.2.place (by omega)
        obtain ⟨x, hx⟩ : ∃ x, wd ((bs.drop (8 * j)).take 8) = x := ⟨_, rfl⟩
        have N1 : Num w (some ⟨b1, o1, none⟩) 8 q x := ⟨_, ⟨by rw [List.length_take]; have := hR.out.2.len; omega, by omega, hR.out.2.br.take 8⟩, by omega, hx⟩
        obtain ⟨y, hy⟩ : ∃ y, tk v x = y := ⟨_, rfl⟩
        have HY := keep hy
        have hs : Hid (st bs u (j + 1) = y) := by show tk (st bs u j) _ = y; rw [hv, hx, hy]
        clear hv hx hy
        go_wp2_with fail
        go_cut [] from 19 to 28 (fun wx => At wx g y ∧ Below w.heap.size w wx)
        case first =>
          go_region_with (first
            | (go_at_call 35
               refine (number_of w _ _ _ _ _ (by assumption) ?hb).mono ?_
               case hb => exact HW.out.drew
               rintro e w' ⟨rfl, rfl⟩)
            | (go_at_call 36; refine (take_any v y x HY _).mono ?_; rintro e w2 ⟨rfl, hb2⟩
               have hA2 := (show At wr.drew g v from HA.out).step hb2
               obtain ⟨⟨q0, q1, q2, q3⟩, p0, p1, p2, p3⟩ := hA2.all
               replace hA2 := keep hA2
               replace hb2 := keep hb2
               clear k0 k1 k2 k3 f0 f1 f2 f3))
          all_goals (try go_wp2_with fail)
          all_goals go_meet
          all_goals exact ⟨hA2.out.lay y, below4 (HW.out.drew.trans (hb2.out.mono HW.out.size)) hg _ _ _ _⟩
        case rest =>
          obtain ⟨hA3, hB3⟩ := hcut
          replace hA3 := keep hA3
          replace hB3 := keep hB3
          go_wp2_with fail
          go_roundw
          case rel =>
            refine ⟨j + 1, r - 8, q - 8, _, rfl, ⟨by have := hR.out.1; omega, by rw [List.length_drop]; have := hR.out.2.len; have h9 := hR.out.1; have h7 := HML.out; rw [List.length_drop] at this; omega, by omega, ?_⟩, ?_⟩
            · have hd := hR.out.2.br.drop (k := 8) (cap := q) (by have := hR.out.2.len; omega)
              rw [List.drop_drop] at hd
              simpa [Addr.add_lit, Nat.mul_add] using hd
            · rw [hs.out]
              exact ⟨hA3.out, hB3.out⟩
          case measure => simp [lenS]; omega
      · have h8' : ¬ (8 : Int) ≤ (r : Int) := by omega
        have hL : r < 8 := by omega
        obtain ⟨x, hx⟩ : ∃ x, lw (bs.drop (8 * j)) bs.length = x := ⟨_, rfl⟩
        obtain ⟨y, hy⟩ : ∃ y, tk v x = y := ⟨_, rfl⟩
        obtain ⟨z, hz⟩ : ∃ z, fin y = z := ⟨_, rfl⟩
        have HX := keep hx
        have HY := keep hy
        have HZ := keep hz
        have hE : Hid (code key bs = z) := by
          show _ = _
          unfold code
          have h1 : bs.length / 8 = j := by have := hR.out.1; have := HML.out; omega
          rw [h1, HK.out.1, HK.out.2, HU.out, hv, hx, hy, hz]
        have HLL := keep hL
        clear hv hx hy hz hL
        go_wp2_with fail
        go_region_held3 (fun w' => w'.cell? ⟨g, 0, none⟩ = some (.int .u64 (v.a.toNat : Int)) ∧ w'.cell? ⟨g, 1, none⟩ = some (.int .u64 (v.b.toNat : Int)) ∧ w'.cell? ⟨g, 2, none⟩ = some (.int .u64 (v.c.toNat : Int)) ∧ w'.cell? ⟨g, 3, none⟩ = some (.int .u64 (v.d.toNat : Int)))
          (go_keep)
          (first
            | (go_at_call 38
               refine (lastWord_any A' r q (bs.drop (8 * j)) m x ?h1 _ ?h2 ?h3 ?h4).mono ?_
               case h1 => rw [HML.out]; exact HX
               case h2 => exact hR.out.2.step HW.out.drew
               case h3 => exact HLL.out
               case h4 => omega
               rintro e w' ⟨rfl, rfl⟩)
            | (go_at_call 36; refine (take_any v y x HY _).mono ?_; rintro e w2 ⟨rfl, hb2⟩
               have hA2 := (show At wr.drew g v from HA.out).step hb2
               obtain ⟨⟨q0, q1, q2, q3⟩, p0, p1, p2, p3⟩ := hA2.all
               replace hA2 := keep hA2
               replace hb2 := keep hb2
               clear k0 k1 k2 k3 f0 f1 f2 f3 p0 p1 p2 p3)
            | (go_at_call 37; refine (end_any y z HZ _).mono ?_; rintro e w3 ⟨rfl, hb3⟩
               have hA3 := hA2.out.step hb3
               obtain ⟨⟨k0, k1, k2, k3⟩, p0, p1, p2, p3⟩ := hA3.all
               clear q0 q1 q2 q3 p0 p1 p2 p3 hA3
               replace hb3 := keep hb3))
        go_wp2_with fail
        go_ret2
        rw [hE.out]
        have h1 := HW.out.drew.trans (hb2.out.mono HW.out.size)
        exact ⟨rfl, h1.trans (hb3.out.mono h1.size)⟩
end Go.Proofs.Ytjfkiiohmjdceaa
