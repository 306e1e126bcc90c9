/- tlv's own small functions and Encode: long, the library's ContainsFunc and IndexFunc over parameters, written, Encode, Find. -/
import Derived.Test.YtaifigmbjcebeaaVP
import Derived.Shelf.Abstract
namespace Go.Proofs.Ytaifigmbjcebeaa
open Go.RowKit
set_option linter.unusedVariables false

theorem Param_info : (Try.prog.info? 44).map (fun i => (i.zero, i.size, i.bytes)) = some (some (.agg #[.int .u16 0, .slice none 0 0]), 2, 32) := by kernel_rfl

theorem long_any (k : Int) (a : Option Addr) (n c : Nat) (w : World) :
    Calls Try.prog 24 #[.agg #[.int .u16 k, .slice a n c]] w fun e w' => e = .returned (.bool (decide (1200 < n))) ∧ Below w.heap.size w w' := by
  go_enter Try.func24, Try.ntmps24
  go_wp2
  all_goals (go_ret; exact ⟨by simp; omega, below_lay _ _⟩)

/-- What is asked of a function value: it tells of a parameter what p tells of it; nothing that was there turns. -/
def Tells (g : Nat) (lb : Array Value) (p : PX → Bool) (w : World) : Prop :=
  ∀ (W : World) (x : PX), Below w.heap.size w W → Calls Try.prog g (#[pv x] ++ lb) W fun e w' => e = .returned (.bool (p x)) ∧ Below W.heap.size W w'

theorem index_any (g : Nat) (lb : Array Value) (p : PX → Bool) (eg : ∀ args w, (callFunc g args).run Try.prog w = .ok (.enter g args) w) (A : Option Addr) (n c : Nat) (l : List PX) (w : World) (h : PS w A n c l) (hn : n ≤ 1000000) (hp : Tells g lb p w) :
    Calls Try.prog 28 #[.slice A n c, .func (.func g) #[] lb] w fun e w' => e = .returned (.int .i64 (idxP p l)) ∧ Below w.heap.size w w' := by
  have HL := keep h.len
  have H := keep h
  clear h
  go_enter Try.func28, Try.ntmps28
  go_wp2
  go_loopw [5, 8] (fun _ i wr => ∃ j : Nat, j ≤ n ∧ i = .int .i64 j ∧ Hid (∀ y ∈ l.take j, p y = false) ∧ Below w.heap.size w wr) (fun _ i _ => n - (intOf i).toNat)
  case atStart => exact ⟨0, Nat.zero_le _, rfl, keep (by simp), Below.refl _ _⟩
  case round =>
    obtain ⟨j, hj, rfl, hno, hb⟩ := hrel
    have HB := keep hb
    clear hb
    by_cases hlt : j < n
    · obtain ⟨b, o, x, rfl, hbl, hc0, hc1, hlj, _⟩ := (H.out.step HB.out).at_ hlt
      have HK := hp wr x HB.out
      obtain ⟨r, hr⟩ : ∃ r, r = p x := ⟨_, rfl⟩
      rw [← hr] at HK
      replace HK := keep HK
      have HR := keep hr
      have HJ := keep hlj
      clear hr hlj
      cases r
      · go_wp2_with (go_at_fn g; refine HK.out.mono ?_; rintro e w1 ⟨rfl, hb1⟩)
        go_roundw
        case rel =>
          refine ⟨j + 1, by omega, by go_num, keep fun y hy => ?_, HB.out.trans (hb1.mono HB.out.size)⟩
          rw [List.take_add_one, HJ.out] at hy
          rcases List.mem_append.1 hy with hy | hy
          · exact hno.out y hy
          · simp at hy
            rw [hy, HR.out]
        case measure => simp [intOf]; omega
      · go_wp2_with (go_at_fn g; refine HK.out.mono ?_; rintro e w1 ⟨rfl, hb1⟩)
        go_ret
        exact ⟨by rw [idxP_hit p l j x HJ.out HR.out.symm hno.out]; rfl, HB.out.trans (hb1.mono HB.out.size)⟩
    · obtain rfl : n = j := by omega
      go_wp2
      go_ret
      have hno := hno.out
      rw [List.take_of_length_le (by have := HL.out; omega)] at hno
      exact ⟨by rw [idxP_miss p l hno]; rfl, HB.out⟩

theorem contains_any (g : Nat) (lb : Array Value) (p : PX → Bool) (eg : ∀ args w, (callFunc g args).run Try.prog w = .ok (.enter g args) w) (A : Option Addr) (n c : Nat) (l : List PX) (w : World) (h : PS w A n c l) (hn : n ≤ 1000000) (hp : Tells g lb p w) :
    Calls Try.prog 23 #[.slice A n c, .func (.func g) #[] lb] w fun e w' => e = .returned (.bool (l.any p)) ∧ Below w.heap.size w w' := by
  have K := keep (index_any g lb p eg A n c l w h hn hp)
  have E := idxP_nonneg p l
  generalize idxP p l = z at K E
  have HE := keep E
  clear E h hp
  go_enter Try.func23, Try.ntmps23
  go_wp2_with (go_at_call 28; refine K.out.mono ?_; rintro e w1 ⟨rfl, hb1⟩; replace hb1 := keep hb1)
  all_goals (go_ret; refine ⟨?_, hb1.out⟩; rw [← HE.out]; simp_all)

theorem written_any (x : PX) (w : World) (h : VP w x) (hn : x.2.2.1 ≤ 1200) :
    Calls Try.prog 25 #[pv x] w (RetB w (enc1 (pm x))) := by
  obtain ⟨i0, hi0, hz0, hz1, hz2⟩ := info_parts u8_info
  obtain ⟨k, a, n, c, v⟩ := x
  obtain ⟨h0, h1, hv⟩ := h
  simp only at h0 h1 hv hn
  show Calls Try.prog 25 #[.agg #[.int .u16 k, .slice a n c]] w (RetB w (enc1 (k, v)))
  have HL := keep hv.len
  have l0 := below_lay w (.cells #[.int .u16 k, .slice a n c] 44)
  have HV := keep (hv.step l0)
  have hc0 : (w.alloc (.cells #[.int .u16 k, .slice a n c] 44)).cell? ⟨w.heap.size, 1, none⟩ = some (.slice a n c) := by rw [cell_of_row _ _ _ _ _ _ (heap_alloc_new w _)]; rfl
  have K1 := keep (put16_any none 0 0 [] k h0 h1 _ (BS.nil (w.alloc (.cells #[.int .u16 k, .slice a n c] 44))) (by omega))
  have hsz0 : w.heap.size < (w.alloc (.cells #[.int .u16 k, .slice a n c] 44)).heap.size := by simp
  have HK := keep (show ([] ++ [b8 (k / 256), b8 k] ++ [b8 (((4 + n : Nat) : Int) / 256), b8 ((4 + n : Nat) : Int)] ++ v) = [b8 (k / 256), b8 k] ++ [b8 (((4 + v.length : Nat) : Int) / 256), b8 ((4 + v.length : Nat) : Int)] ++ v by rw [HL.out]; simp)
  clear hv
  go_enter Try.func25, Try.ntmps25
  go_wp2_with fail
  refine K1.out.mono ?_
  rintro e w1 ⟨A1, n1, c1, rfl, hs1, hb1, ho1⟩
  have hB1 := up l0 hb1
  have hc1 : w1.cell? ⟨w.heap.size, 1, none⟩ = some (.slice a n c) := (hb1.cell (p := ⟨w.heap.size, 1, none⟩) hsz0).trans hc0
  have hl1 := hs1.len
  simp at hl1
  subst hl1
  have hV1 := keep (HV.out.step hb1)
  have K2 := keep (put16_any A1 2 c1 _ ((4 + n : Nat) : Int) (by omega) (by omega) w1 hs1 (by omega))
  have hsz1 : w.heap.size < w1.heap.size := Nat.lt_of_lt_of_le hsz0 hb1.size
  clear K1 hc0 hs1 ho1 hb1 HV l0 h0 h1
  go_wp2_with fail
  refine K2.out.mono ?_
  rintro e w2 ⟨A2, n2, c2, rfl, hs2, hb2, ho2⟩
  have hB2 := up hB1 hb2
  have hc2 : w2.cell? ⟨w.heap.size, 1, none⟩ = some (.slice a n c) := (hb2.cell (p := ⟨w.heap.size, 1, none⟩) hsz1).trans hc1
  have hl2 := hs2.len
  simp at hl2
  subst hl2
  have hV2 := keep (hV1.out.step hb2)
  have hO2 := own_mono ho2.out hB1.size
  have hlv : n = (bc v).length := by rw [bc_length]; exact HL.out
  have HLV := keep hlv
  have hsz2 : w.heap.size ≤ w2.heap.size := hB2.size
  clear K2 hc1 hs2 ho2 hb2 hV1 hlv hB1
  go_wp2_with (at_builtin; refine wpl_append rfl (.tmp 14) (.tmp 16) 26 rfl w.heap.size 5 i0 (.int .u8 0) Try.underlying26 hi0 hz0 hz1 rfl _ 4 _ rfl hO2 a n c (bc v) rfl HLV.out hV2.out.br.sr (bc_one v) (by unfold maxLen; omega) (by rw [hz2]; omega) hsz2 ?_; intro A3 c3 w3 ho3 hb3)
  have hB3 := hB2.trans hb3
  have h3 := ho3.out
  rw [← bc_append, HK.out] at h3
  have K3 := keep (pad_any A3 (4 + n) c3 _ w3 (BS.of_own h3) (by omega))
  clear hc2 hO2 ho3 hV2 hb3 h3 hB2
  go_wp2_with fail
  refine K3.out.mono ?_
  rintro e w4 ⟨A4, n4, c4, rfl, hs4, hb4, ho4⟩
  go_wp2_with fail
  go_ret
  exact ⟨A4, n4, c4, rfl, hs4, up hB3 hb4, own_mono ho4.out hB3.size⟩

theorem own_step {w w' : World} {base : Nat} {e : TypeId} {size n : Nat} {v : Value} {xs : List Value} (ho : w.ownsRow base e size v n xs) (h : Below w.heap.size w w') : w'.ownsRow base e size v n xs := by
  refine ⟨ho.1, ?_⟩
  rcases ho.2 with hn | ⟨g, cap, cur, rfl, hb, hgg, rest⟩
  · exact .inl hn
  · exact .inr ⟨g, cap, cur, rfl, hb, (h.block g (Array.getElem?_eq_some_iff.1 hgg).1).trans hgg, rest⟩
/-- Encode: too many, or one too long. -/
theorem long_tells (w : World) : Tells 24 #[] (fun x => decide (1200 < x.2.2.1)) w := fun W x hb => long_any x.1 x.2.1 x.2.2.1 x.2.2.2.1 W

theorem enc_many (A : Option Addr) (n c : Nat) (w : World) (hn : 32 < n) :
    Calls Try.prog 12 #[.slice A n c] w fun e w' => e = .returned (.tuple #[.slice none 0 0, .int .i64 10]) ∧ Below w.heap.size w w' := by
  have hn' : 32 < (n : Int) := by omega
  clear hn
  go_enter Try.func12, Try.ntmps12
  go_wp2_with fail
  go_ret2
  exact ⟨rfl, Below.refl _ _⟩
theorem any_long {w : World} {A : Option Addr} {n c : Nat} {l : List PX} (h : PS w A n c l) : l.any (fun x => decide (1200 < x.2.2.1)) = (l.map pm).any fun p => decide (1200 < p.2.length) := by
  rw [List.any_map]
  have : ∀ m : List PX, (∀ x ∈ m, VP w x) → m.any (fun x => decide (1200 < x.2.2.1)) = m.any ((fun p : Pm => decide (1200 < p.2.length)) ∘ pm) := by
    intro m
    induction m with
    | nil => simp
    | cons x r ih =>
      intro hm
      rw [List.any_cons, List.any_cons, ih fun y hy => hm y (by simp [hy]), (hm x (by simp)).len]
      rfl
  exact this l h.2.2.2
theorem enc_long (A : Option Addr) (n c : Nat) (l : List PX) (w : World) (h : PS w A n c l) (hn : n ≤ 32) (hl : (l.map pm).any (fun p => decide (1200 < p.2.length)) = true) :
    Calls Try.prog 12 #[.slice A n c] w fun e w' => e = .returned (.tuple #[.slice none 0 0, .int .i64 10]) ∧ Below w.heap.size w w' := by
  have K := contains_any 24 #[] _ (enters_of Try.func24 (by kernel_rfl) rfl) A n c l w h (by omega) (long_tells w)
  rw [any_long h, hl] at K
  replace K := keep K
  have hn' : ¬ 32 < (n : Int) := by omega
  clear h hl
  go_enter Try.func12, Try.ntmps12
  go_wp2_with (go_at_call 23; refine K.out.mono ?_; rintro e w1 ⟨rfl, hb1⟩; replace hb1 := keep hb1)
  go_ret2
  exact ⟨rfl, hb1.out⟩

theorem enc_ok (A : Option Addr) (n c : Nat) (l : List PX) (w : World) (h : PS w A n c l) (hl : tooL (l.map pm) = false) :
    Calls Try.prog 12 #[.slice A n c] w fun e w' => ∃ A' n' c', e = .returned (.tuple #[.slice A' n' c', .int .i64 0]) ∧ BS w' A' n' c' (encL (l.map pm)) ∧ Below w.heap.size w w' := by
  obtain ⟨i0, hi0, hz0, hz1, hz2⟩ := info_parts u8_info
  obtain ⟨hl1, hl2⟩ := tooL_false.1 hl
  have hn : n ≤ 32 := by rw [h.len]; simpa using hl1
  have hn' : ¬ 32 < (n : Int) := by omega
  have K := contains_any 24 #[] _ (enters_of Try.func24 (by kernel_rfl) rfl) A n c l w h (by omega) (long_tells w)
  rw [any_long h, show (l.map pm).any (fun p => decide (1200 < p.2.length)) = false by rw [List.any_eq_false]; intro p hp; have := hl2 p hp; simp; omega] at K
  replace K := keep K
  have HL := keep h.len
  have H := keep h
  have H2 := keep hl2
  clear h hl hl1 hl2
  go_enter Try.func12, Try.ntmps12
  go_wp2_with (go_at_call 23; refine K.out.mono ?_; rintro e w1 ⟨rfl, hb1⟩; replace hb1 := keep hb1)
  go_loopw [4, 6, 16] (fun out _ i wr => ∃ (j : Nat) (A' : Option Addr) (m c' : Nat), j ≤ n ∧ i = .int .i64 j ∧ out = .slice A' m c' ∧ m ≤ 1300 * j ∧ Hid (wr.ownsRow w.heap.size 5 1 (.slice A' m c') m (bc (encL ((l.take j).map pm)))) ∧ Below w.heap.size w wr)
    (fun _ _ i _ => n - (intOf i).toNat)
  case atStart => exact ⟨0, none, 0, 0, Nat.zero_le _, rfl, rfl, Nat.zero_le _, World.ownsRow_nil _ _ _ _, hb1.out⟩
  case round =>
    obtain ⟨j, A', m, c', hj, rfl, rfl, hm, ho, hb⟩ := hrel
    by_cases hlt : j < n
    · obtain ⟨b, o, ⟨xk, xa, xn, xc, xv⟩, rfl, hbl, hc0, hc1, hlj, hvp⟩ := (H.out.step hb).at_ hlt
      obtain ⟨x, hxe⟩ : ∃ x : PX, x = (xk, xa, xn, xc, xv) := ⟨_, rfl⟩
      rw [← hxe] at hlj hvp
      replace hc0 : wr.cell? ⟨b, o + j * 2, none⟩ = some (.int .u16 xk) := hc0
      replace hc1 : wr.cell? ⟨b, o + j * 2 + 1, none⟩ = some (.slice xa xn xc) := hc1
      have htk : (l.take (j + 1)).map pm = (l.take j).map pm ++ [pm x] := by rw [List.take_add_one, hlj]; simp
      have hx : x.2.2.1 ≤ 1200 := by rw [hvp.len]; exact H2.out _ (List.mem_map.2 ⟨x, List.mem_of_getElem? hlj, rfl⟩)
      have l1 := below_lay wr (.cells #[.int .u16 xk, .slice xa xn xc] 44)
      have KW := written_any x _ (hvp.step l1) hx
      rw [show pv x = .agg #[.int .u16 xk, .slice xa xn xc] by rw [hxe]; rfl] at KW
      replace KW := keep KW
      have hlen := enc1_len (pm x)
      rw [← hvp.len] at hlen
      have HT := keep (show encL ((l.take (j + 1)).map pm) = encL ((l.take j).map pm) ++ enc1 (pm x) by rw [htk, encL_append]; simp [encL])
      have hb' := keep (hb.trans (l1.mono hb.size))
      have HLE := keep hlen
      have L1 := keep l1
      clear htk hlj hvp hlen l1 hb hxe
      go_wp2_with (first
        | (go_at_call 25; refine KW.out.mono ?_; rintro e w2 ⟨A2, n2, c2, rfl, hs2, hb2, _⟩
           have hb3 := hb'.out.trans (hb2.mono hb'.out.size)
           have hsz3 := hb3.size
           have ho2 := keep (own_step ho.out (up L1.out hb2))
           have HS := keep hs2
           have HS2 := keep (show n2 = (bc (enc1 (pm x))).length by rw [bc_length]; exact hs2.len)
           have hn2 : n2 ≤ 1300 := by have := hs2.len; have := HLE.out; omega
           replace hb3 := keep hb3
           clear hs2)
        | (at_builtin; refine wpl_append rfl (.tmp 20) (.tmp 22) 26 rfl w.heap.size 5 i0 (.int .u8 0) Try.underlying26 hi0 hz0 hz1 rfl _ m _ rfl ho2.out _ n2 c2 _ rfl HS2.out HS.out.br.sr (bc_one _) (by unfold maxLen; omega) (by rw [hz2]; omega) hsz3 ?_
           intro A3 c3 w3 ho3 hb4
           have hb5 := hb3.out.trans hb4))
      go_roundw
      case rel =>
        refine ⟨j + 1, A3, m + n2, c3, by omega, by go_num, rfl, by omega, ?_, hb5⟩
        have h3 := ho3.out
        rw [← bc_append, ← HT.out] at h3
        exact h3
      case measure => simp [intOf]; omega
    · obtain rfl : n = j := by omega
      rw [List.take_of_length_le (by have := HL.out; omega)] at ho
      go_wp2_with fail
      go_ret2
      exact ⟨A', m, c', rfl, BS.of_own ho.out, hb⟩

/-- What Encode answers. -/
def EncPost (w : World) (l : List Pm) (e : Ending) (w' : World) : Prop :=
  Below w.heap.size w w' ∧ ((tooL l = true ∧ e = .returned (.tuple #[.slice none 0 0, .int .i64 10])) ∨
    (tooL l = false ∧ ∃ A n c, e = .returned (.tuple #[.slice A n c, .int .i64 0]) ∧ BS w' A n c (encL l)))
theorem encode_any (A : Option Addr) (n c : Nat) (l : List PX) (w : World) (h : PS w A n c l) :
    Calls Try.prog 12 #[.slice A n c] w (EncPost w (l.map pm)) := by
  cases ht : tooL (l.map pm)
  · exact (enc_ok A n c l w h ht).mono fun e w' ⟨A', n', c', he, hs, hb⟩ => ⟨hb, .inr ⟨ht, A', n', c', he, hs⟩⟩
  · by_cases hn : 32 < n
    · exact (enc_many A n c w hn).mono fun e w' ⟨he, hb⟩ => ⟨hb, .inl ⟨ht, he⟩⟩
    · have hl : (l.map pm).any (fun p => decide (1200 < p.2.length)) = true := by
        unfold tooL at ht
        rw [Bool.or_eq_true] at ht
        rcases ht with ht | ht
        · have := h.len
          simp at ht
          omega
        · exact ht
      exact (enc_long A n c l w h (by omega) hl).mono fun e w' ⟨he, hb⟩ => ⟨hb, .inl ⟨ht, he⟩⟩

/-! ### Find -/
/-- The place of the first one of a kind. -/
def findL (l : List Pm) (k : Int) : Int := idxP (fun p => p.1 == k) l
theorem findL_pm : ∀ (l : List PX) (k : Int), idxP (fun x : PX => x.1 == k) l = findL (l.map pm) k
  | [], k => rfl
  | x :: r, k => by
    have := findL_pm r k
    unfold findL at this ⊢
    rw [List.map_cons, idxP, idxP, this]
    rfl
theorem kind_tells (k : Int) (B : Nat) (w : World) (hB : B < w.heap.size) (hc : w.cell? ⟨B, 0, none⟩ = some (.int .u16 k)) : Tells 29 #[.pointer (some ⟨B, 0, none⟩)] (fun x => x.1 == k) w := fun W x hb => by
  have hc' : W.cell? ⟨B, 0, none⟩ = some (.int .u16 k) := (hb.cell (p := ⟨B, 0, none⟩) hB).trans hc
  have hBW : B < W.heap.size := Nat.lt_of_lt_of_le hB hb.size
  have hne : B ≠ W.heap.size := by omega
  show Calls Try.prog 29 #[.agg #[.int .u16 x.1, vs x], .pointer (some ⟨B, 0, none⟩)] W _
  go_enter Try.func29, Try.ntmps29
  go_wp2
  all_goals (go_ret; exact ⟨rfl, below_lay _ _⟩)
theorem find_any (A : Option Addr) (n c : Nat) (l : List PX) (k : Int) (w : World) (h : PS w A n c l) (hn : n ≤ 1000000) :
    Calls Try.prog 15 #[.slice A n c, .int .u16 k] w fun e w' => e = .returned (.int .i64 (findL (l.map pm) k)) ∧ Below w.heap.size w w' := by
  have l1 := below_lay w (.cells #[.int .u16 k] 23)
  have K := index_any 29 #[.pointer (some ⟨w.heap.size, 0, none⟩)] _ (enters_of Try.func29 (by kernel_rfl) rfl) A n c l _ (h.step l1) hn (kind_tells k w.heap.size _ (by simp) (by rw [cell_of_row _ _ _ _ _ _ (heap_alloc_new w _)]; rfl))
  rw [findL_pm] at K
  generalize findL (l.map pm) k = z at K ⊢
  replace K := keep K
  clear h
  go_enter Try.func15, Try.ntmps15
  go_wp2_with (go_at_call 28; refine K.out.mono ?_; rintro e w1 ⟨rfl, hb1⟩; replace hb1 := keep hb1)
  go_ret
  exact ⟨rfl, up l1 hb1.out⟩
end Go.Proofs.Ytaifigmbjcebeaa
