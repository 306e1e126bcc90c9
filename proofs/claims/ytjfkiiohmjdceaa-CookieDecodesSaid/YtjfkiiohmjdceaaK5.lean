/- cookie.fits, Decode, Check: which state octets are under a key, and whether it is fresh. -/
import Derived.Test.YtjfkiiohmjdceaaK4
import Derived.Lib.SlBytesConst
namespace Go.Proofs.Ytjfkiiohmjdceaa
open Go.RowKit
set_option linter.unusedVariables false

/-- A part of a slice that is long enough. -/
theorem BS.part {w : World} {A : Option Addr} {n c : Nat} {bs : List UInt8} (h : BS w A n c bs) (i k : Nat) (hk : 0 < k) (hik : i + k ≤ n) : ∃ b o, A = some ⟨b, o, none⟩ ∧ BS w (some ⟨b, o + i, none⟩) k (c - i) ((bs.drop i).take k) := by
  obtain ⟨b, o, rfl, _⟩ := h.place (by omega)
  refine ⟨b, o, rfl, ?_⟩
  have h1 := h.drop i (by omega)
  rw [if_neg (by have := h.cap; omega)] at h1
  have h2 := h1.take k (c - i) (by omega) (by have := h.cap; omega)
  simpa [Addr.add_lit] using h2

theorem fits_any (K : Option Addr) (ck : Nat) (key : List UInt8) (A : Option Addr) (c : Nat) (bs : List UInt8) (w : World) (hk : BS w K 16 ck key) (hb : BS w A 60 c bs) :
    Calls Try.prog 13 #[.slice K 16 ck, .slice A 60 c] w fun e w' => e = .returned (.bool (((code key (bs.take 48)).toNat : Int) == n8 bs 48)) ∧ Below w.heap.size w w' := by
  have hc : (60 : Int) ≤ (c : Int) := by have := hb.cap; omega
  have hcn : ¬ c = 48 := by omega
  have hc48 : (48 : Int) ≤ (c : Int) := by omega
  have hc56 : (56 : Int) ≤ (c : Int) := by omega
  obtain ⟨b0, o0, rfl, hs⟩ := hb.part 48 8 (by omega) (by omega)
  have h48 := hb.take 48 c (by omega) (by omega)
  have K1 := keep (Code_some K ck key _ 48 c _ w hk h48 (by omega))
  obtain ⟨q, hq⟩ : ∃ q, code key (bs.take 48) = q := ⟨_, rfl⟩
  rw [hq] at K1 ⊢
  have HS := keep hs
  have HL := keep hb.len
  clear hk hb h48 hs hq
  go_enter Try.func13, Try.ntmps13
  go_wp2_with fail
  refine K1.out.mono ?_
  rintro e w1 ⟨rfl, hb1⟩
  have K2 := keep (new_any _ 8 (c - 48) _ w1 (HS.out.step hb1) (by omega))
  clear K1
  go_wp2_with fail
  refine K2.out.mono ?_
  rintro e w2 ⟨g, A2, n2', c2, rfl, hr2, hg2, hb2, ht2⟩
  have hn2 : n2' = 8 := by have := hr2.2.len; rw [List.length_take, List.length_drop] at this; have := HL.out; omega
  subst hn2
  have K3 := read64_some g A2 8 c2 _ (by omega) w2 hr2
  have e8 : n8 ((bs.drop 48).take 8) 0 = n8 bs 48 := by
    unfold n8 n4
    rw [List.drop_zero, List.take_take, List.drop_take, List.take_take, List.drop_drop]
    rfl
  rw [e8] at K3
  replace K3 := keep K3
  have H1 := keep hb1
  have H2 := keep (And.intro hb2 hg2)
  clear K2 hr2 ht2 hb1 hb2 hg2
  go_wp2_with fail
  refine K3.out.mono ?_
  rintro e w3 ⟨rfl, A3, n3, c3, hr3, hg3, hs3⟩
  have H3 := keep hg3
  clear K3 hr3 hg3 hs3
  go_wp2_with fail
  go_ret
  obtain ⟨hb2, hg2⟩ := H2.out
  have l2 := up H1.out hb2
  refine ⟨rfl, l2.grown H3.out l2.size (fun k e => by cases e; have := H1.out.size; omega)⟩

/-- What Decode answers. -/
def DecPost (w : World) (s : CS) (x : Int) (e : Ending) (w' : World) : Prop := e = .returned (.tuple #[.agg s.cells, .int .i64 x]) ∧ Below w.heap.size w w'
theorem zero_new (w : World) : SB (w.alloc (.cells #[.int .i64 0, .int .i64 0, .int .u32 0, .int .u32 0, .int .u32 0, .int .u32 0, .int .u32 0, .int .u16 0, .int .u16 0, .int .u32 0, .int .u32 0] 28)) w.heap.size CS.zero.cells := heap_alloc_new w _
theorem decode_key (K : Option Addr) (q ck : Nat) (hq : q ≠ 16) (A : Option Addr) (n c : Nat) (w : World) :
    Calls Try.prog 5 #[.slice K q ck, .slice A n c] w (DecPost w .zero 1) := by
  have hq' : ((q : Int) != 16) = true := by simp; omega
  clear hq
  go_enter Try.func5, Try.ntmps5
  go_wp2_with fail
  refine bodyPost_ret (ret_st_err rfl _ _ w.heap.size .zero rfl (zero_new w)) rfl ⟨rfl, below_lay w _⟩
theorem decode_short (K : Option Addr) (ck : Nat) (A : Option Addr) (n c : Nat) (hn : n < 60) (w : World) :
    Calls Try.prog 5 #[.slice K 16 ck, .slice A n c] w (DecPost w .zero 2) := by
  have hn' : (n : Int) < 60 := by omega
  clear hn
  go_enter Try.func5, Try.ntmps5
  go_wp2_with fail
  refine bodyPost_ret (ret_st_err rfl _ _ w.heap.size .zero rfl (zero_new w)) rfl ⟨rfl, below_lay w _⟩
theorem decode_long (K : Option Addr) (ck : Nat) (A : Option Addr) (n c : Nat) (hn : 60 < n) (w : World) :
    Calls Try.prog 5 #[.slice K 16 ck, .slice A n c] w (DecPost w .zero 3) := by
  have hn' : ¬ (n : Int) < 60 := by omega
  have hn2 : 60 < (n : Int) := by omega
  clear hn
  go_enter Try.func5, Try.ntmps5
  go_wp2_with fail
  refine bodyPost_ret (ret_st_err rfl _ _ w.heap.size .zero rfl (zero_new w)) rfl ⟨rfl, below_lay w _⟩

abbrev bolC : Array Value := #[.int .u8 66, .int .u8 79, .int .u8 76, .int .u8 49]
abbrev zeroC : Array Value := #[.int .i64 0, .int .i64 0, .int .u32 0, .int .u32 0, .int .u32 0, .int .u32 0, .int .u32 0, .int .u16 0, .int .u16 0, .int .u32 0, .int .u32 0]
/-- The world in which the mark is laid. -/
def markW (w : World) : World := (w.alloc (.cells zeroC 28)).alloc (.cells bolC 5 (4, 5))
theorem mark_run (w : World) : (convert 22 22 (.slice (some ⟨w.heap.size + 1, 0, none⟩) 4 4)).run Try.prog ((w.alloc (.cells zeroC 28)).alloc (.cells bolC 5)) = .ok (.slice (some ⟨w.heap.size + 1, 0, none⟩) 4 4) (markW w) := by
  have := Lib.run_convert_bytes_const (P := Try.prog) (w.alloc (.cells zeroC 28)) 22 5 bolC 4 4 Try.underlying22 Try.underlying5
  rw [World.size_alloc] at this
  exact this
theorem mark_bol (w : World) : BS (markW w) (some ⟨w.heap.size + 1, 0, none⟩) 4 4 bol := by
  refine ⟨rfl, Nat.le_refl _, BR.row (t := 5) (fr := (4, 5)) ?_⟩
  have := heap_alloc_new (w.alloc (.cells zeroC 28)) (.cells bolC 5 (4, 5))
  rw [World.size_alloc] at this
  exact this
theorem mark_below (w : World) : Below w.heap.size w (markW w) := up (below_lay w _) (below_lay _ _)
theorem mark_zero (w : World) : SB (markW w) w.heap.size CS.zero.cells := (zero_new w).step (below_lay _ _)
theorem suffix_mark (w : World) (A : Option Addr) (c : Nat) (bs : List UInt8) (hb : BS w A 60 c bs) (x : Bool) (hx : (bs.drop 56 == bol) = x) :
    Calls Try.prog 12 #[.slice A 60 c, .slice (some ⟨w.heap.size + 1, 0, none⟩) 4 4] (markW w) fun e w' => e = .returned (.bool x) ∧ w' = markW w := by
  subst hx
  exact (suffix_any A _ c 4 bs bol _ (hb.step (mark_below w)) (mark_bol w)).mono fun e w' h => ⟨h.1, h.2.symm⟩
set_option maxRecDepth 100000 in
set_option maxHeartbeats 1000000 in
theorem decode_mark (K : Option Addr) (ck : Nat) (A : Option Addr) (c : Nat) (bs : List UInt8) (w : World) (hb : BS w A 60 c bs) (hm : bs.drop 56 ≠ bol) :
    Calls Try.prog 5 #[.slice K 16 ck, .slice A 60 c] w (DecPost w .zero 3) := by
  have K1 := keep (suffix_mark w A c bs hb false (by simpa using hm))
  have kc := mark_run w
  have HM := keep (And.intro (mark_zero w) (mark_below w))
  obtain ⟨⟨r0, r1, r2, r3, r4, r5, r6, r7, r8, r9, r10⟩, y0, y1, y2, y3, y4, y5, y6, y7, y8, y9, y10⟩ := (mark_zero w).all
  obtain ⟨W, hW⟩ : ∃ W, markW w = W := ⟨_, rfl⟩
  rw [hW] at *
  clear hb hm hW
  go_enter Try.func5, Try.ntmps5
  go_wp2_with (go_at_call 12; refine K1.out.mono ?_; rintro e w1 ⟨rfl, rfl⟩)
  obtain ⟨R, B⟩ := HM.out
  (try simp only [Exit.inBlock, Exit.then])
  refine bodyPost_ret (ret_st_err rfl _ _ w.heap.size .zero rfl (laid11 R .zero)) rfl ⟨rfl, below11 B (Nat.le_refl _) _ _ _ _ _ _ _ _ _ _ _⟩
set_option maxRecDepth 100000 in
set_option maxHeartbeats 1000000 in
theorem decode_code (K : Option Addr) (ck : Nat) (key : List UInt8) (A : Option Addr) (c : Nat) (bs : List UInt8) (w : World) (hk : BS w K 16 ck key) (hb : BS w A 60 c bs) (hm : bs.drop 56 = bol) (hf : ((code key (bs.take 48)).toNat : Int) ≠ n8 bs 48) :
    Calls Try.prog 5 #[.slice K 16 ck, .slice A 60 c] w (DecPost w .zero 6) := by
  have K1 := keep (suffix_mark w A c bs hb true (by simpa using hm))
  have kc := mark_run w
  have K2 := fits_any K ck key A c bs (markW w) (hk.step (mark_below w)) (hb.step (mark_below w))
  rw [show (((code key (bs.take 48)).toNat : Int) == n8 bs 48) = false by simpa using hf] at K2
  replace K2 := keep K2
  have HM := keep (And.intro (mark_zero w) (mark_below w))
  obtain ⟨W, hW⟩ : ∃ W, markW w = W := ⟨_, rfl⟩
  rw [hW] at *
  clear hb hm hW hk hf
  go_enter Try.func5, Try.ntmps5
  go_wp2_with (first
    | (go_at_call 12; refine K1.out.mono ?_; rintro e w1 ⟨rfl, rfl⟩)
    | (go_at_call 13; refine K2.out.mono ?_; rintro e w2 ⟨rfl, hb2⟩
       have R2 := HM.out.1.step hb2
       obtain ⟨⟨r0, r1, r2, r3, r4, r5, r6, r7, r8, r9, r10⟩, y0, y1, y2, y3, y4, y5, y6, y7, y8, y9, y10⟩ := R2.all
       have HR := keep (And.intro R2 (HM.out.2.trans (hb2.mono HM.out.2.size)))
       clear R2 hb2 K2 HM))
  obtain ⟨R, B⟩ := HR.out
  (try simp only [Exit.inBlock, Exit.then])
  refine bodyPost_ret (ret_st_err rfl _ _ w.heap.size .zero rfl (laid11 R .zero)) rfl ⟨rfl, below11 B (Nat.le_refl _) _ _ _ _ _ _ _ _ _ _ _⟩
set_option maxRecDepth 100000 in
set_option maxHeartbeats 1000000 in
theorem decode_form (K : Option Addr) (ck : Nat) (key : List UInt8) (A : Option Addr) (c : Nat) (bs : List UInt8) (w : World) (hk : BS w K 16 ck key) (hb : BS w A 60 c bs) (hm : bs.drop 56 = bol) (hf : ((code key (bs.take 48)).toNat : Int) = n8 bs 48) (x : Bool) (hx : decide (stateOf (bs.take 48)).may = x) :
    Calls Try.prog 5 #[.slice K 16 ck, .slice A 60 c] w (DecPost w (if x then stateOf (bs.take 48) else .zero) (if x then 0 else 3)) := by
  have K1 := keep (suffix_mark w A c bs hb true (by simpa using hm))
  have kc := mark_run w
  have K2 := fits_any K ck key A c bs (markW w) (hk.step (mark_below w)) (hb.step (mark_below w))
  rw [show (((code key (bs.take 48)).toNat : Int) == n8 bs 48) = true by simpa using hf] at K2
  replace K2 := keep K2
  have hc48 : (48 : Int) ≤ (c : Int) := by have := hb.cap; omega
  have HM := keep (And.intro (mark_zero w) (And.intro (mark_below w) ((hb.take 48 c (by omega) (by omega)).step (mark_below w))))
  obtain ⟨W, hW⟩ : ∃ W, markW w = W := ⟨_, rfl⟩
  obtain ⟨s, hs⟩ : ∃ s, stateOf (bs.take 48) = s := ⟨_, rfl⟩
  have HS := keep hs
  have hx' : decide s.may = x := by rw [← hs]; exact hx
  rw [hs]
  rw [hW] at *
  have KM := mayBe_any s
  rw [hx'] at KM
  replace KM := keep KM
  clear hb hm hW hk hf hs hx hx'
  obtain ⟨made, life, tag, peer, fst, pf, room, out, inn, t0, t1⟩ := s
  dsimp only [CS.cells] at KM
  cases x
  all_goals
    go_enter Try.func5, Try.ntmps5
    go_wp2_with (first
      | (go_at_call 12; refine K1.out.mono ?_; rintro e w1 ⟨rfl, rfl⟩)
      | (go_at_call 13; refine K2.out.mono ?_; rintro e w2 ⟨rfl, hb2⟩
         have K3 := state_any A c (bs.take 48) w2 (HM.out.2.2.step hb2)
         rw [HS.out] at K3
         replace K3 := keep K3
         have HR := keep (And.intro (HM.out.1.step hb2) (HM.out.2.1.trans (hb2.mono HM.out.2.1.size)))
         clear hb2 K2 HM)
      | (go_at_call 14; refine K3.out.mono ?_; rintro e w3 ⟨rfl, hb3⟩
         have HR3 := keep (And.intro ((HR.out.1.step hb3).step (below_lay w3 (.cells #[.int .i64 made, .int .i64 life, .int .u32 tag, .int .u32 peer, .int .u32 fst, .int .u32 pf, .int .u32 room, .int .u16 out, .int .u16 inn, .int .u32 t0, .int .u32 t1] 28))) ((HR.out.2.trans (hb3.mono HR.out.2.size)).alloc (HR.out.2.trans (hb3.mono HR.out.2.size)).size (.cells #[.int .i64 made, .int .i64 life, .int .u32 tag, .int .u32 peer, .int .u32 fst, .int .u32 pf, .int .u32 room, .int .u16 out, .int .u16 inn, .int .u32 t0, .int .u32 t1] 28)))
         have C3 := keep (CB.new w3 ⟨made, life, tag, peer, fst, pf, room, out, inn, t0, t1⟩)
         clear hb3 K3 HR)
      | (go_at_call 15; refine (KM.out _).mono ?_; rintro e w4 ⟨rfl, hb4⟩
         have R4 := HR3.out.1.step hb4
         obtain ⟨⟨r0, r1, r2, r3, r4, r5, r6, r7, r8, r9, r10⟩, y0, y1, y2, y3, y4, y5, y6, y7, y8, y9, y10⟩ := R4.all
         obtain ⟨⟨p0, p1, p2, p3, p4, p5, p6, p7, p8, p9, p10⟩, _⟩ := SB.all (C3.out.step hb4)
         have HR4 := keep (And.intro R4 (HR3.out.2.trans (hb4.mono HR3.out.2.size)))
         clear R4 hb4 HR3 C3))
  all_goals
    obtain ⟨R, B⟩ := HR4.out
    (try simp only [Exit.inBlock, Exit.then])
  · refine bodyPost_ret (ret_st_err rfl _ _ w.heap.size .zero rfl (laid11 R .zero)) rfl ⟨rfl, below11 B (Nat.le_refl _) _ _ _ _ _ _ _ _ _ _ _⟩
  · refine bodyPost_ret (ret_st_err rfl _ _ w.heap.size ⟨made, life, tag, peer, fst, pf, room, out, inn, t0, t1⟩ rfl (laid11 R ⟨made, life, tag, peer, fst, pf, room, out, inn, t0, t1⟩)) rfl ⟨rfl, below11 B (Nat.le_refl _) _ _ _ _ _ _ _ _ _ _ _⟩
theorem decode_any (K : Option Addr) (q ck : Nat) (key : List UInt8) (A : Option Addr) (n c : Nat) (bs : List UInt8) (w : World) (hk : BS w K q ck key) (hb : BS w A n c bs) :
    Calls Try.prog 5 #[.slice K q ck, .slice A n c] w (DecPost w (dec key bs).1 (dec key bs).2) := by
  have hkl := hk.len
  have hbl := hb.len
  unfold dec
  by_cases h1 : key.length ≠ 16
  · rw [if_pos h1]
    exact decode_key K q ck (by omega) A n c w
  · rw [if_neg h1]
    obtain rfl : q = 16 := by omega
    by_cases h2 : bs.length < 60
    · rw [if_pos h2]
      exact decode_short K ck A n c (by omega) w
    · rw [if_neg h2]
      by_cases h3 : 60 < bs.length
      · rw [if_pos (.inl h3)]
        exact decode_long K ck A n c (by omega) w
      · obtain rfl : n = 60 := by omega
        by_cases h4 : bs.drop 56 = bol
        · rw [if_neg (by simp [h3, h4])]
          have hi := fits_iff key bs (by omega) h4
          by_cases h5 : ((code key (bs.take 48)).toNat : Int) = n8 bs 48
          · rw [if_neg (by rw [hi.1 h5]; simp)]
            have := decode_form K ck key A c bs w hk hb h4 h5 _ rfl
            by_cases h6 : (stateOf (bs.take 48)).may
            · rw [if_pos h6]
              simpa [h6] using this
            · rw [if_neg h6]
              simpa [h6] using this
          · rw [if_pos (fun h => h5 (hi.2 h))]
            exact decode_code K ck key A c bs w hk hb h4 h5
        · rw [if_pos (.inr h4)]
          exact decode_mark K ck A c bs w hb h4
end Go.Proofs.Ytjfkiiohmjdceaa
