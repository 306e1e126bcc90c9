/- One more number; skipping up to a number. -/
import Derived.WalkSpells
import Derived.KernelRfl
import Derived.Test.YtofebpikihandaaGC
namespace Go.Proofs.Ytofebpikihandaa
open Go.RowKit Go.Maps
set_option linter.unusedVariables false

/-- How far the floor goes up. -/
def riseL (L : List Nat) : Nat := riseFrom L 1024 0
theorem Fit.rise {L : List Nat} (h : Fit L) : Rise L (riseL L) := riseFrom_spec L 1024 h.top 1024 0 (by omega) fun h h1 h2 => absurd h1 (by omega)
/-- What a set knows: its floor, the heights above it, what was told twice. -/
structure St where
  f : Int
  L : List Nat
  T : List Int
abbrev SA (w : World) (b k : Nat) (v : Value) (s : St) : Prop := SetAt w b k v s.f s.L s.T
def St.new (first : Int) : St := ⟨wr (first - 1), [], []⟩
def St.put (s : St) (h : Nat) : St := ⟨wr (s.f + riseL (insN h s.L)), shiftL (riseL (insN h s.L)) (insN h s.L), s.T⟩
def St.add (s : St) (n : Int) : St := if had s.f s.L n = true then ⟨s.f, s.L, (s.T ++ [n]).take 64⟩ else if 1024 < ht s.f n then s else s.put (ht s.f n)
def St.told (s : St) (n : Int) : Int := if had s.f s.L n = true then 1 else if 1024 < ht s.f n then 2 else 0
def St.fwd (s : St) (n : Int) : St := if 1 ≤ ht s.f n ∧ ht s.f n < 2147483648 then ⟨wr (n + riseL (shiftL (ht s.f n) s.L)), shiftL (riseL (shiftL (ht s.f n) s.L)) (shiftL (ht s.f n) s.L), s.T⟩ else s

theorem Turned.of_part {w w' w2 : World} {b k : Nat} {v : Value} {s : St} (h : SA w b k v s) (h1 : Below w.heap.size w w2) {f : Int} {L : List Nat} {T : List Int} (h2 : Turned w2 b k v f L T w') : Turned w b k v f L T w' := by
  obtain ⟨v', hs, hv, hp⟩ := h2
  refine ⟨v', hs, ?_, ?_⟩
  · rcases hv with hv | hv | ⟨g, hv, hg⟩
    · exact .inl hv
    · exact .inr (.inl hv)
    · exact .inr (.inr ⟨g, hv, Nat.le_trans h1.size hg⟩)
  · exact (Part.of_below (Ow b k v) h1).trans hp fun i hi => .inl hi

set_option maxHeartbeats 2000000 in
theorem Add_set {b k : Nat} {v : Value} {s : St} {w : World} (h : SA w b k v s) {n : Int} (n0 : 0 ≤ n) (n1 : n < 4294967296) :
    Calls Try.prog 8 #[.pointer (some ⟨b, 0, none⟩), .int .u32 n] w fun e w' => e = .returned (.int .i64 (s.told n)) ∧ Turned w b k v (s.add n).f (s.add n).L (s.add n).T w' := by
  have HA := keep (Has_set h n0 n1)
  have H := keep h
  unfold St.told St.add
  by_cases hh : had s.f s.L n = true
  · rw [if_pos hh, if_pos hh]
    rw [hh] at HA
    have HR := keep fun (w2 : World) (hb : Below w.heap.size w w2) => (remember_set (h.step hb) n).mono fun e w' he => And.intro he.1 (Turned.of_part h hb he.2)
    clear h hh n0 n1
    go_enter Try.func8, Try.ntmps8
    go_wp2_with (first
      | (go_at_call 21; refine HA.out.mono ?_; rintro e w2 ⟨rfl, hb2⟩; replace hb2 := keep hb2)
      | (go_at_call 24; refine (HR.out w2 hb2.out).mono ?_; rintro e w3 ⟨rfl, ht3⟩; replace ht3 := keep ht3))
    go_ret
    exact ⟨rfl, ht3.out⟩
  · have hno := hh
    rw [had_iff] at hno
    rw [if_neg hh, if_neg hh]
    rw [show had s.f s.L n = false by simpa using hh] at HA
    have HC := keep fun (w2 : World) (hb : Below w.heap.size w w2) => (h.step hb).c0
    have e1 := ht_int s.f n
    by_cases hf : 1024 < ht s.f n
    · rw [if_pos hf, if_pos hf]
      have hd : (1024 : Int) < dist32 s.f n := by omega
      have HT := keep fun (w2 : World) (hb : Below w.heap.size w w2) => (show Turned w b k v s.f s.L s.T w2 from ⟨v, h.step hb, .inl rfl, Part.of_below _ hb⟩)
      clear h hh n0 n1 hno e1 hf
      go_enter Try.func8, Try.ntmps8
      go_wp2_with (first
        | (go_at_call 21; refine HA.out.mono ?_; rintro e w2 ⟨rfl, hb2⟩; have c2 := HC.out w2 hb2; replace hb2 := keep hb2)
        | (go_at_call 25; refine (Dist_any _ _ _).mono ?_; rintro e w' ⟨rfl, rfl⟩))
      go_ret
      exact ⟨rfl, HT.out _ hb2.out⟩
    · rw [if_neg hf, if_neg hf]
      have hd : ¬ (1024 : Int) < dist32 s.f n := by omega
      have HP := keep fun (w2 : World) (hb : Below w.heap.size w w2) => put_set (h.step hb) n0 n1 (by omega) (by omega)
      have HR := keep fun (w2 : World) (h2 : SetAt w2 b k v s.f (insN (ht s.f n) s.L) s.T) => (rise_set h2).mono fun e w' he => And.intro he.1 (show SA w' b k v (s.put (ht s.f n)) ∧ Part (fun i => i = b ∨ i = k) w2 w' by
        obtain ⟨u, h1, h3, h4⟩ := he.2
        have := h1.one h2.map.1.rise
        subst this
        exact ⟨h3, h4⟩)
      clear h hh n0 n1 hno e1 hf
      go_enter Try.func8, Try.ntmps8
      go_wp2_with (first
        | (go_at_call 21; refine HA.out.mono ?_; rintro e w2 ⟨rfl, hb2⟩; have c2 := HC.out w2 hb2; replace hb2 := keep hb2)
        | (go_at_call 25; refine (Dist_any _ _ _).mono ?_; rintro e w' ⟨rfl, rfl⟩)
        | (go_at_call 26; refine (HP.out w2 hb2.out).mono ?_; rintro e w3 ⟨rfl, h3⟩; replace h3 := keep h3)
        | (go_at_call 27; refine (HR.out w3 h3.out.1).mono ?_; rintro e w4 ⟨rfl, h4⟩; replace h4 := keep h4))
      go_ret
      refine ⟨rfl, v, h4.out.1, .inl rfl, ?_⟩
      exact ((Part.of_below (Ow b k v) hb2.out).trans h3.out.2 fun i hi => .inl (.inr (.inl hi))).trans h4.out.2 fun i hi => .inl (hi.elim .inl fun hi => .inr (.inl hi))

/-! ### The range over the map -/
theorem of_wf32 {x : Int} (h : (Lit.int .u32 x).wf = true) : 0 ≤ x ∧ x < 4294967296 := by
  simp [Lit.wf, IntKind.min, IntKind.max, IntKind.signed, IntKind.bits] at h
  omega
section
variable (w : World) {ops : Array Oper} {rest : List Oper} {o : Oper} {a : Act} {Q : Exit → Act → World → Prop}
theorem next_iu (hg : o.guard = none) (it : Operand) (hop : o.op = Op.next it false) (k r n : Nat) (D : Dat) (left : Lit → Bool) (cnt : Nat) (hit : a.eval it = .pointer (some ⟨r, 0, none⟩)) (h : w.ranges Try.prog 22 UE k r n D left cnt)
    (hDone : cnt = 0 → (∀ kl, left kl = false) → wpList Try.prog ops Q rest (a.put o.dst (.tuple #[.bool false])) w)
    (hMore : ∀ (x : Int) (w' : World) (cnt' : Nat), 0 ≤ x → x < 4294967296 → left (K x) = true → has D (K x) = true → w'.ranges Try.prog 22 UE k r n D (fun z => left z && !z.sameKey (K x)) cnt' → cnt' < cnt →
      w.grownBy w' (some r) → w'.heap.size = w.heap.size → (Instr.entry (.pointer (some ⟨r, 0, none⟩))).run Try.prog w' = .ok (.tuple #[.int .u32 x, .agg #[]]) w' → wpList Try.prog ops Q rest (a.put o.dst (.tuple #[.bool true, .int .u32 x, .agg #[]])) w') :
    wpList Try.prog ops Q (o :: rest) a w :=
  wpList_next_ranges w hg it hop 22 keyed UE (Value.int .u32) (fun _ : Unit => Value.agg #[]) (fun key kl hkey => by obtain ⟨x, rfl, _⟩ := Maps.keyOf_int_inv Try.underlying22 hkey; exact ⟨x, rfl⟩) (fun v y hv => ⟨(), (unitElem_inv hv).1⟩)
    k r n D left cnt hit h hDone (fun x c kl y w' cnt' hkey hlk hv hat hrg hlt hgr hsz hen => by
      obtain ⟨x', ex, rfl, hwx⟩ := Maps.keyOf_int_inv Try.underlying22 hkey
      cases ex
      obtain ⟨h0, h1⟩ := of_wf32 hwx
      exact hMore x w' cnt' h0 h1 hlk (has_true_of_atKey hat) hrg hlt hgr hsz hen)
end

theorem strike_self (left : Lit → Bool) (x : Int) : (left (K x) && !(K x).sameKey (K x)) = false := by rw [WideAt.sameKey_self (K_lit x)]; simp
theorem strike_other (left : Lit → Bool) {x m : Int} (h : m ≠ x) : (left (K m) && !(K m).sameKey (K x)) = left (K m) := by rw [sameKey_ne (K_ne h)]; simp

/-- Of the numbers that have come, those that are not above n are gone. -/
structure Gone (D : Dat) (n : Int) (left : Lit → Bool) (E : Dat) : Prop where
  sub : ∀ k, has E k = true → has D k = true
  is : ∀ m, has E (K m) = (has D (K m) && (left (K m) || less32 n m))
theorem Gone.start (D : Dat) (n : Int) : Gone D n (has D) D := ⟨fun _ h => h, fun m => by cases has D (K m) <;> rfl⟩
theorem Gone.stays {D E : Dat} {n x : Int} {left : Lit → Bool} (h : Gone D n left E) (hl : less32 n x = true) : Gone D n (fun z => left z && !z.sameKey (K x)) E := ⟨h.sub, fun m => by
  by_cases e : m = x
  · subst e
    rw [h.is m, strike_self, hl]
    simp
  · rw [h.is m, strike_other left e]⟩
theorem Gone.goes {D E : Dat} {n x : Int} {left : Lit → Bool} (h : Gone D n left E) (hl : less32 n x = false) : Gone D n (fun z => left z && !z.sameKey (K x)) (E.del (K x)) := ⟨fun k hk => by
  by_cases e : k = K x
  · rw [e, has_del_same] at hk
    cases hk
  · rw [has_del_other e] at hk
    exact h.sub k hk, fun m => by
  by_cases e : m = x
  · subst e
    rw [has_del_same, strike_self, hl]
    simp
  · rw [has_del_other (K_ne e), h.is m, strike_other left e]⟩
theorem Keys.gone {D E : Dat} {f n : Int} {L : List Nat} {left : Lit → Bool} (h : Keys D f L) (hL : Fit L) (n0 : 0 ≤ n) (n1 : n < 4294967296) (h1 : 1 ≤ ht f n) (h2 : ht f n < 2147483648) (g : Gone D n left E) (hl : ∀ k, left k = false) (ht' : Tidy E) : Keys E n (shiftL (ht f n) L) := by
  refine ⟨ht', fun k hk => h.only k (g.sub k hk), fun m m0 m1 => ?_⟩
  rw [g.is m, hl, h.there m m0 m1, less_ht, Bool.false_or]
  have en := up_ht (f := f) n0 n1
  have hm := ht_lt f m
  have key : (ht f m ∈ L ∧ (1 ≤ ht n m ∧ ht n m < 2147483648)) ↔ ht n m ∈ shiftL (ht f n) L := by
    rw [mem_shiftL]
    by_cases hc : ht f n ≤ ht f m
    · have := ht_shift (f := f) (n := m) hc
      rw [en] at this
      rw [this, show ht f m - ht f n + ht f n = ht f m by omega]
      constructor
      · rintro ⟨a, b, _⟩
        exact ⟨b, a⟩
      · rintro ⟨a, b⟩
        have := hL.top _ b
        exact ⟨b, a, by omega⟩
    · have := ht_round (f := f) (n := m) (d := ht f n) (by omega) (by omega)
      rw [en] at this
      rw [this]
      constructor
      · rintro ⟨a, b, c⟩
        omega
      · rintro ⟨a, b⟩
        have := hL.top _ b
        omega
  by_cases a : ht f m ∈ L
  · by_cases c : 1 ≤ ht n m ∧ ht n m < 2147483648
    · rw [decide_eq_true a, decide_eq_true c, decide_eq_true (key.1 ⟨a, c⟩)]
      rfl
    · rw [decide_eq_true a, decide_eq_false c, decide_eq_false fun e => c (key.2 e).2]
      rfl
  · rw [decide_eq_false a, decide_eq_false fun e => a (key.2 e).1, Bool.false_and]

set_option maxHeartbeats 4000000 in
theorem Forward_set {b k : Nat} {v : Value} {s : St} {w : World} (h : SA w b k v s) {n : Int} (n0 : 0 ≤ n) (n1 : n < 4294967296) :
    Calls Try.prog 10 #[.pointer (some ⟨b, 0, none⟩), .int .u32 n] w fun e w' => e = .returned (.tuple #[]) ∧ SA w' b k v (s.fwd n) ∧ Part (fun i => i = b ∨ i = k) w w' := by
  have H := keep h
  have c0 := h.c0
  have hlt := less_ht s.f n
  unfold St.fwd
  by_cases hh : 1 ≤ ht s.f n ∧ ht s.f n < 2147483648
  · rw [if_pos hh]
    rw [decide_eq_true hh] at hlt
    have HL := keep hlt
    have f0 := h.fz 0
    have HH := keep hh
    have hp0 : Part (fun i => i = b ∨ i = k) w (w.setCell ⟨b, 0, none⟩ (.int .u32 n)) := (Part.refl (fun i => i = b ∨ i = k) w).setCell (p := ⟨b, 0, none⟩) (.inl (.inl rfl)) _
    have hb0 := (set_blk h.blk (.int .u32 n)).1
    have hpb : Part (fun i => i = b) w (w.setCell ⟨b, 0, none⟩ (.int .u32 n)) := (Part.refl (fun i => i = b) w).setCell (p := ⟨b, 0, none⟩) (.inl rfl) _
    obtain ⟨hfit, D, hD, hS⟩ := h.map.kept hpb h.ne
    have ho0 := hpb.own h.row fun g hg => (h.row_ne hg).1
    have HS := keep (And.intro hfit hS)
    have HN := keep (And.intro n0 n1)
    have c1 := h.c1
    have HB := keep (And.intro hb0 (And.intro hp0 ho0))
    clear h hh hlt hp0 hb0 hpb hfit hS n0 n1 ho0
    go_enter Try.func10, Try.ntmps10
    go_wp2_with (first
      | (go_at_call 23; refine (Less_any _ _ _).mono ?_; rintro e w' ⟨rfl, rfl⟩; rw [HL.out])
      | (at_range; refine wpList_range_own _ rfl _ 50 rfl 22 56 keyed Try.underlying50 UE k s.L.length D rfl hD ?_; intro w1 hrg1 hg1 hs1))
    go_frame
    have esz : (w.setCell ⟨b, 0, none⟩ (.int .u32 n)).heap.size = w.heap.size := by simp [World.setCell]
    have hpt1 : Part (fun i => i = b ∨ i = k) (w.setCell ⟨b, 0, none⟩ (.int .u32 n)) w1 := Part.of_grown hg1 fun i hi => by cases hi
    have hJ : Hid (Gone D n (has D) D ∧ w1.heap[b]? = some (.cells #[.int .u32 n, .map (some k), v] 52 (0, 0)) ∧ Part (fun i => i = b ∨ i = k) w w1 ∧ w1.ownsRow 0 22 1 v s.T.length (u32s s.T)) :=
      ⟨Gone.start D n, (hg1.block b (by rw [esz]; exact H.out.lt) (by simp)).trans HB.out.1, HB.out.2.1.trans hpt1 fun i hi => .inl hi, (Part.of_grown (S := fun _ => False) hg1 fun i hi => by cases hi).own HB.out.2.2 fun _ _ hc => hc⟩
    rw [esz] at hrg1 ⊢
    have hbr : b < w.heap.size := H.out.lt
    have hkr := H.out.map.lt
    have HBR := keep (And.intro hbr hkr)
    clear hD hg1 hs1 esz hpt1 HB HL c0 f0 c1 hbr hkr
    go_loopw [4] (fun _ wr => ∃ (left : Lit → Bool) (cnt : Nat) (E : Dat), wr.ranges Try.prog 22 UE k w.heap.size s.L.length E left cnt ∧ Hid (Gone D n left E ∧ wr.heap[b]? = some (.cells #[.int .u32 n, .map (some k), v] 52 (0, 0)) ∧ Part (fun i => i = b ∨ i = k) w wr ∧ wr.ownsRow 0 22 1 v s.T.length (u32s s.T)))
      (fun _ wr => wr.rangeLeft k w.heap.size)
    case atStart => exact ⟨_, _, _, hrg1, hJ⟩
    case round =>
      clear hrg1 hJ
      obtain ⟨left, cnt, E, hrg, HJ⟩ := hrel
      go_wp2_with (at_next; refine next_iu _ rfl _ rfl k w.heap.size s.L.length E left cnt rfl hrg ?_ ?_)
      · intro _ hl0
        have hsA : SetAt wr b k v n (shiftL (ht s.f n) s.L) s.T := ⟨HJ.out.2.1, MapAt.of hrg.owns (HS.out.1.shift _) (HS.out.2.gone HS.out.1 HN.out.1 HN.out.2 HH.out.1 HH.out.2 HJ.out.1 hl0 (hrg.owns.tidy keyed)), HJ.out.2.2.2, HN.out.1, HN.out.2, H.out.few⟩
        have HR := keep ((rise_set hsA).mono fun e w' he => And.intro he.1 (show SetAt w' b k v (Go.Proofs.Ytofebpikihandaa.wr (n + riseL (shiftL (ht s.f n) s.L))) (shiftL (riseL (shiftL (ht s.f n) s.L)) (shiftL (ht s.f n) s.L)) s.T ∧ Part (fun i => i = b ∨ i = k) wr w' by
          obtain ⟨u, h1, h3, h4⟩ := he.2
          have := h1.one hsA.map.1.rise
          subst this
          exact ⟨h3, h4⟩))
        clear hsA hl0 hrg
        go_wp2_with (go_at_call 27; refine HR.out.mono ?_; rintro e w4 ⟨rfl, h4⟩; replace h4 := keep h4)
        go_end0
        exact ⟨rfl, h4.out.1, HJ.out.2.2.1.trans h4.out.2 fun i hi => .inl hi⟩
      · intro x w2 cnt1 x0 x1 hlx hhx hrg2 hlt2 hg2 hs2 hen
        have hb2 := (hg2.block b (by have := HJ.out.2.2.1.size; have := HBR.out.1; omega) (by have := HBR.out.1; simp; omega)).trans HJ.out.2.1
        have c1 : w2.cell? ⟨b, 1, none⟩ = some (.map (some k)) := by rw [cell_of_row w2 b 1 _ _ _ hb2]; rfl
        have hp2 : Part (fun i => i = w.heap.size) wr w2 := Part.of_grown hg2 fun i hi => by simpa using hi.symm
        have ho2 := hp2.own HJ.out.2.2.2 fun g hg he => by
          have := (H.out.row_ne hg).2.2
          omega
        have hpw := HJ.out.2.2.1.trans hp2 fun i hi => .inr (Nat.le_of_eq hi.symm)
        have HX := keep (K_key x0 x1)
        have HG := keep (And.intro HJ.out.1 (And.intro hb2 (And.intro hpw ho2)))
        have HRo := keep hrg
        clear x0 x1 hlx hhx hrg hg2 hs2 hb2 hp2 ho2 hpw
        cases hlx : less32 n x
        · have HLX := keep hlx
          clear hlx
          go_wp2_with (first
            | (go_at_call 23; refine (Less_any _ _ _).mono ?_; rintro e w' ⟨rfl, rfl⟩; rw [HLX.out])
            | (at_delete; refine wpList_delete_ranges _ rfl _ _ 50 22 rfl 56 keyed Try.underlying50 UE k w.heap.size s.L.length E _ _ rfl hrg2 _ (K x) rfl HX.out ?_; intro w3 cnt2 hrg3 hle3 hturn3))
          rw [strike_twice] at hrg3
          have hp3 : Part (fun i => i = k) w2 w3 := Part.of_grown hturn3.grown fun i hi => by simpa using hi.symm
          go_roundw
          case rel => exact ⟨_, _, _, _, _, _, _, _, _, _, _, _, _, _, ⟨_, cnt2, _, hrg3, HG.out.1.goes HLX.out, (hp3.block b (by have := HG.out.2.2.1.size; have := HBR.out.1; omega) H.out.ne.symm).trans HG.out.2.1, HG.out.2.2.1.trans hp3 fun i hi => .inl (.inr hi), hp3.own HG.out.2.2.2 fun g hg => (H.out.row_ne hg).2.1⟩, rfl⟩
          case measure => rw [hrg3.left_eq, HRo.out.left_eq]; omega
        · have HLX := keep hlx
          clear hlx
          go_wp2_with (first
            | (go_at_call 23; refine (Less_any _ _ _).mono ?_; rintro e w' ⟨rfl, rfl⟩; rw [HLX.out]))
          go_roundw
          case rel => exact ⟨_, cnt1, _, hrg2, HG.out.1.stays HLX.out, HG.out.2⟩
          case measure => rw [hrg2.left_eq, HRo.out.left_eq]; exact hlt2
  · rw [if_neg hh]
    rw [decide_eq_false hh] at hlt
    have HL := keep hlt
    clear h hh hlt
    go_enter Try.func10, Try.ntmps10
    go_wp2_with (go_at_call 23; refine (Less_any _ _ _).mono ?_; rintro e w' ⟨rfl, rfl⟩; rw [HL.out])
    exact bodyPost_ret (results_none rfl _ _ _) rfl ⟨rfl, H.out, Part.refl _ _⟩
end Go.Proofs.Ytofebpikihandaa
