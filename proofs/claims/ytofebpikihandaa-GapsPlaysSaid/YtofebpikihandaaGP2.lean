/- The document's set: the floor goes up; Add. -/
import Derived.Test.YtofebpikihandaaGP1
import Derived.Deep.Cut
import Derived.Deep.CutRange
namespace Go.Proofs.Ytofebpikihandaa
open Go.RowKit Go.Maps
set_option linter.unusedVariables false

/-- Between two steps up. -/
structure Cl (w : World) (b g : Nat) (v : Value) (T : List Int) (f0 : Int) (L : List Nat) (u : Nat) (W : World) : Prop where
  ra : ∃ g' off' c', RA W b g' off' c' v (wr (f0 + u)) (mark (shiftL u L)) T ∧ (g' = g ∨ w.heap.size ≤ g')
  part : Part (Rb b g v) w W
  all : ∀ h, 1 ≤ h → h ≤ u → h ∈ L
theorem mark_shift {L : List Nat} (hL : Fit L) {u i : Nat} (hi : i < 1024) : (if i = 1023 then false else mark (shiftL u L) (i + 1)) = mark (shiftL (u + 1) L) i := by
  unfold mark
  by_cases e : i = 1023
  · rw [if_pos e]
    subst e
    symm
    apply decide_eq_false
    intro k
    have := hL.top _ (mem_shiftL.1 k).2
    omega
  · rw [if_neg e]
    apply decide_eq_decide.2
    rw [mem_shiftL, mem_shiftL]
    rw [show i + 1 + 1 + u = i + 1 + (u + 1) by omega]
    constructor
    · rintro ⟨_, h⟩
      exact ⟨by omega, h⟩
    · rintro ⟨_, h⟩
      exact ⟨by omega, h⟩
/-- append(marks[1:], b). -/
theorem wpl_slide {P : Program} {w : World} {ops : Array Oper} {rest : List Oper} {o : Oper} {a : Act} {Q : Exit → Act → World → Prop} (hgd : o.guard = none) (s x : Operand) (t : TypeId)
    (ho : o.op = .call { callee := .builtin .append, args := #[s, x], argTypes := #[t, t] }) (i : TypeInfo) (z : Value) (ht : P.underlying t = some (.slice 4)) (hi : P.info? 4 = some i) (hz : i.zero = some z) (hsize : i.size = 1) (hby : i.bytes = 1) (hz1 : z.cells.size = 1)
    (g off c : Nat) (m : Nat → Bool) (hm : Mk w g off c m) (hs : a.eval s = .slice (some ⟨g, off + 1, none⟩) 1023 (c - 1)) (ad : Addr) (k : Nat) (b : Bool) (hx : a.eval x = .slice (some ad) 1 k) (hb : w.cell? ad = some (.bool b))
    (h : ∀ g2 off2 c2 w', Mk w' g2 off2 c2 (fun i => if i = 1023 then b else m (i + 1)) → (g2 = g ∨ w.heap.size ≤ g2) → Part (fun i => i = g) w w' → wpList P ops Q rest (a.put o.dst (.slice (some ⟨g2, off2, none⟩) 1024 c2)) w') : wpList P ops Q (o :: rest) a w := by
  refine wpList_append_arg w hgd s x t ho 4 i z 1 1 ht hi hz hsize hby hz1 (by decide) g (off + 1) 1023 (c - 1) ((List.range 1023).map fun i => .bool (m (i + 1))) hs (by simp) ?_ ad 1 k [.bool b] hx rfl ?_ ?_ ?_ (by unfold maxLen; omega) (by omega) ?_ ?_
  · intro j u hu
    rw [List.getElem?_map] at hu
    by_cases hj : j < 1023
    · rw [List.getElem?_range hj] at hu
      simp only [Option.map_some, Option.some.injEq] at hu
      rw [← hu, show off + 1 + j = off + (j + 1) by omega]
      exact hm.cell (by omega)
    · rw [List.getElem?_eq_none (by simp; omega)] at hu
      cases hu
  · intro j u hu
    rcases j with _ | j
    · simp at hu
      subst hu
      rw [show ad.add 0 = ad by simp [Addr.add]]
      exact hb
    · simp at hu
  · intro u hu
    simp at hu
    subst hu
    rfl
  · intro hr j hj
    have hj0 : j = 0 := by simpa using hj
    subst hj0
    have := hm.spare (j := 1 + 1023) (by omega)
    exact ⟨by rw [show off + 1 + 1023 * 1 + 0 = off + (1 + 1023) by omega]; exact this, hm.fz _⟩
  · intro hr
    exact h g (off + 1) (c - 1) _ (hm.slide (by omega) b) (.inl rfl) ((Part.refl (fun i => i = g) w).setCell (p := ⟨g, off + 1 + 1023, none⟩) (.inl rfl) _)
  · intro hgr v' w' how hgrow
    obtain ⟨g2, c2, rfl, hg2, hm2⟩ := Mk.of_own (f := fun i => if i = 1023 then b else m (i + 1)) how (fun i hi => by
      by_cases e : i = 1023
      · subst e
        rw [if_pos rfl, List.getElem?_append_right (by simp)]
        simp
      · rw [if_neg e, List.getElem?_append_left (by simp; omega), List.getElem?_map, List.getElem?_range (by omega)]
        rfl)
    exact h g2 0 c2 w' hm2 (.inr hg2) (Part.of_grown hgrow (fun k e => by cases e))
/-- The floor of the set in block b. -/
def flr (w : World) (b : Nat) : Int := match w.cell? ⟨b, 0, none⟩ with | some (.int _ x) => x | _ => 0
theorem RA.flr {w : World} {b g off c : Nat} {v : Value} {f : Int} {m : Nat → Bool} {T : List Int} (h : RA w b g off c v f m T) : flr w b = f := by
  unfold Go.Proofs.Ytofebpikihandaa.flr
  rw [h.c0]
theorem Cl.steps {w W : World} {b g : Nat} {v : Value} {T : List Int} {f : Int} {L : List Nat} {u : Nat} (h : Cl w b g v T f L u W) (hu : u ≤ 1024) : ht f (flr W b) = u := by
  obtain ⟨g', off', c', hr, _⟩ := h.ra
  rw [hr.flr]
  exact ht_up f u (by omega)
/-- One step up. -/
theorem Cl.next {w W W1 : World} {b g g' off' c' g2 off2 c2 : Nat} {v : Value} {T : List Int} {f : Int} {L : List Nat} {u : Nat} (h : Cl w b g v T f L u W) (hL : Fit L) (hr : RA W b g' off' c' v (wr (f + u)) (mark (shiftL u L)) T) (hgg : g' = g ∨ w.heap.size ≤ g') (h1 : u + 1 ∈ L) {t : TypeId} {cs : Array Value}
    (hm : Mk W1 g2 off2 c2 (fun i => if i = 1023 then false else mark (shiftL u L) (i + 1))) (hg2 : g2 = g' ∨ (W.alloc (.cells cs t)).heap.size ≤ g2) (hp : Part (fun i => i = g') (W.alloc (.cells cs t)) W1) :
    (W1.heap[b]? = some (.cells #[.int .u32 (wr (f + u)), .slice (some ⟨g', off', none⟩) 1024 c', v] 39 (0, 0))) ∧
    Cl w b g v T f L (u + 1) ((W1.setCell ⟨b, 1, none⟩ (.slice (some ⟨g2, off2, none⟩) 1024 c2)).setCell ⟨b, 0, none⟩ (.int .u32 ((wr (f + u) + 1) % 4294967296))) := by
  have hr1 := hr.step (below_lay W (.cells cs t))
  have hbg : b ≠ g' := hr.ne.symm
  have hb1 := (hp.block b hr1.lt hbg).trans hr1.blk
  have hs : (W.alloc (.cells cs t)).heap.size = W.heap.size + 1 := by simp
  have hg2b : g2 ≠ b := by
    rcases hg2 with e | e
    · rw [e]; exact hr.ne
    · have := hr1.lt
      omega
  have hp2 : Part (fun i => i = b) W1 ((W1.setCell ⟨b, 1, none⟩ (.slice (some ⟨g2, off2, none⟩) 1024 c2)).setCell ⟨b, 0, none⟩ (.int .u32 ((wr (f + u) + 1) % 4294967296))) :=
    ((Part.refl (fun i => i = b) W1).setCell (p := ⟨b, 1, none⟩) (.inl rfl) _).setCell (p := ⟨b, 0, none⟩) (.inl rfl) _
  have he : (wr (f + u) + 1) % 4294967296 = wr (f + ((u + 1 : Nat) : Int)) := by
    have := wr_add (f + u) 1
    rw [show f + ((u + 1 : Nat) : Int) = f + (u : Int) + 1 by omega, ← this]
    rfl
  refine ⟨hb1, ⟨g2, off2, c2, ⟨?_, ?_, ?_, wr_lo _, wr_hi _, hr.few⟩, ?_⟩, ?_, ?_⟩
  · rw [he]
    exact (set_blk3 (set_blk3 hb1 _).2.1 _).1
  · exact (hm.congr fun i hi => mark_shift hL hi).kept hp2 hg2b
  · exact hp2.own (hp.own hr1.row fun k hk => (hr1.row_ne hk).2.1) fun k hk => (hr1.row_ne hk).1
  · have hsz := h.part.size
    rcases hg2 with e | e
    · rw [e]; exact hgg
    · exact .inr (by omega)
  · refine ((h.part.trans (Part.of_below (fun _ => False) (below_lay W (.cells cs t))) fun i hi => hi.elim).trans hp fun i hi => ?_).trans hp2 fun i hi => .inl (.inl hi)
    rw [hi]
    rcases hgg with e | e
    · exact .inl (.inr (.inl e))
    · exact .inr e
  · intro x hx hxu
    by_cases e : x = u + 1
    · rw [e]; exact h1
    · exact h.all x hx (by omega)
set_option maxHeartbeats 2000000 in
set_option maxRecDepth 100000 in
theorem climb_set {b g off c : Nat} {v : Value} {f : Int} {L : List Nat} {T : List Int} {w : World} (h : RA w b g off c v f (mark L) T) (hL : Fit L) :
    Calls Try.prog 29 #[.pointer (some ⟨b, 0, none⟩)] w fun e w' => e = .returned (.tuple #[]) ∧ ∃ u, Rise L u ∧ Cl w b g v T f L u w' := by
  obtain ⟨i0, hi0, hz0, hz1, hz2⟩ := info_parts bool_info
  have H0 := keep (show Cl w b g v T f L 0 w from ⟨⟨g, off, c, by
    have e : wr (f + (0 : Nat)) = f := by rw [show f + ((0 : Nat) : Int) = f by omega]; exact wr_of h.lo h.hi
    rw [e, shiftL_zero hL.asc]
    exact h, .inl rfl⟩, Part.refl _ _, fun x a b => absurd a (by omega)⟩)
  have HL := keep hL
  clear h hL
  go_enter Try.func29, Try.ntmps29
  go_wp2_with fail
  go_loopw [] (fun wq => ∃ u : Nat, u ≤ 1024 ∧ Hid (Cl w b g v T f L u wq)) (fun wq => 1024 - ht f (flr wq b))
  case atStart => exact ⟨0, by omega, H0⟩
  case round =>
    obtain ⟨u, hu, H⟩ := hrel
    clear H0
    obtain ⟨g', off', c', hr, hgg⟩ := H.out.ra
    have c1 := hr.c1
    have k0 := hr.mks.cell (i := 0) (by decide)
    rw [Nat.add_zero] at k0
    have HR := keep (And.intro hr hgg)
    have hcl := hr.mks.lo
    have hcz : (1024 : Int) ≤ (c' : Int) := by omega
    have hcn : ¬ c' = 1 := by omega
    have hcz1 : (1 : Int) ≤ (c' : Int) := by omega
    rcases hz : mark (shiftL u L) 0 with _ | _
    · rw [hz] at k0
      have HN := keep (show Rise L u from ⟨H.out.all, fun hc => by
        unfold mark at hz
        have := of_decide_eq_false hz
        exact this (mem_shiftL.2 ⟨by omega, by rw [show 0 + 1 + u = u + 1 by omega]; exact hc⟩)⟩)
      clear hz hr hgg
      go_wp2_with fail
      go_end0
      exact ⟨rfl, u, HN.out, H.out⟩
    · rw [hz] at k0
      have h1 : u + 1 ∈ L := by
        unfold mark at hz
        have := of_decide_eq_true hz
        have := (mem_shiftL.1 this).2
        rwa [show 0 + 1 + u = u + 1 by omega] at this
      have H1 := keep (And.intro h1 (HL.out.top _ h1))
      have M1 := keep ((hr.step (below_lay wr (.cells #[.bool false] 4))).mks)
      clear hz hr hgg h1
      go_wp2_with (at_builtin; refine wpl_slide rfl (.tmp 13) (.tmp 14) 37 rfl i0 (.bool false) Try.underlying37 hi0 hz0 hz1 hz2 rfl g' off' c' _ M1.out rfl ⟨wr.heap.size, 0, none⟩ 1 false rfl (by simp) ?_; intro g2 off2 c2 w1 hm2 hg2 hp2; obtain ⟨blk, hN⟩ := H.out.next HL.out HR.out.1 HR.out.2 H1.out.1 hm2 hg2 hp2; have q0 : w1.cell? ⟨b, 0, none⟩ = some (.int .u32 (Go.Proofs.Ytofebpikihandaa.wr (f + u))) := (by rw [cell_of_row w1 b 0 _ _ _ blk]; rfl); have q1 : w1.cell? ⟨b, 1, none⟩ = some (.slice (some ⟨g', off', none⟩) 1024 c') := (by rw [cell_of_row w1 b 1 _ _ _ blk]; rfl); have q2 : w1.frozen? ⟨b, 0, none⟩ = false := (by simp [World.frozen?, blk]); have q3 : w1.frozen? ⟨b, 1, none⟩ = false := (by simp [World.frozen?, blk]); replace hN := keep hN; clear hm2 hg2 hp2 blk)
      refine ⟨⟨u + 1, H1.out.2, hN⟩, ?_⟩
      rw [hN.out.steps H1.out.2, H.out.steps hu]
      have := H1.out.2
      omega
/-- Behind a climb the set stands as the numbers say. -/
theorem Cl.turned {w W W' : World} {b g : Nat} {v : Value} {T : List Int} {f : Int} {L : List Nat} {u : Nat} (h : Cl W b g v T f L u W') (hL : Fit L) (hr : Rise L u) {g0 : Nat} (hp : Part (Rb b g0 v) w W) (hg : g = g0 ∨ w.heap.size ≤ g) :
    RTurned w b g0 v (wr (f + riseL L)) (mark (shiftL (riseL L) L)) T W' := by
  have e : riseL L = u := hL.rise.one hr
  rw [e]
  obtain ⟨g', off', c', h1, h2⟩ := h.ra
  refine ⟨g', off', c', v, h1, ?_, .inl rfl, hp.trans h.part fun i hi => ?_⟩
  · have := hp.size
    rcases h2 with h2 | h2
    · rw [h2]; exact hg
    · exact .inr (by omega)
  · rcases hi with hi | hi | hi
    · exact .inl (.inl hi)
    · rcases hg with e2 | e2
      · exact .inl (.inr (.inl (by rw [hi, e2])))
      · exact .inr (by omega)
    · exact .inl (.inr (.inr hi))
theorem mark_ins {L : List Nat} {y i : Nat} : (if i = y then true else mark L i) = mark (insN (y + 1) L) i := by
  unfold mark
  by_cases e : i = y
  · rw [if_pos e]
    symm
    apply decide_eq_true
    exact mem_insN.2 (.inl (by omega))
  · rw [if_neg e]
    apply decide_eq_decide.2
    rw [mem_insN]
    constructor
    · exact .inr
    · rintro (h | h)
      · omega
      · exact h
theorem rremembered {b g off c : Nat} {v v' : Value} {f : Int} {m : Nat → Bool} {T : List Int} {w w1 : World} {n : Int} {t : TypeId} (h : RA w b g off c v f m T) (h64 : T.length < 64) (hown : w1.ownsRow 0 22 1 v' (T.length + 1) (u32s T ++ [.int .u32 n]))
    (hg : (w.alloc (.cells #[.int .u32 n] t)).grownBy w1 v.ownBlock) (hl : v'.ownBlock = v.ownBlock ∨ v'.ownBlock = some (w.alloc (.cells #[.int .u32 n] t)).heap.size) :
    w1.cell? ⟨b, 2, none⟩ = some v ∧ w1.frozen? ⟨b, 2, none⟩ = false ∧ RTurned w b g v f m ((T ++ [n]).take 64) (w1.setCell ⟨b, 2, none⟩ v') := by
  have h1 := h.step (below_lay w (.cells #[.int .u32 n] t))
  have hs : (w.alloc (.cells #[.int .u32 n] t)).heap.size = w.heap.size + 1 := by simp
  have hp1 : Part (fun i => v.ownBlock = some i) (w.alloc (.cells #[.int .u32 n] t)) w1 := Part.of_grown hg fun i hi => hi
  have hne : ¬ v.ownBlock = some b := fun hc => (h.row_ne hc).1 rfl
  have hb1 := (hp1.block b h1.lt hne).trans h1.blk
  have hv' : v'.ownBlock ≠ some b := by
    rcases hl with hl | hl
    · rw [hl]
      exact hne
    · rw [hl, hs]
      have := h.lt
      simp
      omega
  have hp2 : Part (fun i => i = b) w1 (w1.setCell ⟨b, 2, none⟩ v') := (Part.refl (fun i => i = b) w1).setCell (p := ⟨b, 2, none⟩) (.inl rfl) _
  have hlen : (T ++ [n]).take 64 = T ++ [n] := List.take_of_length_le (by simp; omega)
  refine ⟨by rw [cell_of_row w1 b 2 _ _ _ hb1]; rfl, by simp [World.frozen?, hb1], g, off, c, v', ⟨(set_blk3 hb1 _).2.2, ?_, ?_, h.lo, h.hi, by rw [hlen]; simp; omega⟩, .inl rfl, ?_, ?_⟩
  · exact (h1.mks.kept hp1 fun hc => (h.row_ne hc).2.1 rfl).kept hp2 h.ne
  · rw [hlen]
    have := hp2.own hown fun k hk he => hv' (by rw [hk, he])
    simpa [u32s] using this
  · rcases hl with hl | hl
    · exact .inl hl
    · exact .inr (.inr ⟨_, hl, by rw [hs]; omega⟩)
  · exact ((Part.of_below (Rb b g v) (below_lay w _)).trans hp1 fun i hi => .inl (.inr (.inr hi))).trans hp2 fun i hi => .inl (.inl hi)
set_option maxHeartbeats 2000000 in
set_option maxRecDepth 100000 in
theorem refAdd_set {b g off c : Nat} {v : Value} {s : St} {w : World} (h : RA w b g off c v s.f (mark s.L) s.T) (hL : Fit s.L) {n : Int} (n0 : 0 ≤ n) (n1 : n < 4294967296) :
    Calls Try.prog 9 #[.pointer (some ⟨b, 0, none⟩), .int .u32 n] w fun e w' => e = .returned (.int .i64 (s.told n)) ∧ RTurned w b g v (s.add n).f (mark (s.add n).L) (s.add n).T w' := by
  have HA := keep (refHas_set h hL n0 n1)
  have H := keep h
  have c0 := h.c0
  have c1 := h.c1
  have c2 := h.c2
  have f2 := h.fz 2
  unfold St.told St.add
  by_cases hh : had s.f s.L n = true
  · rw [if_pos hh, if_pos hh]
    rw [hh] at HA
    obtain ⟨A, c', hv, hl, hc, _⟩ := own_shape h.row
    subst hv
    have ho := h.row
    clear hl hc h hh n0 n1 c0 c1
    by_cases h64 : s.T.length < 64
    · obtain ⟨i0, hi0, hz0, hz1, hz2⟩ := info_parts u32_info
      obtain ⟨m, hm⟩ : ∃ m, s.T.length = m := ⟨_, rfl⟩
      rw [hm] at ho c2 h64 H ⊢
      have HM := keep hm
      have HO := keep ho
      have hm64 : (m : Int) < 64 := by omega
      clear hm ho h64
      go_enter Try.func9, Try.ntmps9
      go_wp2_with (first
        | (go_at_call 22; refine HA.out.mono ?_; rintro e w2 ⟨rfl, rfl⟩)
        | (at_builtin; refine wpList_append_own_at _ rfl (.tmp 19) (.tmp 21) 34 rfl 0 22 i0 (.int .u32 0) 1 4 Try.underlying34 hi0 hz0 hz1 hz2 rfl (by decide) (.slice A m c') m (u32s s.T) rfl (HO.out.alloc _) ⟨w.heap.size, 0, none⟩ 1 1 [.int .u32 n] rfl rfl (cell_one_new _ _ _) (u32s_one [n]) (by unfold maxLen; omega) (by omega) (Nat.zero_le _) ?_; intro v' w1 hown' hgrow hnil hloc; obtain ⟨A', c'', rfl, y1, y2, y3⟩ := own_shape hown'; clear y1 y2 y3; obtain ⟨q0, q1, q2⟩ := rremembered H.out (by have := HM.out; omega) (by rw [HM.out]; exact hown') hgrow hloc; replace q2 := keep q2; clear hown' hgrow hnil hloc))
      go_ret
      exact ⟨rfl, q2.out⟩
    · have h64' : ¬ ((s.T.length : Nat) : Int) < 64 := by omega
      have he : (s.T ++ [n]).take 64 = s.T := by rw [List.take_append_of_le_length (by omega), List.take_of_length_le (by have := H.out.few; omega)]
      rw [he]
      clear ho he h64
      go_enter Try.func9, Try.ntmps9
      go_wp2_with (go_at_call 22; refine HA.out.mono ?_; rintro e w2 ⟨rfl, rfl⟩)
      go_ret
      exact ⟨rfl, g, off, c, _, H.out, .inl rfl, .inl rfl, Part.refl _ _⟩
  · have hno := hh
    rw [had_iff] at hno
    rw [if_neg hh, if_neg hh]
    rw [show had s.f s.L n = false by simpa using hh] at HA
    have KD := keep (refDist_any s.f n h.lo n0 h.hi n1 w)
    have e1 := ht_int s.f n
    have hlt := ht_lt s.f n
    obtain ⟨x, hx⟩ : ∃ x, ht s.f n = x := ⟨_, rfl⟩
    rw [hx] at e1 hno hlt ⊢
    rw [← e1] at KD
    obtain ⟨w1, w2⟩ := wrap_ht x hlt
    by_cases hf : 1024 < x
    · rw [if_pos hf, if_pos hf]
      have hd : (1024 : Int) < (x : Int) := by omega
      clear h hh n0 n1 hno e1 hf hlt hx
      generalize (x : Int) = X at KD w1 w2 hd
      go_enter Try.func9, Try.ntmps9
      go_wp2_with (first
        | (go_at_call 22; refine HA.out.mono ?_; rintro e w2 ⟨rfl, rfl⟩)
        | (go_at_call 28; refine KD.out.mono ?_; rintro e w2 ⟨rfl, rfl⟩))
      go_ret
      exact ⟨rfl, g, off, c, v, H.out, .inl rfl, .inl rfl, Part.refl _ _⟩
    · rw [if_neg hf, if_neg hf]
      have hx1 : 1 ≤ x := by omega
      obtain ⟨y, rfl⟩ : ∃ y, x = y + 1 := ⟨x - 1, by omega⟩
      have hy : y < 1024 := by omega
      have hFit := keep (hL.ins (x := y + 1) (by omega) (by omega))
      have k1 := h.mks.cell hy
      have k2 := h.mks.fz (off + y)
      have hcz : (1024 : Int) ≤ (c : Int) := by have := h.mks.lo; omega
      have hp1 : Part (fun i => i = g) w (w.setCell ⟨g, off + y, none⟩ (.bool true)) := (Part.refl (fun i => i = g) w).setCell (p := ⟨g, off + y, none⟩) (.inl rfl) _
      have R1 : RA (w.setCell ⟨g, off + y, none⟩ (.bool true)) b g off c v s.f (mark (insN (y + 1) s.L)) s.T :=
        ⟨(hp1.block b h.lt h.ne.symm).trans h.blk, (h.mks.set hy true).congr fun i hi => mark_ins, hp1.own h.row fun k hk => (h.row_ne hk).2.1, h.lo, h.hi, h.few⟩
      have KC := keep (climb_set R1 hFit.out)
      have HP := keep (hp1.mono (S' := Rb b g v) fun k hk => .inr (.inl hk))
      unfold St.put
      have d0 : ¬ (1024 : Int) < ((y + 1 : Nat) : Int) := by omega
      have d1 : ((y + 1 : Nat) : Int) - 1 = (y : Int) := by omega
      have d2 : (y : Int) < 1024 := by omega
      obtain ⟨z, hz⟩ : ∃ z, mark s.L y = z := ⟨_, rfl⟩
      rw [hz] at k1
      clear h hh n0 n1 hno e1 hf hlt hx hx1 hy hp1 R1 hz
      generalize ((y + 1 : Nat) : Int) = X at KD w1 w2 d0 d1
      go_enter Try.func9, Try.ntmps9
      go_wp2_with (first
        | (go_at_call 22; refine HA.out.mono ?_; rintro e w2 ⟨rfl, rfl⟩)
        | (go_at_call 28; refine KD.out.mono ?_; rintro e w2 ⟨rfl, rfl⟩)
        | (go_at_call 29; refine KC.out.mono ?_; rintro e w3 ⟨rfl, u, hu, hcl⟩; have HT := keep (hcl.turned hFit.out hu HP.out (.inl rfl)); clear hu hcl))
      go_ret
      exact ⟨rfl, HT.out⟩
end Go.Proofs.Ytofebpikihandaa
