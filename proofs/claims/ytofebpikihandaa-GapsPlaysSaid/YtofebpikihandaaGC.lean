/- What a set's calls answer and make: whether a number is there, how many, the floor, what was told twice; one more number; the floor goes up. -/
import Derived.WalkSpells
import Derived.KernelRfl
import Derived.ScopeJumps
import Derived.Test.YtofebpikihandaaGB
namespace Go.Proofs.Ytofebpikihandaa
open Go.RowKit Go.Maps
set_option linter.unusedVariables false

/-- Is n received, or skipped? -/
def had (f : Int) (L : List Nat) (n : Int) : Bool := decide (ht f n ∈ L) || !less32 f n
theorem less_ht (f n : Int) : less32 f n = decide (1 ≤ ht f n ∧ ht f n < 2147483648) := by
  have h1 := ht_int f n
  show decide (0 < dist32 f n ∧ dist32 f n < 2147483648) = _
  exact decide_eq_decide.2 (by omega)
theorem had_iff {f : Int} {L : List Nat} {n : Int} : had f L n = true ↔ ht f n = 0 ∨ 2147483648 ≤ ht f n ∨ ht f n ∈ L := by
  unfold had
  rw [less_ht]
  by_cases c1 : ht f n ∈ L
  · simp [c1]
  · by_cases c2 : 1 ≤ ht f n ∧ ht f n < 2147483648
    · simp only [c1, c2, decide_false, Bool.false_or, or_false, decide_true, and_self, Bool.not_true, Bool.false_eq_true, false_iff]
      omega
    · simp only [c1, c2, decide_false, Bool.false_or, or_false, Bool.not_false, true_iff]
      omega

set_option maxHeartbeats 1000000 in
theorem Has_set {b k : Nat} {v : Value} {f : Int} {L : List Nat} {T : List Int} {w : World} (h : SetAt w b k v f L T) {n : Int} (n0 : 0 ≤ n) (n1 : n < 4294967296) :
    Calls Try.prog 21 #[.pointer (some ⟨b, 0, none⟩), .int .u32 n] w fun e w' => e = .returned (.bool (had f L n)) ∧ Below w.heap.size w w' := by
  obtain ⟨hf, D, hD, hS⟩ := h.map
  have c0 := h.c0
  have c1 := h.c1
  have HM := keep (K_key n0 n1)
  have HT := keep (hS.there n n0 n1)
  obtain ⟨t, ht⟩ : ∃ t, decide (ht f n ∈ L) = t := ⟨_, rfl⟩
  unfold had
  rw [ht] at HT ⊢
  have hl := below_lay w (.cells #[] 56)
  have c2 := (h.step hl).c0
  have HB := keep hl
  have hz := zero_unit
  clear h hf hS n0 n1 ht hl
  cases t
  · go_enter Try.func21, Try.ntmps21
    go_wp2_with (first
      | (at_lookup; refine wpList_lookup_own_unit _ rfl _ _ 50 rfl 22 56 keyed Try.underlying50 (zero_unit _) k L.length D rfl hD _ (K n) rfl HM.out ?_; rw [HT.out])
      | (go_at_call 23; refine (Less_any _ _ _).mono ?_; rintro e w' ⟨rfl, rfl⟩))
    go_ret
    exact ⟨rfl, HB.out⟩
  · go_enter Try.func21, Try.ntmps21
    go_wp2_with (first
      | (at_lookup; refine wpList_lookup_own_unit _ rfl _ _ 50 rfl 22 56 keyed Try.underlying50 (zero_unit _) k L.length D rfl hD _ (K n) rfl HM.out ?_; rw [HT.out])
      | (go_at_call 23; refine (Less_any _ _ _).mono ?_; rintro e w' ⟨rfl, rfl⟩))
    go_ret
    exact ⟨rfl, HB.out⟩
theorem Has_nil (n : Int) (w : World) : Calls Try.prog 21 #[.pointer none, .int .u32 n] w fun e w' => e = .returned (.bool false) ∧ w = w' := by
  go_enter Try.func21, Try.ntmps21
  go_wp2
  go_ret
  exact ⟨rfl, rfl⟩

theorem Cum_set {b k : Nat} {v : Value} {f : Int} {L : List Nat} {T : List Int} {w : World} (h : SetAt w b k v f L T) :
    Calls Try.prog 15 #[.pointer (some ⟨b, 0, none⟩)] w fun e w' => e = .returned (.int .u32 f) ∧ w = w' := by
  have c0 := h.c0
  clear h
  go_enter Try.func15, Try.ntmps15
  go_wp2
  go_ret
  exact ⟨rfl, rfl⟩
theorem Cum_nil (w : World) : Calls Try.prog 15 #[.pointer none] w fun e w' => e = .returned (.int .u32 0) ∧ w = w' := by
  go_enter Try.func15, Try.ntmps15
  go_wp2
  go_ret
  exact ⟨rfl, rfl⟩
theorem Len_set {b k : Nat} {v : Value} {f : Int} {L : List Nat} {T : List Int} {w : World} (h : SetAt w b k v f L T) :
    Calls Try.prog 16 #[.pointer (some ⟨b, 0, none⟩)] w fun e w' => e = .returned (.int .i64 (L.length : Int)) ∧ w = w' := by
  obtain ⟨hf, D, hD, hS⟩ := h.map
  have c1 := h.c1
  have HS := keep (hS.size hD hf.asc.nodup hf.lt)
  clear h hf hS
  go_enter Try.func16, Try.ntmps16
  go_wp2_with (at_len; refine wpList_len_own _ rfl _ 50 rfl 22 56 Try.underlying50 _ k L.length D rfl hD ?_; rw [HS.out])
  go_ret
  exact ⟨rfl, rfl⟩
theorem Len_nil (w : World) : Calls Try.prog 16 #[.pointer none] w fun e w' => e = .returned (.int .i64 0) ∧ w = w' := by
  go_enter Try.func16, Try.ntmps16
  go_wp2
  go_ret
  exact ⟨rfl, rfl⟩
theorem Dups_nil (w : World) : Calls Try.prog 13 #[.pointer none] w fun e w' => e = .returned (.slice none 0 0) ∧ w = w' := by
  go_enter Try.func13, Try.ntmps13
  go_wp2
  go_ret
  exact ⟨rfl, rfl⟩
theorem Forward_nil (n : Int) (w : World) : Calls Try.prog 10 #[.pointer none, .int .u32 n] w fun e w' => e = .returned (.tuple #[]) ∧ w = w' := by
  go_enter Try.func10, Try.ntmps10
  go_wp2
  exact bodyPost_ret (results_none rfl _ _ _) rfl ⟨rfl, rfl⟩
theorem Add_nil (n : Int) (w : World) : Calls Try.prog 8 #[.pointer none, .int .u32 n] w fun e w' => e = .returned (.int .i64 2) ∧ w = w' := by
  go_enter Try.func8, Try.ntmps8
  go_wp2
  go_ret
  exact ⟨rfl, rfl⟩

/-- A block of three cells written at one of them. -/
theorem set_blk {w : World} {b : Nat} {x y z : Value} {t : TypeId} (h : w.heap[b]? = some (.cells #[x, y, z] t (0, 0))) (u : Value) :
    (w.setCell ⟨b, 0, none⟩ u).heap[b]? = some (.cells #[u, y, z] t (0, 0)) ∧ (w.setCell ⟨b, 2, none⟩ u).heap[b]? = some (.cells #[x, y, u] t (0, 0)) := by
  unfold World.setCell
  constructor <;> simp [Array.getElem?_modify, h]
/-- Behind a call that wrote the set. -/
def Turned (w : World) (b k : Nat) (v : Value) (f : Int) (L : List Nat) (T : List Int) (w' : World) : Prop :=
  ∃ v', SetAt w' b k v' f L T ∧ (v'.ownBlock = v.ownBlock ∨ v' = .slice none 0 0 ∨ ∃ g, v'.ownBlock = some g ∧ w.heap.size ≤ g) ∧ Part (Ow b k v) w w'

theorem Dups_set {b k : Nat} {v : Value} {f : Int} {L : List Nat} {T : List Int} {w : World} (h : SetAt w b k v f L T) :
    Calls Try.prog 13 #[.pointer (some ⟨b, 0, none⟩)] w fun e w' => e = .returned v ∧ SetAt w' b k (.slice none 0 0) f L [] ∧ w'.ownsRow 0 22 1 v T.length (u32s T) ∧ Part (fun i => i = b) w w' := by
  have c2 := h.c2
  have f2 := h.fz 2
  have hp : Part (fun i => i = b) w (w.setCell ⟨b, 2, none⟩ (.slice none 0 0)) := (Part.refl (fun i => i = b) w).setCell (p := ⟨b, 2, none⟩) (.inl rfl) _
  have hs : SetAt (w.setCell ⟨b, 2, none⟩ (.slice none 0 0)) b k (.slice none 0 0) f L [] := ⟨(set_blk h.blk _).2, h.map.kept hp h.ne, World.ownsRow_nil _ _ _ _, h.lo, h.hi, by decide⟩
  have ho := hp.own h.row fun g hg => (h.row_ne hg).1
  have H := keep (And.intro hs (And.intro ho hp))
  obtain ⟨A, c, hv, _⟩ := own_shape h.row
  subst hv
  obtain ⟨m, hm⟩ : ∃ m, T.length = m := ⟨_, rfl⟩
  rw [hm] at c2 H ⊢
  clear h hp hs ho hm
  go_enter Try.func13, Try.ntmps13
  go_wp2
  go_ret
  exact ⟨rfl, H.out⟩

theorem u32_info : (Try.prog.info? 22).map (fun i => (i.zero, i.size, i.bytes)) = some (some (.int .u32 0), 1, 4) := by kernel_rfl

theorem remembered {b k : Nat} {v v' : Value} {f : Int} {L : List Nat} {T : List Int} {w w1 : World} {n : Int} {t : TypeId} (h : SetAt w b k v f L T) (h64 : T.length < 64) (hown : w1.ownsRow 0 22 1 v' (T.length + 1) (u32s T ++ [.int .u32 n]))
    (hg : (w.alloc (.cells #[.int .u32 n] t)).grownBy w1 v.ownBlock) (hl : v'.ownBlock = v.ownBlock ∨ v'.ownBlock = some (w.alloc (.cells #[.int .u32 n] t)).heap.size) :
    w1.cell? ⟨b, 2, none⟩ = some v ∧ w1.frozen? ⟨b, 2, none⟩ = false ∧ Turned w b k v f L ((T ++ [n]).take 64) (w1.setCell ⟨b, 2, none⟩ v') := by
  have h1 := h.step (below_lay w (.cells #[.int .u32 n] t))
  have hs : (w.alloc (.cells #[.int .u32 n] t)).heap.size = w.heap.size + 1 := by simp
  have hp1 : Part (fun i => v.ownBlock = some i) (w.alloc (.cells #[.int .u32 n] t)) w1 := Part.of_grown hg fun i hi => hi
  have hne : ¬ v.ownBlock = some b := fun hc => (h.row_ne hc).1 rfl
  have hb1 := (hp1.block b h1.lt hne).trans h1.blk
  have hv' : v'.ownBlock ≠ some b := by
    rcases hl with hl | hl
    · rw [hl]
      exact hne
    · rw [hl, hs]
      have := h.lt
      simp
      omega
  have hp2 : Part (fun i => i = b) w1 (w1.setCell ⟨b, 2, none⟩ v') := (Part.refl (fun i => i = b) w1).setCell (p := ⟨b, 2, none⟩) (.inl rfl) _
  have hlen : (T ++ [n]).take 64 = T ++ [n] := List.take_of_length_le (by simp; omega)
  refine ⟨by rw [cell_of_row w1 b 2 _ _ _ hb1]; rfl, by simp [World.frozen?, hb1], v', ⟨(set_blk hb1 _).2, ?_, ?_, h.lo, h.hi, by rw [hlen]; simp; omega⟩, ?_, ?_⟩
  · exact (h1.map.kept hp1 fun hc => (h.row_ne hc).2.1 rfl).kept hp2 h.ne
  · rw [hlen]
    have := hp2.own hown fun g hg he => hv' (by rw [hg, he])
    simpa [u32s] using this
  · rcases hl with hl | hl
    · exact .inl hl
    · exact .inr (.inr ⟨_, hl, by rw [hs]; omega⟩)
  · exact ((Part.of_below (Ow b k v) (below_lay w _)).trans hp1 fun i hi => .inl (.inr (.inr hi))).trans hp2 fun i hi => .inl (.inl hi)
set_option maxHeartbeats 1000000 in
theorem remember_set {b k : Nat} {v : Value} {f : Int} {L : List Nat} {T : List Int} {w : World} (h : SetAt w b k v f L T) (n : Int) :
    Calls Try.prog 24 #[.pointer (some ⟨b, 0, none⟩), .int .u32 n] w fun e w' => e = .returned (.tuple #[]) ∧ Turned w b k v f L ((T ++ [n]).take 64) w' := by
  have c2 := h.c2
  have f2 := h.fz 2
  have H := keep h
  obtain ⟨A, c, hv, hl, hc, _⟩ := own_shape h.row
  subst hv
  have ho := h.row
  have hlt := h.lt
  clear h
  by_cases h64 : T.length < 64
  · obtain ⟨i0, hi0, hz0, hz1, hz2⟩ := info_parts u32_info
    obtain ⟨m, hm⟩ : ∃ m, T.length = m := ⟨_, rfl⟩
    rw [hm] at ho c2 h64 H ⊢
    have HM := keep hm
    have HO := keep ho
    have hm64 : (m : Int) < 64 := by omega
    clear hm hl hc ho h64
    go_enter Try.func24, Try.ntmps24
    go_wp2_with (at_builtin; refine wpList_append_own_at _ rfl (.tmp 14) (.tmp 16) 34 rfl 0 22 i0 (.int .u32 0) 1 4 Try.underlying34 hi0 hz0 hz1 hz2 rfl (by decide) (.slice A m c) m (u32s T) rfl (HO.out.alloc _) ⟨w.heap.size, 0, none⟩ 1 1 [.int .u32 n] rfl rfl (cell_one_new _ _ _) (u32s_one [n]) (by unfold maxLen; omega) (by omega) (Nat.zero_le _) ?_; intro v' w1 hown' hgrow hnil hloc; obtain ⟨A', c', rfl, y1, y2, y3⟩ := own_shape hown'; clear y1 y2 y3; obtain ⟨q0, q1, q2⟩ := remembered H.out (by have := HM.out; omega) (by rw [HM.out]; exact hown') hgrow hloc; replace q2 := keep q2; clear hown' hgrow hnil hloc)
    go_end0
    exact ⟨rfl, q2.out⟩
  · have h64' : ¬ ((T.length : Nat) : Int) < 64 := by omega
    have he : (T ++ [n]).take 64 = T := by rw [List.take_append_of_le_length (by omega), List.take_of_length_le (by have := H.out.few; omega)]
    rw [he]
    clear hl hc ho he h64
    go_enter Try.func24, Try.ntmps24
    go_wp2
    go_end0
    exact ⟨rfl, _, H.out, .inl rfl, Part.refl _ _⟩

set_option maxHeartbeats 1000000 in
theorem put_set {b k : Nat} {v : Value} {f : Int} {L : List Nat} {T : List Int} {w : World} (h : SetAt w b k v f L T) {n : Int} (n0 : 0 ≤ n) (n1 : n < 4294967296) (h1 : 1 ≤ ht f n) (h2 : ht f n ≤ 1024) :
    Calls Try.prog 26 #[.pointer (some ⟨b, 0, none⟩), .int .u32 n] w fun e w' => e = .returned (.tuple #[]) ∧ SetAt w' b k v f (insN (ht f n) L) T ∧ Part (fun i => i = k) w w' := by
  obtain ⟨hf, D, hD, hS⟩ := h.map
  have c1 := h.c1
  have qT : ∀ (w : World) (r : Option Nat), (binOp .eql 50 (.map r) (.map none)).run Try.prog w = .ok (.bool r.isNone) w := fun w r => run_eql_map_nil w _ _ _ r Try.underlying50
  have HM := keep (K_key n0 n1)
  have H := keep h
  have HP := keep (hS.put n0 n1)
  have HF := keep (hf.ins h1 h2)
  have hn := hf.len
  have HL := keep (show L.length < maxLen by unfold maxLen; omega)
  clear h hS n0 n1 hf h1 h2 hn
  go_enter Try.func26, Try.ntmps26
  go_wp2_with (at_mapUpdate; refine wpList_mapUpdate_in _ rfl _ _ _ 50 rfl 22 56 keyed Try.underlying50 UE k L.length D rfl hD HL.out _ _ (K n) rfl rfl HM.out _ [] unitElem_mk ?_; intro w1 hown1 hturn1)
  go_end0
  have hp := Part.of_grown (S := fun i => i = k) hturn1.grown fun i hi => by simpa using hi.symm
  exact ⟨rfl, ⟨(hp.block b H.out.lt H.out.ne.symm).trans H.out.blk, MapAt.of hown1 HF.out HP.out, hp.own H.out.row fun g hg => (H.out.row_ne hg).2.1, H.out.lo, H.out.hi, H.out.few⟩, hp⟩

/-- Of what reads a number. -/
def intOf : Value → Int
  | .int _ x => x
  | _ => 0
theorem ht_wr_lt (f : Int) {d : Nat} (hd : d ≤ 1024) : ht f (wr (f + d)) = d := ht_up f d (by omega)
/-- One more step of the floor. -/
theorem risen {b k d : Nat} {v : Value} {f f1 : Int} {L L1 : List Nat} {T : List Int} {w1 w2 w3 : World} {D : Dat} (hL : Fit L) (h : SetAt w1 b k v f1 L1 T) (e1 : f1 = wr (f + d)) (e2 : L1 = shiftL d L) (hd : d ≤ 1024) (ha : ∀ x, 1 ≤ x → x ≤ d → x ∈ L) (h1 : 1 ∈ L1)
    (hS : Keys D f1 L1) (hw2 : Below w1.heap.size w1 w2) (hown : w3.ownsMap Try.prog 22 UE k L1.length (D.del (K (wr (f1 + 1))))) (hturn : w2.mapTurned w3 k) :
    w3.cell? ⟨b, 0, none⟩ = some (.int .u32 f1) ∧ w3.frozen? ⟨b, 0, none⟩ = false ∧
    Hid ((d + 1 ≤ 1024 ∧ ∀ x, 1 ≤ x → x ≤ d + 1 → x ∈ L) ∧ SetAt (w3.setCell ⟨b, 0, none⟩ (.int .u32 (wr (f1 + 1)))) b k v (wr (f + (d + 1 : Nat))) (shiftL (d + 1) L) T ∧ Part (fun i => i = b ∨ i = k) w1 (w3.setCell ⟨b, 0, none⟩ (.int .u32 (wr (f1 + 1))))) := by
  have hs2 := h.step hw2
  have hp3 : Part (fun i => i = k) w2 w3 := Part.of_grown hturn.grown fun i hi => by simpa using hi.symm
  have hb3 := (hp3.block b hs2.lt h.ne.symm).trans hs2.blk
  have hp4 : Part (fun i => i = b) w3 (w3.setCell ⟨b, 0, none⟩ (.int .u32 (wr (f1 + 1)))) := (Part.refl (fun i => i = b) w3).setCell (p := ⟨b, 0, none⟩) (.inl rfl) _
  have hin : d + 1 ∈ L := by
    rw [e2] at h1
    have := (mem_shiftL.1 h1).2
    rwa [Nat.add_comm] at this
  have hd1 := hL.top _ hin
  have ef : wr (f1 + 1) = wr (f + (d + 1 : Nat)) := by
    rw [e1, wr_add]
    congr 1
    omega
  have eL : shiftL 1 L1 = shiftL (d + 1) L := by rw [e2, shiftL_shiftL hL.asc]
  have hK := hS.next h.map.1.both
  rw [eL] at hK
  refine ⟨by rw [cell_of_row w3 b 0 _ _ _ hb3]; rfl, by simp [World.frozen?, hb3], ⟨⟨hd1, fun x x1 x2 => ?_⟩, ⟨?_, ?_, ?_, wr_lo _, wr_hi _, h.few⟩, ?_⟩⟩
  · by_cases hx : x = d + 1
    · rw [hx]
      exact hin
    · exact ha x x1 (by omega)
  · rw [← ef]
    exact (set_blk hb3 _).1
  · rw [← ef]
    exact (MapAt.of hown (hL.shift _) hK).kept hp4 h.ne
  · exact hp4.own (hp3.own hs2.row fun g hg => (h.row_ne hg).2.1) fun g hg => (h.row_ne hg).1
  · exact ((Part.of_below (fun i => i = b ∨ i = k) hw2).trans hp3 fun i hi => .inl (.inr hi)).trans hp4 fun i hi => .inl (.inl hi)

set_option maxHeartbeats 4000000 in
theorem rise_set {b k : Nat} {v : Value} {f : Int} {L : List Nat} {T : List Int} {w : World} (h : SetAt w b k v f L T) :
    Calls Try.prog 27 #[.pointer (some ⟨b, 0, none⟩)] w fun e w' => e = .returned (.tuple #[]) ∧ ∃ u : Nat, Rise L u ∧ SetAt w' b k v (wr (f + u)) (shiftL u L) T ∧ Part (fun i => i = b ∨ i = k) w w' := by
  have HL := keep h.map.1
  have HZ := keep (show SetAt w b k v (wr (f + (0 : Nat))) (shiftL 0 L) T by rw [shiftL_zero h.map.1.asc, show wr (f + (0 : Nat)) = f by have := h.lo; have := h.hi; unfold wr; omega]; exact h)
  clear h
  go_enter Try.func27, Try.ntmps27
  go_wp2
  refine wp_scope_jumps 0 (fun a' w' => ∃ (d : Nat) (u1 u2 u3 u4 u5 u6 u7 u8 u9 u10 u11 u12 u13 u14 u15 u16 u17 u18 u19 u20 u21 u22 u23 u24 u25 u26 u27 u28 : Value), a' = { tmps := #[.pointer (some ⟨b, 0, none⟩), u1, u2, u3, u4, u5, u6, u7, u8, u9, u10, u11, u12, u13, u14, u15, u16, u17, u18, u19, u20, u21, u22, u23, u24, u25, u26, u27, u28], defers := [] } ∧ Hid ((d ≤ 1024 ∧ ∀ x, 1 ≤ x → x ≤ d → x ∈ L) ∧ SetAt w' b k v (wr (f + d)) (shiftL d L) T ∧ Part (fun i => i = b ∨ i = k) w w'))
    (fun _ w' => 1024 - ht f (intOf ((w'.cell? ⟨b, 0, none⟩).getD undef))) rfl ?first ?pass
  case' first =>
    obtain ⟨d, hd0⟩ : ∃ d, d = 0 := ⟨0, rfl⟩
    obtain ⟨w1, hw1⟩ : ∃ w1, w1 = w := ⟨w, rfl⟩
    subst hw1
    have HJ : Hid ((d ≤ 1024 ∧ ∀ x, 1 ≤ x → x ≤ d → x ∈ L) ∧ SetAt w1 b k v (wr (f + d)) (shiftL d L) T ∧ Part (fun i => i = b ∨ i = k) w1 w1) := by
      subst hd0
      exact ⟨⟨by omega, fun x _ _ => by omega⟩, HZ.out, Part.refl _ _⟩
    clear hd0
  case' pass =>
    rintro a' w1 ⟨d, u1, u2, u3, u4, u5, u6, u7, u8, u9, u10, u11, u12, u13, u14, u15, u16, u17, u18, u19, u20, u21, u22, u23, u24, u25, u26, u27, u28, rfl, HJ⟩
    have hmu : ht f (intOf ((w1.cell? ⟨b, 0, none⟩).getD undef)) = d := by rw [HJ.out.2.1.c0]; exact ht_wr_lt f HJ.out.1.1
    rw [hmu]
    clear hmu
  all_goals
    have hset := HJ.out.2.1
    obtain ⟨f1, hf1⟩ : ∃ f1, wr (f + d) = f1 := ⟨_, rfl⟩
    obtain ⟨L1, hL1⟩ : ∃ L1, shiftL d L = L1 := ⟨_, rfl⟩
    rw [hf1, hL1] at hset
    obtain ⟨_, D, hD, hS⟩ := hset.map
    have c0 := hset.c0
    have c1 := hset.c1
    have hl := below_lay w1 (.cells #[] 56)
    have c3 := (hset.step hl).c0
    have c4 := (hset.step hl).c1
    have hz := zero_unit
    have HM := keep (show keyOf Try.prog 22 (.int .u32 ((f1 + 1) % 4294967296)) = some (K ((f1 + 1) % 4294967296)) from K_key (wr_lo _) (wr_hi _))
    have HT := hS.there (wr (f1 + 1)) (wr_lo _) (wr_hi _)
    rw [show ht f1 (wr (f1 + 1)) = 1 from ht_up f1 1 (by omega)] at HT
    have HT : Hid (has D (K ((f1 + 1) % 4294967296)) = decide (1 ∈ L1)) := HT
    have hrm := fun (h1 : 1 ∈ L1) w3 => risen (w3 := w3) HL.out hset hf1.symm hL1.symm HJ.out.1.1 HJ.out.1.2 h1 hS hl
    have HR := keep hrm
    have HO := keep (hD.alloc (.cells #[] 56))
    have HE := keep (And.intro hf1 (And.intro hL1 hset))
    clear hset hS hl hrm hf1 hL1
    by_cases h1 : 1 ∈ L1
    · rw [decide_eq_true h1] at HT
      replace HR := keep (HR.out h1)
      clear h1
      (try (go_wp2; go_step3))
      go_wp2_with (first
        | (at_lookup; refine wpList_lookup_own_unit _ rfl _ _ 50 rfl 22 56 keyed Try.underlying50 (zero_unit _) k L1.length D rfl hD _ (K ((f1 + 1) % 4294967296)) rfl HM.out ?_; rw [HT.out])
        | (at_delete; refine wpList_delete_own _ rfl _ _ 50 22 rfl 56 keyed Try.underlying50 UE k L1.length D rfl HO.out _ (K ((f1 + 1) % 4294967296)) rfl HM.out ?_; intro w3 hown3 hturn3; obtain ⟨q0, q1, q2⟩ := HR.out w3 hown3 hturn3; clear hown3 hturn3))
      go_step3
      have hpt := HJ.out.2.2.trans q2.out.2.2 fun i hi => .inl hi
      have hmu : ht f (intOf (((w3.setCell ⟨b, 0, none⟩ (.int .u32 (wr (f1 + 1)))).cell? ⟨b, 0, none⟩).getD undef)) = d + 1 := by rw [q2.out.2.1.c0]; exact ht_wr_lt f q2.out.1.1
      have hd1 := q2.out.1.1
      have hx := keep (And.intro q2.out.1 (And.intro q2.out.2.1 hpt))
      refine ⟨rfl, ?_⟩
      have hlt : 1024 - ht f (intOf (((w3.setCell ⟨b, 0, none⟩ (.int .u32 (wr (f1 + 1)))).cell? ⟨b, 0, none⟩).getD undef)) < 1024 - d := by rw [hmu]; omega
      first
        | exact ⟨d + 1, _, _, _, _, _, _, _, _, _, _, _, _, _, _, _, _, _, _, _, _, _, _, _, _, _, _, _, _, rfl, hx⟩
        | (refine ⟨?_, hlt⟩; exact ⟨d + 1, _, _, _, _, _, _, _, _, _, _, _, _, _, _, _, _, _, _, _, _, _, _, _, _, _, _, _, _, rfl, hx⟩)
    · rw [decide_eq_false h1] at HT
      have HN := keep h1
      clear HR h1
      (try (go_wp2; go_step3))
      go_wp2_with (first
        | (at_lookup; refine wpList_lookup_own_unit _ rfl _ _ 50 rfl 22 56 keyed Try.underlying50 (zero_unit _) k L1.length D rfl hD _ (K ((f1 + 1) % 4294967296)) rfl HM.out ?_; rw [HT.out]))
      simp only [Exit.jump]
      go_end0
      obtain ⟨e1, e2, hs⟩ := HE.out
      have hr : Rise L d := ⟨HJ.out.1.2, fun hc => HN.out (by rw [← e2, mem_shiftL]; exact ⟨by omega, by rwa [Nat.add_comm]⟩)⟩
      exact ⟨rfl, d, hr, by rw [e1, e2]; exact hs.step (below_lay w1 _), HJ.out.2.2.trans (Part.of_below (fun _ => False) (below_lay w1 _)) fun i hi => hi.elim⟩
end Go.Proofs.Ytofebpikihandaa
