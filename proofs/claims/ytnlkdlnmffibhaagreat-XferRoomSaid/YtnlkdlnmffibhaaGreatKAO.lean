/- KAO of the stage: texts GC, GD, So1, So2, joined. -/
import Derived.WalkSpells
import Derived.KernelRfl
import Derived.ScopeJumps
import Derived.Test.YtnlkdlnmffibhaaGreatKAN
import Derived.WalkKit
import Derived.BigGuard
import Derived.BigCall
import Derived.CellFam
import Derived.Deep.Draws
import Derived.Deep.QuietTactic
import Derived.BigQuiet
import Derived.Sort.Row
import Derived.Sort.LotA
import Derived.Test.YtnlkdlnmffibhaaGreatProg
import Derived.Test.YtnlkdlnmffibhaaGreatKAA
set_option linter.unusedSimpArgs false
set_option linter.unusedVariables false
set_option maxRecDepth 8000
namespace Go.Proofs.YtnlkdlnmffibhaaGreat
section
open Go.RowKit Go.Maps
def had (f : Int) (L : List Nat) (n : Int) : Bool := decide (ht f n ∈ L) || !less32 f n
theorem less_ht (f n : Int) : less32 f n = decide (1 ≤ ht f n ∧ ht f n < 2147483648) := by
  have h1 := ht_int f n
  show decide (0 < dist32 f n ∧ dist32 f n < 2147483648) = _
  exact decide_eq_decide.2 (by omega)
theorem had_iff {f : Int} {L : List Nat} {n : Int} : had f L n = true ↔ ht f n = 0 ∨ 2147483648 ≤ ht f n ∨ ht f n ∈ L := by
  unfold had
  rw [less_ht]
  by_cases c1 : ht f n ∈ L
  · simp [c1]
  · by_cases c2 : 1 ≤ ht f n ∧ ht f n < 2147483648
    · simp only [c1, c2, decide_false, Bool.false_or, or_false, decide_true, and_self, Bool.not_true, Bool.false_eq_true, false_iff]
      omega
    · simp only [c1, c2, decide_false, Bool.false_or, or_false, Bool.not_false, true_iff]
      omega
set_option maxHeartbeats 1000000 in
theorem Has_set {b k : Nat} {v : Value} {f : Int} {L : List Nat} {T : List Int} {w : World} (h : SetAt w b k v f L T) {n : Int} (n0 : 0 ≤ n) (n1 : n < 4294967296) :
    Calls Tryz.prog 53 #[.pointer (some ⟨b, 0, none⟩), .int .u32 n] w fun e w' => e = .returned (.bool (had f L n)) ∧ Below w.heap.size w w' := by
  obtain ⟨hf, D, hD, hS⟩ := h.map
  have c0 := h.c0
  have c1 := h.c1
  have HM := keep (K_key n0 n1)
  have HT := keep (hS.there n n0 n1)
  obtain ⟨t, ht⟩ : ∃ t, decide (ht f n ∈ L) = t := ⟨_, rfl⟩
  unfold had
  rw [ht] at HT ⊢
  have hl := below_lay w (.cells #[] 152)
  have c2 := (h.step hl).c0
  have HB := keep hl
  have hz := zero_unit
  clear h hf hS n0 n1 ht hl
  cases t
  · go_enter Tryz.func53, Tryz.ntmps53
    go_wp2_with (first
      | (at_lookup; refine wpList_lookup_own_unit _ rfl _ _ 138 rfl 22 152 keyed Tryz.underlying138 (zero_unit _) k L.length D rfl hD _ (K n) rfl HM.out ?_; rw [HT.out])
      | (go_at_call 79; refine (Less_any _ _ _).mono ?_; rintro e w' ⟨rfl, rfl⟩))
    go_ret
    exact ⟨rfl, HB.out⟩
  · go_enter Tryz.func53, Tryz.ntmps53
    go_wp2_with (first
      | (at_lookup; refine wpList_lookup_own_unit _ rfl _ _ 138 rfl 22 152 keyed Tryz.underlying138 (zero_unit _) k L.length D rfl hD _ (K n) rfl HM.out ?_; rw [HT.out])
      | (go_at_call 79; refine (Less_any _ _ _).mono ?_; rintro e w' ⟨rfl, rfl⟩))
    go_ret
    exact ⟨rfl, HB.out⟩
theorem Cum_set {b k : Nat} {v : Value} {f : Int} {L : List Nat} {T : List Int} {w : World} (h : SetAt w b k v f L T) :
    Calls Tryz.prog 39 #[.pointer (some ⟨b, 0, none⟩)] w fun e w' => e = .returned (.int .u32 f) ∧ w = w' := by
  have c0 := h.c0
  clear h
  go_enter Tryz.func39, Tryz.ntmps39
  go_wp2
  go_ret
  exact ⟨rfl, rfl⟩
theorem set_blk {w : World} {b : Nat} {x y z : Value} {t : TypeId} (h : w.heap[b]? = some (.cells #[x, y, z] t (0, 0))) (u : Value) :
    (w.setCell ⟨b, 0, none⟩ u).heap[b]? = some (.cells #[u, y, z] t (0, 0)) ∧ (w.setCell ⟨b, 2, none⟩ u).heap[b]? = some (.cells #[x, y, u] t (0, 0)) := by
  unfold World.setCell
  constructor <;> simp [Array.getElem?_modify, h]
def Turned (w : World) (b k : Nat) (v : Value) (f : Int) (L : List Nat) (T : List Int) (w' : World) : Prop :=
  ∃ v', SetAt w' b k v' f L T ∧ (v'.ownBlock = v.ownBlock ∨ v' = .slice none 0 0 ∨ ∃ g, v'.ownBlock = some g ∧ w.heap.size ≤ g) ∧ Part (Ow b k v) w w'
theorem Dups_set {b k : Nat} {v : Value} {f : Int} {L : List Nat} {T : List Int} {w : World} (h : SetAt w b k v f L T) :
    Calls Tryz.prog 42 #[.pointer (some ⟨b, 0, none⟩)] w fun e w' => e = .returned v ∧ SetAt w' b k (.slice none 0 0) f L [] ∧ w'.ownsRow 0 22 1 v T.length (u32s T) ∧ Part (fun i => i = b) w w' := by
  have c2 := h.c2
  have f2 := h.fz 2
  have hp : Part (fun i => i = b) w (w.setCell ⟨b, 2, none⟩ (.slice none 0 0)) := (Part.refl (fun i => i = b) w).setCell (p := ⟨b, 2, none⟩) (.inl rfl) _
  have hs : SetAt (w.setCell ⟨b, 2, none⟩ (.slice none 0 0)) b k (.slice none 0 0) f L [] := ⟨(set_blk h.blk _).2, h.map.kept hp h.ne, World.ownsRow_nil _ _ _ _, h.lo, h.hi, by decide⟩
  have ho := hp.own h.row fun g hg => (h.row_ne hg).1
  have H := keep (And.intro hs (And.intro ho hp))
  obtain ⟨A, c, hv, _⟩ := own_shape h.row
  subst hv
  obtain ⟨m, hm⟩ : ∃ m, T.length = m := ⟨_, rfl⟩
  rw [hm] at c2 H ⊢
  clear h hp hs ho hm
  go_enter Tryz.func42, Tryz.ntmps42
  go_wp2
  go_ret
  exact ⟨rfl, H.out⟩
theorem u32_info : (Tryz.prog.info? 22).map (fun i => (i.zero, i.size, i.bytes)) = some (some (.int .u32 0), 1, 4) := by kernel_rfl
theorem remembered {b k : Nat} {v v' : Value} {f : Int} {L : List Nat} {T : List Int} {w w1 : World} {n : Int} {t : TypeId} (h : SetAt w b k v f L T) (h64 : T.length < 64) (hown : w1.ownsRow 0 22 1 v' (T.length + 1) (u32s T ++ [.int .u32 n]))
    (hg : (w.alloc (.cells #[.int .u32 n] t)).grownBy w1 v.ownBlock) (hl : v'.ownBlock = v.ownBlock ∨ v'.ownBlock = some (w.alloc (.cells #[.int .u32 n] t)).heap.size) :
    w1.cell? ⟨b, 2, none⟩ = some v ∧ w1.frozen? ⟨b, 2, none⟩ = false ∧ Turned w b k v f L ((T ++ [n]).take 64) (w1.setCell ⟨b, 2, none⟩ v') := by
  have h1 := h.step (below_lay w (.cells #[.int .u32 n] t))
  have hs : (w.alloc (.cells #[.int .u32 n] t)).heap.size = w.heap.size + 1 := by simp
  have hp1 : Part (fun i => v.ownBlock = some i) (w.alloc (.cells #[.int .u32 n] t)) w1 := Part.of_grown hg fun i hi => hi
  have hne : ¬ v.ownBlock = some b := fun hc => (h.row_ne hc).1 rfl
  have hb1 := (hp1.block b h1.lt hne).trans h1.blk
  have hv' : v'.ownBlock ≠ some b := by
    rcases hl with hl | hl
    · rw [hl]
      exact hne
    · rw [hl, hs]
      have := h.lt
      simp
      omega
  have hp2 : Part (fun i => i = b) w1 (w1.setCell ⟨b, 2, none⟩ v') := (Part.refl (fun i => i = b) w1).setCell (p := ⟨b, 2, none⟩) (.inl rfl) _
  have hlen : (T ++ [n]).take 64 = T ++ [n] := List.take_of_length_le (by simp; omega)
  refine ⟨by rw [cell_of_row w1 b 2 _ _ _ hb1]; rfl, by simp [World.frozen?, hb1], v', ⟨(set_blk hb1 _).2, ?_, ?_, h.lo, h.hi, by rw [hlen]; simp; omega⟩, ?_, ?_⟩
  · exact (h1.map.kept hp1 fun hc => (h.row_ne hc).2.1 rfl).kept hp2 h.ne
  · rw [hlen]
    have := hp2.own hown fun g hg he => hv' (by rw [hg, he])
    simpa [u32s] using this
  · rcases hl with hl | hl
    · exact .inl hl
    · exact .inr (.inr ⟨_, hl, by rw [hs]; omega⟩)
  · exact ((Part.of_below (Ow b k v) (below_lay w _)).trans hp1 fun i hi => .inl (.inr (.inr hi))).trans hp2 fun i hi => .inl (.inl hi)
set_option maxHeartbeats 1000000 in
theorem remember_set {b k : Nat} {v : Value} {f : Int} {L : List Nat} {T : List Int} {w : World} (h : SetAt w b k v f L T) (n : Int) :
    Calls Tryz.prog 81 #[.pointer (some ⟨b, 0, none⟩), .int .u32 n] w fun e w' => e = .returned (.tuple #[]) ∧ Turned w b k v f L ((T ++ [n]).take 64) w' := by
  have c2 := h.c2
  have f2 := h.fz 2
  have H := keep h
  obtain ⟨A, c, hv, hl, hc, _⟩ := own_shape h.row
  subst hv
  have ho := h.row
  have hlt := h.lt
  clear h
  by_cases h64 : T.length < 64
  · obtain ⟨i0, hi0, hz0, hz1, hz2⟩ := info_parts u32_info
    obtain ⟨m, hm⟩ : ∃ m, T.length = m := ⟨_, rfl⟩
    rw [hm] at ho c2 h64 H ⊢
    have HM := keep hm
    have HO := keep ho
    have hm64 : (m : Int) < 64 := by omega
    clear hm hl hc ho h64
    go_enter Tryz.func81, Tryz.ntmps81
    go_wp2_with (at_builtin; refine wpList_append_own_at _ rfl (.tmp 14) (.tmp 16) 37 rfl 0 22 i0 (.int .u32 0) 1 4 Tryz.underlying37 hi0 hz0 hz1 hz2 rfl (by decide) (.slice A m c) m (u32s T) rfl (HO.out.alloc _) ⟨w.heap.size, 0, none⟩ 1 1 [.int .u32 n] rfl rfl (cell_one_new _ _ _) (u32s_one [n]) (by unfold maxLen; omega) (by omega) (Nat.zero_le _) ?_; intro v' w1 hown' hgrow hnil hloc; obtain ⟨A', c', rfl, y1, y2, y3⟩ := own_shape hown'; clear y1 y2 y3; obtain ⟨q0, q1, q2⟩ := remembered H.out (by have := HM.out; omega) (by rw [HM.out]; exact hown') hgrow hloc; replace q2 := keep q2; clear hown' hgrow hnil hloc)
    go_end0
    exact ⟨rfl, q2.out⟩
  · have h64' : ¬ ((T.length : Nat) : Int) < 64 := by omega
    have he : (T ++ [n]).take 64 = T := by rw [List.take_append_of_le_length (by omega), List.take_of_length_le (by have := H.out.few; omega)]
    rw [he]
    clear hl hc ho he h64
    go_enter Tryz.func81, Tryz.ntmps81
    go_wp2
    go_end0
    exact ⟨rfl, _, H.out, .inl rfl, Part.refl _ _⟩
set_option maxHeartbeats 1000000 in
theorem put_set {b k : Nat} {v : Value} {f : Int} {L : List Nat} {T : List Int} {w : World} (h : SetAt w b k v f L T) {n : Int} (n0 : 0 ≤ n) (n1 : n < 4294967296) (h1 : 1 ≤ ht f n) (h2 : ht f n ≤ 1024) :
    Calls Tryz.prog 82 #[.pointer (some ⟨b, 0, none⟩), .int .u32 n] w fun e w' => e = .returned (.tuple #[]) ∧ SetAt w' b k v f (insN (ht f n) L) T ∧ Part (fun i => i = k) w w' := by
  obtain ⟨hf, D, hD, hS⟩ := h.map
  have c1 := h.c1
  have qT : ∀ (w : World) (r : Option Nat), (binOp .eql 138 (.map r) (.map none)).run Tryz.prog w = .ok (.bool r.isNone) w := fun w r => run_eql_map_nil w _ _ _ r Tryz.underlying138
  have HM := keep (K_key n0 n1)
  have H := keep h
  have HP := keep (hS.put n0 n1)
  have HF := keep (hf.ins h1 h2)
  have hn := hf.len
  have HL := keep (show L.length < maxLen by unfold maxLen; omega)
  clear h hS n0 n1 hf h1 h2 hn
  go_enter Tryz.func82, Tryz.ntmps82
  go_wp2_with (at_mapUpdate; refine wpList_mapUpdate_in _ rfl _ _ _ 138 rfl 22 152 keyed Tryz.underlying138 UE k L.length D rfl hD HL.out _ _ (K n) rfl rfl HM.out _ [] unitElem_mk ?_; intro w1 hown1 hturn1)
  go_end0
  have hp := Part.of_grown (S := fun i => i = k) hturn1.grown fun i hi => by simpa using hi.symm
  exact ⟨rfl, ⟨(hp.block b H.out.lt H.out.ne.symm).trans H.out.blk, MapAt.of hown1 HF.out HP.out, hp.own H.out.row fun g hg => (H.out.row_ne hg).2.1, H.out.lo, H.out.hi, H.out.few⟩, hp⟩
def intOf : Value → Int
  | .int _ x => x
  | _ => 0
theorem ht_wr_lt (f : Int) {d : Nat} (hd : d ≤ 1024) : ht f (wr (f + d)) = d := ht_up f d (by omega)
theorem risen {b k d : Nat} {v : Value} {f f1 : Int} {L L1 : List Nat} {T : List Int} {w1 w2 w3 : World} {D : Dat} (hL : Fit L) (h : SetAt w1 b k v f1 L1 T) (e1 : f1 = wr (f + d)) (e2 : L1 = shiftL d L) (hd : d ≤ 1024) (ha : ∀ x, 1 ≤ x → x ≤ d → x ∈ L) (h1 : 1 ∈ L1)
    (hS : Keys D f1 L1) (hw2 : Below w1.heap.size w1 w2) (hown : w3.ownsMap Tryz.prog 22 UE k L1.length (D.del (K (wr (f1 + 1))))) (hturn : w2.mapTurned w3 k) :
    w3.cell? ⟨b, 0, none⟩ = some (.int .u32 f1) ∧ w3.frozen? ⟨b, 0, none⟩ = false ∧
    Hid ((d + 1 ≤ 1024 ∧ ∀ x, 1 ≤ x → x ≤ d + 1 → x ∈ L) ∧ SetAt (w3.setCell ⟨b, 0, none⟩ (.int .u32 (wr (f1 + 1)))) b k v (wr (f + (d + 1 : Nat))) (shiftL (d + 1) L) T ∧ Part (fun i => i = b ∨ i = k) w1 (w3.setCell ⟨b, 0, none⟩ (.int .u32 (wr (f1 + 1))))) := by
  have hs2 := h.step hw2
  have hp3 : Part (fun i => i = k) w2 w3 := Part.of_grown hturn.grown fun i hi => by simpa using hi.symm
  have hb3 := (hp3.block b hs2.lt h.ne.symm).trans hs2.blk
  have hp4 : Part (fun i => i = b) w3 (w3.setCell ⟨b, 0, none⟩ (.int .u32 (wr (f1 + 1)))) := (Part.refl (fun i => i = b) w3).setCell (p := ⟨b, 0, none⟩) (.inl rfl) _
  have hin : d + 1 ∈ L := by
    rw [e2] at h1
    have := (mem_shiftL.1 h1).2
    rwa [Nat.add_comm] at this
  have hd1 := hL.top _ hin
  have ef : wr (f1 + 1) = wr (f + (d + 1 : Nat)) := by
    rw [e1, wr_add]
    congr 1
    omega
  have eL : shiftL 1 L1 = shiftL (d + 1) L := by rw [e2, shiftL_shiftL hL.asc]
  have hK := hS.next h.map.1.both
  rw [eL] at hK
  refine ⟨by rw [cell_of_row w3 b 0 _ _ _ hb3]; rfl, by simp [World.frozen?, hb3], ⟨⟨hd1, fun x x1 x2 => ?_⟩, ⟨?_, ?_, ?_, wr_lo _, wr_hi _, h.few⟩, ?_⟩⟩
  · by_cases hx : x = d + 1
    · rw [hx]
      exact hin
    · exact ha x x1 (by omega)
  · rw [← ef]
    exact (set_blk hb3 _).1
  · rw [← ef]
    exact (MapAt.of hown (hL.shift _) hK).kept hp4 h.ne
  · exact hp4.own (hp3.own hs2.row fun g hg => (h.row_ne hg).2.1) fun g hg => (h.row_ne hg).1
  · exact ((Part.of_below (fun i => i = b ∨ i = k) hw2).trans hp3 fun i hi => .inl (.inr hi)).trans hp4 fun i hi => .inl (.inl hi)
set_option maxHeartbeats 4000000 in
theorem rise_set {b k : Nat} {v : Value} {f : Int} {L : List Nat} {T : List Int} {w : World} (h : SetAt w b k v f L T) :
    Calls Tryz.prog 83 #[.pointer (some ⟨b, 0, none⟩)] w fun e w' => e = .returned (.tuple #[]) ∧ ∃ u : Nat, Rise L u ∧ SetAt w' b k v (wr (f + u)) (shiftL u L) T ∧ Part (fun i => i = b ∨ i = k) w w' := by
  have HL := keep h.map.1
  have HZ := keep (show SetAt w b k v (wr (f + (0 : Nat))) (shiftL 0 L) T by rw [shiftL_zero h.map.1.asc, show wr (f + (0 : Nat)) = f by have := h.lo; have := h.hi; unfold wr; omega]; exact h)
  clear h
  go_enter Tryz.func83, Tryz.ntmps83
  go_wp2
  refine wp_scope_jumps 0 (fun a' w' => ∃ (d : Nat) (u1 u2 u3 u4 u5 u6 u7 u8 u9 u10 u11 u12 u13 u14 u15 u16 u17 u18 u19 u20 u21 u22 u23 u24 u25 u26 u27 u28 : Value), a' = { tmps := #[.pointer (some ⟨b, 0, none⟩), u1, u2, u3, u4, u5, u6, u7, u8, u9, u10, u11, u12, u13, u14, u15, u16, u17, u18, u19, u20, u21, u22, u23, u24, u25, u26, u27, u28], defers := [] } ∧ Hid ((d ≤ 1024 ∧ ∀ x, 1 ≤ x → x ≤ d → x ∈ L) ∧ SetAt w' b k v (wr (f + d)) (shiftL d L) T ∧ Part (fun i => i = b ∨ i = k) w w'))
    (fun _ w' => 1024 - ht f (intOf ((w'.cell? ⟨b, 0, none⟩).getD undef))) rfl ?first ?pass
  case' first =>
    obtain ⟨d, hd0⟩ : ∃ d, d = 0 := ⟨0, rfl⟩
    obtain ⟨w1, hw1⟩ : ∃ w1, w1 = w := ⟨w, rfl⟩
    subst hw1
    have HJ : Hid ((d ≤ 1024 ∧ ∀ x, 1 ≤ x → x ≤ d → x ∈ L) ∧ SetAt w1 b k v (wr (f + d)) (shiftL d L) T ∧ Part (fun i => i = b ∨ i = k) w1 w1) := by
      subst hd0
      exact ⟨⟨by omega, fun x _ _ => by omega⟩, HZ.out, Part.refl _ _⟩
    clear hd0
  case' pass =>
    rintro a' w1 ⟨d, u1, u2, u3, u4, u5, u6, u7, u8, u9, u10, u11, u12, u13, u14, u15, u16, u17, u18, u19, u20, u21, u22, u23, u24, u25, u26, u27, u28, rfl, HJ⟩
    have hmu : ht f (intOf ((w1.cell? ⟨b, 0, none⟩).getD undef)) = d := by rw [HJ.out.2.1.c0]; exact ht_wr_lt f HJ.out.1.1
    rw [hmu]
    clear hmu
  all_goals
    have hset := HJ.out.2.1
    obtain ⟨f1, hf1⟩ : ∃ f1, wr (f + d) = f1 := ⟨_, rfl⟩
    obtain ⟨L1, hL1⟩ : ∃ L1, shiftL d L = L1 := ⟨_, rfl⟩
    rw [hf1, hL1] at hset
    obtain ⟨_, D, hD, hS⟩ := hset.map
    have c0 := hset.c0
    have c1 := hset.c1
    have hl := below_lay w1 (.cells #[] 152)
    have c3 := (hset.step hl).c0
    have c4 := (hset.step hl).c1
    have hz := zero_unit
    have HM := keep (show keyOf Tryz.prog 22 (.int .u32 ((f1 + 1) % 4294967296)) = some (K ((f1 + 1) % 4294967296)) from K_key (wr_lo _) (wr_hi _))
    have HT := hS.there (wr (f1 + 1)) (wr_lo _) (wr_hi _)
    rw [show ht f1 (wr (f1 + 1)) = 1 from ht_up f1 1 (by omega)] at HT
    have HT : Hid (has D (K ((f1 + 1) % 4294967296)) = decide (1 ∈ L1)) := HT
    have hrm := fun (h1 : 1 ∈ L1) w3 => risen (w3 := w3) HL.out hset hf1.symm hL1.symm HJ.out.1.1 HJ.out.1.2 h1 hS hl
    have HR := keep hrm
    have HO := keep (hD.alloc (.cells #[] 152))
    have HE := keep (And.intro hf1 (And.intro hL1 hset))
    clear hset hS hl hrm hf1 hL1
    by_cases h1 : 1 ∈ L1
    · rw [decide_eq_true h1] at HT
      replace HR := keep (HR.out h1)
      clear h1
      (try (go_wp2; go_step3))
      go_wp2_with (first
        | (at_lookup; refine wpList_lookup_own_unit _ rfl _ _ 138 rfl 22 152 keyed Tryz.underlying138 (zero_unit _) k L1.length D rfl hD _ (K ((f1 + 1) % 4294967296)) rfl HM.out ?_; rw [HT.out])
        | (at_delete; refine wpList_delete_own _ rfl _ _ 138 22 rfl 152 keyed Tryz.underlying138 UE k L1.length D rfl HO.out _ (K ((f1 + 1) % 4294967296)) rfl HM.out ?_; intro w3 hown3 hturn3; obtain ⟨q0, q1, q2⟩ := HR.out w3 hown3 hturn3; clear hown3 hturn3))
      go_step3
      have hpt := HJ.out.2.2.trans q2.out.2.2 fun i hi => .inl hi
      have hmu : ht f (intOf (((w3.setCell ⟨b, 0, none⟩ (.int .u32 (wr (f1 + 1)))).cell? ⟨b, 0, none⟩).getD undef)) = d + 1 := by rw [q2.out.2.1.c0]; exact ht_wr_lt f q2.out.1.1
      have hd1 := q2.out.1.1
      have hx := keep (And.intro q2.out.1 (And.intro q2.out.2.1 hpt))
      refine ⟨rfl, ?_⟩
      have hlt : 1024 - ht f (intOf (((w3.setCell ⟨b, 0, none⟩ (.int .u32 (wr (f1 + 1)))).cell? ⟨b, 0, none⟩).getD undef)) < 1024 - d := by rw [hmu]; omega
      first
        | exact ⟨d + 1, _, _, _, _, _, _, _, _, _, _, _, _, _, _, _, _, _, _, _, _, _, _, _, _, _, _, _, _, rfl, hx⟩
        | (refine ⟨?_, hlt⟩; exact ⟨d + 1, _, _, _, _, _, _, _, _, _, _, _, _, _, _, _, _, _, _, _, _, _, _, _, _, _, _, _, _, rfl, hx⟩)
    · rw [decide_eq_false h1] at HT
      have HN := keep h1
      clear HR h1
      (try (go_wp2; go_step3))
      go_wp2_with (first
        | (at_lookup; refine wpList_lookup_own_unit _ rfl _ _ 138 rfl 22 152 keyed Tryz.underlying138 (zero_unit _) k L1.length D rfl hD _ (K ((f1 + 1) % 4294967296)) rfl HM.out ?_; rw [HT.out]))
      simp only [Exit.jump]
      go_end0
      obtain ⟨e1, e2, hs⟩ := HE.out
      have hr : Rise L d := ⟨HJ.out.1.2, fun hc => HN.out (by rw [← e2, mem_shiftL]; exact ⟨by omega, by rwa [Nat.add_comm]⟩)⟩
      exact ⟨rfl, d, hr, by rw [e1, e2]; exact hs.step (below_lay w1 _), HJ.out.2.2.trans (Part.of_below (fun _ => False) (below_lay w1 _)) fun i hi => hi.elim⟩
end
section
open Go.RowKit Go.Maps
def riseL (L : List Nat) : Nat := riseFrom L 1024 0
theorem Fit.rise {L : List Nat} (h : Fit L) : Rise L (riseL L) := riseFrom_spec L 1024 h.top 1024 0 (by omega) fun h h1 h2 => absurd h1 (by omega)
structure St where
  f : Int
  L : List Nat
  T : List Int
abbrev SA (w : World) (b k : Nat) (v : Value) (s : St) : Prop := SetAt w b k v s.f s.L s.T
def St.new (first : Int) : St := ⟨wr (first - 1), [], []⟩
def St.put (s : St) (h : Nat) : St := ⟨wr (s.f + riseL (insN h s.L)), shiftL (riseL (insN h s.L)) (insN h s.L), s.T⟩
def St.add (s : St) (n : Int) : St := if had s.f s.L n = true then ⟨s.f, s.L, (s.T ++ [n]).take 64⟩ else if 1024 < ht s.f n then s else s.put (ht s.f n)
def St.told (s : St) (n : Int) : Int := if had s.f s.L n = true then 1 else if 1024 < ht s.f n then 2 else 0
theorem Turned.of_part {w w' w2 : World} {b k : Nat} {v : Value} {s : St} (h : SA w b k v s) (h1 : Below w.heap.size w w2) {f : Int} {L : List Nat} {T : List Int} (h2 : Turned w2 b k v f L T w') : Turned w b k v f L T w' := by
  obtain ⟨v', hs, hv, hp⟩ := h2
  refine ⟨v', hs, ?_, ?_⟩
  · rcases hv with hv | hv | ⟨g, hv, hg⟩
    · exact .inl hv
    · exact .inr (.inl hv)
    · exact .inr (.inr ⟨g, hv, Nat.le_trans h1.size hg⟩)
  · exact (Part.of_below (Ow b k v) h1).trans hp fun i hi => .inl hi
set_option maxHeartbeats 2000000 in
theorem Add_set {b k : Nat} {v : Value} {s : St} {w : World} (h : SA w b k v s) {n : Int} (n0 : 0 ≤ n) (n1 : n < 4294967296) :
    Calls Tryz.prog 55 #[.pointer (some ⟨b, 0, none⟩), .int .u32 n] w fun e w' => e = .returned (.int .i64 (s.told n)) ∧ Turned w b k v (s.add n).f (s.add n).L (s.add n).T w' := by
  have HA := keep (Has_set h n0 n1)
  have H := keep h
  unfold St.told St.add
  by_cases hh : had s.f s.L n = true
  · rw [if_pos hh, if_pos hh]
    rw [hh] at HA
    have HR := keep fun (w2 : World) (hb : Below w.heap.size w w2) => (remember_set (h.step hb) n).mono fun e w' he => And.intro he.1 (Turned.of_part h hb he.2)
    clear h hh n0 n1
    go_enter Tryz.func55, Tryz.ntmps55
    go_wp2_with (first
      | (go_at_call 53; refine HA.out.mono ?_; rintro e w2 ⟨rfl, hb2⟩; replace hb2 := keep hb2)
      | (go_at_call 81; refine (HR.out w2 hb2.out).mono ?_; rintro e w3 ⟨rfl, ht3⟩; replace ht3 := keep ht3))
    go_ret
    exact ⟨rfl, ht3.out⟩
  · have hno := hh
    rw [had_iff] at hno
    rw [if_neg hh, if_neg hh]
    rw [show had s.f s.L n = false by simpa using hh] at HA
    have HC := keep fun (w2 : World) (hb : Below w.heap.size w w2) => (h.step hb).c0
    have e1 := ht_int s.f n
    by_cases hf : 1024 < ht s.f n
    · rw [if_pos hf, if_pos hf]
      have hd : (1024 : Int) < dist32 s.f n := by omega
      have HT := keep fun (w2 : World) (hb : Below w.heap.size w w2) => (show Turned w b k v s.f s.L s.T w2 from ⟨v, h.step hb, .inl rfl, Part.of_below _ hb⟩)
      clear h hh n0 n1 hno e1 hf
      go_enter Tryz.func55, Tryz.ntmps55
      go_wp2_with (first
        | (go_at_call 53; refine HA.out.mono ?_; rintro e w2 ⟨rfl, hb2⟩; have c2 := HC.out w2 hb2; replace hb2 := keep hb2)
        | (go_at_call 10; refine (Dist_any _ _ _).mono ?_; rintro e w' ⟨rfl, rfl⟩))
      go_ret
      exact ⟨rfl, HT.out _ hb2.out⟩
    · rw [if_neg hf, if_neg hf]
      have hd : ¬ (1024 : Int) < dist32 s.f n := by omega
      have HP := keep fun (w2 : World) (hb : Below w.heap.size w w2) => put_set (h.step hb) n0 n1 (by omega) (by omega)
      have HR := keep fun (w2 : World) (h2 : SetAt w2 b k v s.f (insN (ht s.f n) s.L) s.T) => (rise_set h2).mono fun e w' he => And.intro he.1 (show SA w' b k v (s.put (ht s.f n)) ∧ Part (fun i => i = b ∨ i = k) w2 w' by
        obtain ⟨u, h1, h3, h4⟩ := he.2
        have := h1.one h2.map.1.rise
        subst this
        exact ⟨h3, h4⟩)
      clear h hh n0 n1 hno e1 hf
      go_enter Tryz.func55, Tryz.ntmps55
      go_wp2_with (first
        | (go_at_call 53; refine HA.out.mono ?_; rintro e w2 ⟨rfl, hb2⟩; have c2 := HC.out w2 hb2; replace hb2 := keep hb2)
        | (go_at_call 10; refine (Dist_any _ _ _).mono ?_; rintro e w' ⟨rfl, rfl⟩)
        | (go_at_call 82; refine (HP.out w2 hb2.out).mono ?_; rintro e w3 ⟨rfl, h3⟩; replace h3 := keep h3)
        | (go_at_call 83; refine (HR.out w3 h3.out.1).mono ?_; rintro e w4 ⟨rfl, h4⟩; replace h4 := keep h4))
      go_ret
      refine ⟨rfl, v, h4.out.1, .inl rfl, ?_⟩
      exact ((Part.of_below (Ow b k v) hb2.out).trans h3.out.2 fun i hi => .inl (.inr (.inl hi))).trans h4.out.2 fun i hi => .inl (hi.elim .inl fun hi => .inr (.inl hi))
theorem of_wf32 {x : Int} (h : (Lit.int .u32 x).wf = true) : 0 ≤ x ∧ x < 4294967296 := by
  simp [Lit.wf, IntKind.min, IntKind.max, IntKind.signed, IntKind.bits] at h
  omega
section
variable (w : World) {ops : Array Oper} {rest : List Oper} {o : Oper} {a : Act} {Q : Exit → Act → World → Prop}
theorem next_iu (hg : o.guard = none) (it : Operand) (hop : o.op = Op.next it false) (k r n : Nat) (D : Dat) (left : Lit → Bool) (cnt : Nat) (hit : a.eval it = .pointer (some ⟨r, 0, none⟩)) (h : w.ranges Tryz.prog 22 UE k r n D left cnt)
    (hDone : cnt = 0 → (∀ kl, left kl = false) → wpList Tryz.prog ops Q rest (a.put o.dst (.tuple #[.bool false])) w)
    (hMore : ∀ (x : Int) (w' : World) (cnt' : Nat), 0 ≤ x → x < 4294967296 → left (K x) = true → has D (K x) = true → w'.ranges Tryz.prog 22 UE k r n D (fun z => left z && !z.sameKey (K x)) cnt' → cnt' < cnt →
      w.grownBy w' (some r) → w'.heap.size = w.heap.size → (Instr.entry (.pointer (some ⟨r, 0, none⟩))).run Tryz.prog w' = .ok (.tuple #[.int .u32 x, .agg #[]]) w' → wpList Tryz.prog ops Q rest (a.put o.dst (.tuple #[.bool true, .int .u32 x, .agg #[]])) w') :
    wpList Tryz.prog ops Q (o :: rest) a w :=
  wpList_next_ranges w hg it hop 22 keyed UE (Value.int .u32) (fun _ : Unit => Value.agg #[]) (fun key kl hkey => by obtain ⟨x, rfl, _⟩ := Maps.keyOf_int_inv Tryz.underlying22 hkey; exact ⟨x, rfl⟩) (fun v y hv => ⟨(), (unitElem_inv hv).1⟩)
    k r n D left cnt hit h hDone (fun x c kl y w' cnt' hkey hlk hv hat hrg hlt hgr hsz hen => by
      obtain ⟨x', ex, rfl, hwx⟩ := Maps.keyOf_int_inv Tryz.underlying22 hkey
      cases ex
      obtain ⟨h0, h1⟩ := of_wf32 hwx
      exact hMore x w' cnt' h0 h1 hlk (has_true_of_atKey hat) hrg hlt hgr hsz hen)
end
theorem strike_self (left : Lit → Bool) (x : Int) : (left (K x) && !(K x).sameKey (K x)) = false := by rw [WideAt.sameKey_self (K_lit x)]; simp
theorem strike_other (left : Lit → Bool) {x m : Int} (h : m ≠ x) : (left (K m) && !(K m).sameKey (K x)) = left (K m) := by rw [sameKey_ne (K_ne h)]; simp
end
section
open Go.RowKit Go.Sort
abbrev Rw (w : World) (g : Nat) (d : Array Int) : Prop := Holds (Value.int .u16) w g 0 d
theorem Rw.cell {w : World} {g : Nat} {d : Array Int} (h : Rw w g d) {t : Nat} (ht : t < d.size) : w.cell? ⟨g, t, none⟩ = some (.int .u16 d[t]!) := by have := (h t ht).1; rwa [Nat.zero_add] at this
theorem Rw.fz {w : World} {g : Nat} {d : Array Int} (h : Rw w g d) {t : Nat} (ht : t < d.size) : w.frozen? ⟨g, t, none⟩ = false := by have := (h t ht).2; rwa [Nat.zero_add] at this
theorem Rw.swap {w : World} {g : Nat} {d : Array Int} (h : Rw w g d) {i j : Nat} (hi : i < d.size) (hj : j < d.size) :
    Rw ((w.setCell ⟨g, i, none⟩ (.int .u16 d[j]!)).setCell ⟨g, j, none⟩ (.int .u16 d[i]!)) g (swp d i j) := by
  have e := putRow_swp (Value.int .u16) w g 0 d i j hi hj
  rw [putRow_self _ _ _ _ _ h, Nat.zero_add, Nat.zero_add] at e
  rw [e]
  exact holds_putRow _ _ _ _ d _ h (by simp [swp])
theorem Rw.drew {w : World} {g : Nat} {d : Array Int} (h : Rw w g d) (q : Nat) : Rw (w.drewN q) g d := h
theorem isNaN16 (x : Int) (w : World) : Calls Tryz.prog 160 #[.int .u16 x] w fun e w' => e = .returned (.bool false) ∧ w' = w := by
  go_enter Tryz.func160, Tryz.ntmps160
  go_wp2
  go_ret
  exact ⟨by simp, rfl⟩
theorem Less16c (x y : Int) (w : World) : Calls Tryz.prog 146 #[.int .u16 x, .int .u16 y] w fun e w' => e = .returned (.bool (ltInt x y)) ∧ w' = w := by
  go_enter Tryz.func146, Tryz.ntmps146
  go_wp2_with (go_at_call 160; refine (isNaN16 _ _).mono ?_; rintro e w' ⟨rfl, rfl⟩)
  go_ret
  exact ⟨rfl, rfl⟩
structure Done (w : World) (g : Nat) (d' : Array Int) (w' : World) : Prop where
  row : Rw w' g d'
  part : Part (fun i => i = g) w w'
theorem Done.refl {w : World} {g : Nat} {d : Array Int} (h : Rw w g d) : Done w g d w := ⟨h, Part.refl _ _⟩
theorem Done.drew {w w' : World} {g : Nat} {d : Array Int} (h : Done w g d w') (q : Nat) : Done w g d (w'.drewN q) := ⟨h.row.drew q, h.part.drewN q⟩
theorem Done.swap {w w' : World} {g : Nat} {d : Array Int} (h : Done w g d w') {i j : Nat} (hi : i < d.size) (hj : j < d.size) :
    Done w g (swp d i j) ((w'.setCell ⟨g, i, none⟩ (.int .u16 d[j]!)).setCell ⟨g, j, none⟩ (.int .u16 d[i]!)) :=
  ⟨h.row.swap hi hj, (h.part.setCell (p := ⟨g, i, none⟩) (.inl rfl) _).setCell (p := ⟨g, j, none⟩) (.inl rfl) _⟩
theorem ins_go {a j : Nat} {d : Array Int} (hj : a < j) (hl : ltInt d[j]! d[j - 1]! = true) : insInner ltInt a j d = insInner ltInt a (j - 1) (swp d j (j - 1)) := by
  obtain ⟨k, rfl⟩ : ∃ k, j = k + 1 := ⟨j - 1, by omega⟩
  simp only [Nat.add_sub_cancel] at hl ⊢
  rw [insInner, if_pos (by simp [hl]; omega)]
theorem ins_stop {a j : Nat} {d : Array Int} (h : j ≤ a ∨ ltInt d[j]! d[j - 1]! = false) : insInner ltInt a j d = d := by
  rcases j with _ | k
  · rfl
  · simp only [Nat.add_sub_cancel] at h
    rw [insInner, if_neg]
    rcases h with h | h
    · simp
      omega
    · simp [h]
def intOf16 : Value → Nat
  | .int _ x => x.toNat
  | _ => 0
set_option maxHeartbeats 2000000 in
theorem insertion_any {g c a b : Nat} {d : Array Int} {w : World} (h : Rw w g d) (hab : a ≤ b) (hb : b ≤ d.size) (hs : d.size ≤ 1000000) :
    Calls Tryz.prog 140 #[.slice (some ⟨g, 0, none⟩) d.size c, .int .i64 a, .int .i64 b] w fun e w' => e = .returned (.tuple #[]) ∧ Done w g (insertionSort ltInt d a b) w' := by
  obtain ⟨n, hn⟩ : ∃ n, d.size = n := ⟨_, rfl⟩
  have HD := keep (Done.refl h)
  have HN := keep hn
  rw [hn] at hb hs ⊢
  clear h hn
  go_enter Tryz.func140, Tryz.ntmps140
  go_wp2
  go_loopw [6] (fun vi wr => ∃ (i : Nat) (di : Array Int), vi = .int .i64 i ∧ a < i ∧ i ≤ b + 1 ∧ Hid (di.size = n ∧ Done w g di wr ∧ insOuter ltInt a b i di = insertionSort ltInt d a b)) (fun vi _ => b + 1 - intOf16 vi)
  case atStart => exact ⟨a + 1, d, by go_num, by omega, by omega, HN.out, HD.out, rfl⟩
  case round =>
    obtain ⟨i, di, rfl, hai, hib, H⟩ := hrel
    go_wp2
    · have hlt : i < b := by assumption
      go_loopw [7] (fun vj wq => ∃ (j : Nat) (dj : Array Int), vj = .int .i64 j ∧ a ≤ j ∧ j ≤ i ∧ Hid (dj.size = n ∧ Done w g dj wq ∧ insInner ltInt a j dj = insInner ltInt a i di)) (fun vj _ => intOf16 vj)
      case atStart => exact ⟨i, di, rfl, by omega, Nat.le_refl _, H.out.1, H.out.2.1, rfl⟩
      case round =>
        obtain ⟨j, dj, rfl, haj, hji, HJ⟩ := hrel
        obtain ⟨G, hG⟩ : ∃ G : Nat → Int, ∀ t, dj[t]! = G t := ⟨fun t => dj[t]!, fun _ => rfl⟩
        have hcw : ∀ t, t < n → wr.cell? ⟨g, t, none⟩ = some (.int .u16 (G t)) := fun t ht => by rw [← hG]; exact HJ.out.2.1.row.cell (by rw [HJ.out.1]; exact ht)
        have hfw : ∀ t, t < n → wr.frozen? ⟨g, t, none⟩ = false := fun t ht => HJ.out.2.1.row.fz (by rw [HJ.out.1]; exact ht)
        have HG := keep hG
        have OUT := keep fun (hst : j ≤ a ∨ ltInt dj[j]! dj[j - 1]! = false) => (show insOuter ltInt a b (i + 1) dj = insertionSort ltInt d a b by
          rw [← H.out.2.2]
          conv => rhs; rw [insOuter, if_pos hlt]
          rw [← HJ.out.2.2, ins_stop hst])
        clear hG
        go_wp2
        by_cases hja : a < j
        · have hjn : j < n := by omega
          have hjz : (j : Int) < (n : Int) := by omega
          have hj1 : j - 1 < n := by omega
          go_quiet (first | (go_at_call 146; refine Calls.quiet_of_same (Less16c _ _ _)))
          go_wp2
          · have hl : ltInt (G j) (G (j - 1)) = true := by assumption
            go_region
            all_goals go_wp2
            go_roundw
            case rel =>
              refine ⟨j - 1, swp dj j (j - 1), by congr 1; omega, by omega, by omega, by rw [swp_size]; exact HJ.out.1, ?_, by rw [← HJ.out.2.2, ins_go hja (by rw [HG.out, HG.out]; exact hl)]⟩
              rw [← HG.out, ← HG.out]
              exact (HJ.out.2.1.drew _).swap (by rw [HJ.out.1]; exact hjn) (by rw [HJ.out.1]; exact hj1)
            case measure => simp [intOf16]; omega
          · have hl : ltInt (G j) (G (j - 1)) = false := by assumption
            go_roundw
            case rel => exact ⟨i + 1, dj, by go_num, by omega, by omega, HJ.out.1, HJ.out.2.1.drew _, OUT.out (.inr (by rw [HG.out, HG.out]; exact hl))⟩
            case measure => simp [intOf16]; omega
        · go_quiet (first | (go_at_call 146; refine Calls.quiet_of_same (Less16c _ _ _)))
          go_wp2
          go_roundw
          case rel => exact ⟨i + 1, dj, by go_num, by omega, by omega, HJ.out.1, HJ.out.2.1.drew _, OUT.out (.inl (by omega))⟩
          case measure => simp [intOf16]; omega
    · have hge : ¬ i < b := by assumption
      go_end0
      refine ⟨rfl, ?_⟩
      have := H.out.2.2
      rw [insOuter, if_neg hge] at this
      rw [← this]
      exact H.out.2.1
end
section
open Go.RowKit Go.Sort
theorem len_a (B : UInt8) (w : World) : ∃ l : Nat, Ending.returned (.int .i64 (wrap64 (8 + wrap64 (B.toNat : Int)))) = Ending.returned (.int .i64 (l : Int)) ∧ l ≤ 300 ∧ w = w := by
  have := B.toNat_lt
  exact ⟨8 + B.toNat, by congr 2; unfold wrap64; omega, by omega, rfl⟩
theorem len_b (B : UInt8) (w : World) : ∃ l : Nat, Ending.returned (.int .i64 (wrap64 (wrap64 (B.toNat : Int)))) = Ending.returned (.int .i64 (l : Int)) ∧ l ≤ 300 ∧ w = w := by
  have := B.toNat_lt
  exact ⟨B.toNat, by congr 2; unfold wrap64; omega, by omega, rfl⟩
set_option maxHeartbeats 2000000 in
set_option maxRecDepth 1000000 in
theorem Len64_small (x : Int) (w : World) (h0 : 0 ≤ x) (h1 : x < 65536) : Calls Tryz.prog 150 #[.int .u64 x] w fun e w' => ∃ l : Nat, e = .returned (.int .i64 l) ∧ l ≤ 300 ∧ w' = w := by
  by_cases h2 : 256 ≤ x
  · go_enter Tryz.func150, Tryz.ntmps150
    go_wp2
    go_ret
    exact len_a _ _
  · go_enter Tryz.func150, Tryz.ntmps150
    go_wp2
    go_ret
    exact len_b _ _
theorem pdq_few {g c a b : Nat} {d : Array Int} {w : World} {l : Int} (h : Rw w g d) (hab : a ≤ b) (hb : b ≤ d.size) (hs : d.size ≤ 1000000) (h12 : b - a ≤ 12) :
    Calls Tryz.prog 131 #[.slice (some ⟨g, 0, none⟩) d.size c, .int .i64 a, .int .i64 b, .int .i64 l] w fun e w' => e = .returned (.tuple #[]) ∧ Done w g (insertionSort ltInt d a b) w' := by
  have HI := keep (insertion_any (c := c) h hab hb hs)
  obtain ⟨n, hn⟩ : ∃ n, d.size = n := ⟨_, rfl⟩
  rw [hn] at HI hb hs ⊢
  have hz : (b : Int) - a ≤ 12 := by omega
  clear h hn
  go_enter Tryz.func131, Tryz.ntmps131
  go_wp2
  refine wp_loop_rounds 1 ?_
  rw [rounds_succ]
  go_wp2_with (go_at_call 140; refine HI.out.mono ?_; rintro e w' ⟨rfl, hd⟩; replace hd := keep hd)
  (try simp only [Exit.inBlock, Exit.then])
  exact bodyPost_ret (results_none rfl _ _ _) rfl ⟨rfl, hd.out⟩
theorem Len_small (x : Int) (w : World) (h0 : 0 ≤ x) (h1 : x < 65536) : Calls Tryz.prog 132 #[.int .u64 x] w fun e w' => ∃ l : Nat, e = .returned (.int .i64 l) ∧ l ≤ 300 ∧ w' = w := by
  go_enter Tryz.func132, Tryz.ntmps132
  go_wp2_with (go_at_call 150; refine (Len64_small _ _ h0 h1).mono ?_; rintro e w' ⟨l, rfl, hl, rfl⟩)
  go_ret
  exact ⟨l, rfl, hl, rfl⟩
def Sorted (w : World) (g : Nat) (d : Array Int) (w' : World) : Prop := ∃ d', Done w g d' w' ∧ d'.toList.Perm d.toList ∧ d'.toList.Pairwise (fun x y => x ≤ y)
theorem Sorted.of {w w' : World} {g : Nat} {d d' : Array Int} (h : Done w g d' w') (hp : PermIn 0 d.size d d') (hs : SortedIn ltInt 0 d.size d') : Sorted w g d w' := by
  refine ⟨d', h, ?_, ?_⟩
  · have := hp.2.2
    have e1 : d'.extract 0 d.size = d' := by rw [← hp.1]; simp
    rwa [e1, Array.extract_size] at this
  · rw [List.pairwise_iff_getElem]
    intro i j hi hj hij
    have hi' : i < d'.size := by simpa using hi
    have hj' : j < d'.size := by simpa using hj
    have := hs i j (Nat.zero_le _) hij (by rw [← hp.1]; exact hj')
    rw [getElem!_pos d' j hj', getElem!_pos d' i hi'] at this
    simp [ltInt] at this
    simpa using this
theorem Sort_few {g c : Nat} {d : Array Int} {w : World} (h : Rw w g d) (h12 : d.size ≤ 12) :
    Calls Tryz.prog 108 #[.slice (some ⟨g, 0, none⟩) d.size c] w fun e w' => e = .returned (.tuple #[]) ∧ Sorted w g d w' := by
  have hall := insertionSort_holds (lt := ltInt) swo_ltInt d 0 d.size (Nat.zero_le _) (Nat.le_refl _)
  have HI := keep fun l => (pdq_few (c := c) (l := l) h (Nat.zero_le _) (Nat.le_refl _) (by omega) (by omega)).mono fun e w' he => And.intro he.1 (Sorted.of he.2 hall.1 hall.2)
  obtain ⟨n, hn⟩ : ∃ n, d.size = n := ⟨_, rfl⟩
  rw [hn] at HI h12 ⊢
  clear h hn hall
  go_enter Tryz.func108, Tryz.ntmps108
  go_wp2_with (first
    | (go_at_call 132; refine (Len_small _ _ (by omega) (by omega)).mono ?_; rintro e w' ⟨l, rfl, hl, rfl⟩; clear hl)
    | (go_at_call 131; refine (HI.out _).mono ?_; rintro e w2 ⟨rfl, hd⟩; replace hd := keep hd))
  go_end0
  exact ⟨rfl, hd.out⟩
end
end Go.Proofs.YtnlkdlnmffibhaaGreat
