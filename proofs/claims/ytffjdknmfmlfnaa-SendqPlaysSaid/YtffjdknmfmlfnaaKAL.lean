/- KAL of the stage: texts Q18, joined. -/
import Derived.Test.YtffjdknmfmlfnaaKAK
import Derived.Test.YtffjdknmfmlfnaaKAI
import Derived.Lib.SlicesDelete
set_option linter.unusedSimpArgs false
set_option linter.unusedVariables false
namespace Go.Proofs.Ytffjdknmfmlfnaa
section
open Go.RowKit Go.Maps

theorem ES.ptr {w : World} {s : SL} {es : List En} (h : ES w s es) {i : Nat} {e : En} (he : es[i]? = some e) : ∃ b o, s.1 = some ⟨b, o, none⟩ ∧ b < w.heap.size ∧ w.cell? ⟨b, o + i, none⟩ = some (.pointer (some ⟨e.p, 0, none⟩)) := by
  have hn : es.map En.ptr ≠ [] := by intro h0; rw [List.map_eq_nil_iff] at h0; rw [h0] at he; simp at he
  obtain ⟨b, o, e1, e2, e3⟩ := h.rd hn
  exact ⟨b, o, e1, e2, e3 i _ (by rw [List.getElem?_map, he]; rfl)⟩
/-- The entries up to one. -/
theorem QA.es_take {w : World} {G : Gq} {q : Qm} (h : QA w G q) {k : Nat} (hk : k ≤ q.es.length) {A : Option Addr} (c : Nat) (hA : k ≠ 0 → A = G.s.1) : ES w (A, k, c) (q.es.take k) := by
  refine ⟨by rw [List.length_take]; exact (Nat.min_eq_left hk).symm, fun hne => ?_, fun e he => ?_⟩
  · have hk0 : k ≠ 0 := by rintro rfl; simp at hne
    have hq : q.es.map En.ptr ≠ [] := by
      intro h0
      rw [List.map_eq_nil_iff] at h0
      rw [h0] at hk
      simp at hk
      exact hk0 hk
    obtain ⟨b, o, e1, e2, e3⟩ := h.sr.2 hq
    refine ⟨b, o, (hA hk0).trans e1, e2, fun i v hv => e3 i v ?_⟩
    rw [List.map_take, List.getElem?_take] at hv
    split at hv
    · exact hv
    · cases hv
  · have he' := List.mem_of_mem_take he
    exact ⟨(h.en e he').1.blk, (h.en e he').1.sm⟩
/-- Where the first of a kind lies. -/
def FstAt (f : En → Bool) (es : List En) (z : Int) : Prop := (z = -1 ∧ es.all (fun e => !f e) = true) ∨ ∃ j : Nat, z = (j : Int) ∧ j < es.length ∧ (∃ e, es[j]? = some e ∧ f e = true) ∧ ∀ y ∈ es.take j, f y = false
theorem FstAt.any {f : En → Bool} {es : List En} {z : Int} (h : FstAt f es z) : decide (0 ≤ z) = es.any f := by
  rw [Bool.eq_iff_iff, decide_eq_true_eq, List.any_eq_true]
  rcases h with ⟨rfl, h⟩ | ⟨j, rfl, h1, ⟨e, h2, h3⟩, h4⟩
  · refine ⟨fun h => absurd h (by decide), fun ⟨y, hy, hf⟩ => ?_⟩
    have := List.all_eq_true.1 h y hy
    rw [hf] at this
    cases this
  · exact ⟨fun _ => ⟨e, List.mem_of_getElem? h2, h3⟩, fun _ => by omega⟩
def waitsB (e : En) : Bool := e.st == 0
def openB (e : En) : Bool := e.st != 3 && e.st != 4
set_option maxHeartbeats 1000000 in
theorem waitsIndex_any (s : SL) (es : List En) (w : World) (h : ES w s es) (hn : s.2.1 ≤ 1000000) :
    Calls Try.prog 76 #[.slice s.1 s.2.1 s.2.2, .func (.func 65) #[] #[]] w fun e w' => (∃ z : Int, e = .returned (.int .i64 z) ∧ Hid (FstAt waitsB es z)) ∧ w = w' := by
  have H := keep h
  have HL := keep h.sn
  clear h
  obtain ⟨s1, n, s3⟩ := s
  dsimp only at HL hn ⊢
  go_enter Try.func76, Try.ntmps76
  go_wp2
  go_loopw [5, 8] (fun _ i wr => ∃ j : Nat, j ≤ n ∧ i = .int .i64 j ∧ Hid (∀ y ∈ es.take j, waitsB y = false) ∧ wr = w) (fun _ i _ => n - (intOf i).toNat)
  case atStart => exact ⟨0, Nat.zero_le _, rfl, keep (by simp), rfl⟩
  case round =>
    obtain ⟨j, hj, rfl, hno, rfl⟩ := hrel
    by_cases hlt : j < n
    · have hjl : j < es.length := by have := HL.out; omega
      obtain ⟨e, he⟩ : ∃ e, es[j]? = some e := ⟨_, List.getElem?_eq_getElem hjl⟩
      obtain ⟨b, o, hA, hbl, hcp⟩ := H.out.ptr he
      dsimp only at hA
      subst hA
      have HJ := keep he
      have KU := waits_at e.p e.st _ (H.out.at_ (List.mem_of_getElem? he) 13 _ rfl)
      obtain ⟨r, hr⟩ : ∃ r, r = waitsB e := ⟨_, rfl⟩
      unfold waitsB at hr
      rw [← hr] at KU
      have HR := keep (show r = waitsB e from hr)
      replace KU := keep KU
      clear hr he
      cases r
      · go_wp2_with (go_at_call 65; refine KU.out.mono ?_; rintro e w1 ⟨rfl, rfl⟩)
        go_roundw
        case rel =>
          refine ⟨j + 1, by omega, by go_num, keep fun y hy => ?_, by first | trivial | rfl⟩
          rw [List.take_add_one, HJ.out] at hy
          rcases List.mem_append.1 hy with hy | hy
          · exact hno.out y hy
          · simp at hy
            rw [hy, HR.out]
        case measure => simp [intOf]; omega
      · go_wp2_with (go_at_call 65; refine KU.out.mono ?_; rintro e w1 ⟨rfl, rfl⟩)
        go_ret
        exact ⟨⟨_, rfl, keep (.inr ⟨j, rfl, hjl, ⟨_, HJ.out, HR.out.symm⟩, hno.out⟩)⟩, rfl⟩
    · obtain rfl : n = j := by omega
      go_wp2
      go_ret
      have hno := hno.out
      rw [List.take_of_length_le (by have := HL.out; omega)] at hno
      exact ⟨⟨_, rfl, keep (.inl ⟨rfl, List.all_eq_true.2 fun y hy => by rw [hno y hy]; rfl⟩)⟩, rfl⟩
set_option maxHeartbeats 1000000 in
theorem openIndex_any (s : SL) (es : List En) (w : World) (h : ES w s es) (hn : s.2.1 ≤ 1000000) :
    Calls Try.prog 76 #[.slice s.1 s.2.1 s.2.2, .func (.func 77) #[] #[]] w fun e w' => (∃ z : Int, e = .returned (.int .i64 z) ∧ Hid (FstAt openB es z)) ∧ w = w' := by
  have H := keep h
  have HL := keep h.sn
  clear h
  obtain ⟨s1, n, s3⟩ := s
  dsimp only at HL hn ⊢
  go_enter Try.func76, Try.ntmps76
  go_wp2
  go_loopw [5, 8] (fun _ i wr => ∃ j : Nat, j ≤ n ∧ i = .int .i64 j ∧ Hid (∀ y ∈ es.take j, openB y = false) ∧ wr = w) (fun _ i _ => n - (intOf i).toNat)
  case atStart => exact ⟨0, Nat.zero_le _, rfl, keep (by simp), rfl⟩
  case round =>
    obtain ⟨j, hj, rfl, hno, rfl⟩ := hrel
    by_cases hlt : j < n
    · have hjl : j < es.length := by have := HL.out; omega
      obtain ⟨e, he⟩ : ∃ e, es[j]? = some e := ⟨_, List.getElem?_eq_getElem hjl⟩
      obtain ⟨b, o, hA, hbl, hcp⟩ := H.out.ptr he
      dsimp only at hA
      subst hA
      have HJ := keep he
      have KU := open_at e.p e.st _ (H.out.at_ (List.mem_of_getElem? he) 13 _ rfl)
      obtain ⟨r, hr⟩ : ∃ r, r = openB e := ⟨_, rfl⟩
      unfold openB at hr
      rw [← hr] at KU
      have HR := keep (show r = openB e from hr)
      replace KU := keep KU
      clear hr he
      cases r
      · go_wp2_with (go_at_call 77; refine KU.out.mono ?_; rintro e w1 ⟨rfl, rfl⟩)
        go_roundw
        case rel =>
          refine ⟨j + 1, by omega, by go_num, keep fun y hy => ?_, by first | trivial | rfl⟩
          rw [List.take_add_one, HJ.out] at hy
          rcases List.mem_append.1 hy with hy | hy
          · exact hno.out y hy
          · simp at hy
            rw [hy, HR.out]
        case measure => simp [intOf]; omega
      · go_wp2_with (go_at_call 77; refine KU.out.mono ?_; rintro e w1 ⟨rfl, rfl⟩)
        go_ret
        exact ⟨⟨_, rfl, keep (.inr ⟨j, rfl, hjl, ⟨_, HJ.out, HR.out.symm⟩, hno.out⟩)⟩, rfl⟩
    · obtain rfl : n = j := by omega
      go_wp2
      go_ret
      have hno := hno.out
      rw [List.take_of_length_le (by have := HL.out; omega)] at hno
      exact ⟨⟨_, rfl, keep (.inl ⟨rfl, List.all_eq_true.2 fun y hy => by rw [hno y hy]; rfl⟩)⟩, rfl⟩
theorem wContains_any (s : SL) (es : List En) (w : World) (h : ES w s es) (hn : s.2.1 ≤ 1000000) :
    Calls Try.prog 64 #[.slice s.1 s.2.1 s.2.2, .func (.func 65) #[] #[]] w fun e w' => e = .returned (.bool (es.any waitsB)) ∧ w = w' := by
  have K := keep (waitsIndex_any s es w h hn)
  clear h hn
  go_enter Try.func64, Try.ntmps64
  go_wp2_with (go_at_call 76; refine K.out.mono ?_; rintro e w1 ⟨⟨z, rfl, hz⟩, rfl⟩)
  go_ret
  exact ⟨ret_bool hz.out.any, rfl⟩
/-- Is a number the floor, or that of an entry up to which none waits? -/
def reachedB (q : Qm) (n : Int) : Bool := (decide (0 < stp q n) || n == flr q) && !(q.es.take (stp q n)).any waitsB
theorem reached_nil (n : Int) (w : World) : Calls Try.prog 42 #[.pointer none, .int .u32 n] w fun e w' => e = .returned (.bool false) ∧ w = w' := by
  go_enter Try.func42, Try.ntmps42
  go_wp2
  go_ret
  exact ⟨rfl, rfl⟩
theorem reached_any {w : World} {G : Gq} {q : Qm} (h : QA w G q) (n : Int) :
    Calls Try.prog 42 #[.pointer (some ⟨G.b, 0, none⟩), .int .u32 n] w fun e w' => e = .returned (.bool (reachedB q n)) ∧ Below w.heap.size w w' := by
  have K1 := keep (upTo_any h n)
  have K2 := keep (fun W (hb : Below w.heap.size w W) => Floor_any (h.step hb))
  have hsl := stp_le q n
  have hle := h.le
  have K3 := keep (fun A c (hA : stp q n ≠ 0 → A = G.s.1) W (hb : Below w.heap.size w W) => wContains_any (A, stp q n, c) _ W ((h.step hb).es_take hsl c hA) (by show stp q n ≤ _; omega))
  have HB := keep (show reachedB q n = ((decide (0 < stp q n) || n == flr q) && !(q.es.take (stp q n)).any waitsB) from rfl)
  generalize flr q = f at K2 HB
  generalize (q.es.take (stp q n)).any waitsB = wb at K3 HB
  generalize reachedB q n = rb at HB ⊢
  generalize stp q n = d at K1 K3 HB hsl
  clear h
  have arm : True := trivial
  by_cases hd : 0 < d
  · have HR : Hid (rb = !wb) := by rw [HB.out]; simp [hd]; trivial
    have hd' : (0 : Int) < (d : Int) := by omega
    clear HB
    go_enter Try.func42, Try.ntmps42
    go_wp2_with (first
      | (go_at_call 56; refine K1.out.mono ?_; rintro e w1 ⟨⟨A, c, rfl, hc, hA⟩, k, rfl⟩; replace hA := keep hA)
      | (go_at_call 64; refine (K3.out A c hA.out _ (below_drewN (Below.refl _ w) _)).mono ?_; rintro e w2 ⟨rfl, rfl⟩))
    go_ret
    exact ⟨ret_bool HR.out.symm, below_drewN (Below.refl _ w) _⟩
  · obtain rfl : d = 0 := by omega
    by_cases hn : n = f
    · subst hn
      have HR : Hid (rb = !wb) := by rw [HB.out]; simp; trivial
      clear HB
      go_enter Try.func42, Try.ntmps42
      go_wp2_with (first
        | (go_at_call 56; refine K1.out.mono ?_; rintro e w1 ⟨⟨A, c, rfl, hc, hA⟩, k, rfl⟩; replace hA := keep hA)
        | (go_at_call 14; refine (K2.out _ (below_drewN (Below.refl _ w) _)).mono ?_; rintro e w2 ⟨rfl, k2, rfl⟩)
        | (go_at_call 64; refine (K3.out A c hA.out _ (below_drewN (Below.refl _ w) _)).mono ?_; rintro e w3 ⟨rfl, rfl⟩))
      go_ret
      exact ⟨ret_bool HR.out.symm, below_drewN (Below.refl _ w) _⟩
    · have HR : Hid (rb = false) := by rw [HB.out]; simp [hn]; trivial
      clear HB
      go_enter Try.func42, Try.ntmps42
      go_wp2_with (first
        | (go_at_call 56; refine K1.out.mono ?_; rintro e w1 ⟨⟨A, c, rfl, hc, hA⟩, k, rfl⟩; replace hA := keep hA)
        | (go_at_call 14; refine (K2.out _ (below_drewN (Below.refl _ w) _)).mono ?_; rintro e w2 ⟨rfl, k2, rfl⟩))
      go_ret
      exact ⟨ret_bool HR.out.symm, below_drewN (Below.refl _ w) _⟩
end
end Go.Proofs.Ytffjdknmfmlfnaa
