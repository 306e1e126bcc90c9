/- KAP of the stage: texts R1, R2, joined. -/
import Derived.Test.YtffjdknmfmlfnaaKAE
import Derived.Test.YtffjdknmfmlfnaaKAN
import Derived.Test.YtffjdknmfmlfnaaKAF
import Derived.Test.YtffjdknmfmlfnaaKAO
import Derived.Deep.QuietTactic
import Derived.BigQuiet
set_option linter.unusedSimpArgs false
set_option linter.unusedVariables false
namespace Go.Proofs.Ytffjdknmfmlfnaa
section
open Go.RowKit Go.Maps

/-- An entry of the document's queue. -/
structure RE where
  c : CZ
  mg : Int
  st : Int
  sn : Int
  la : Int
  ms : Int
  un : Int
  tr : Int
def RE.cells (r : RE) : List Value := r.c.cells ++ [.int .i64 r.mg, .int .i64 r.st, .int .i64 r.sn, .int .i64 r.la, .int .i64 r.ms, .int .i64 r.un, .int .i64 r.tr]
theorem RE.len (r : RE) : r.cells.length = 19 := rfl
theorem flat_put {α : Type} {f : α → List Value} {K : Nat} (hf : ∀ x, (f x).length = K) {x y : α} {j : Nat} {v : Value} (hj : j < K) (hy : (f x).set j v = f y) : ∀ {l : List α} {i : Nat}, l[i]? = some x → (flatF f l).set (i * K + j) v = flatF f (l.set i y)
  | [], i, h => by cases h
  | z :: r, 0, h => by
    injection h with h
    subst h
    show (f z ++ flatF f r).set (0 * K + j) v = f y ++ flatF f r
    rw [Nat.zero_mul, Nat.zero_add, List.set_append_left _ _ (by rw [hf]; exact hj), hy]
  | z :: r, i + 1, h => by
    have ih := flat_put hf hj hy (l := r) (i := i) h
    show (f z ++ flatF f r).set ((i + 1) * K + j) v = f z ++ flatF f (r.set i y)
    have hK : (i + 1) * K + j = K + (i * K + j) := by rw [Nat.add_mul, Nat.one_mul]; omega
    rw [hK, List.set_append_right _ _ (by rw [hf]; exact Nat.le_add_right _ _), hf, Nat.add_sub_cancel_left, ih]
theorem own_put2 {w : World} {base : Nat} {e : TypeId} {K n c : Nat} {A : Option Addr} {xs : List Value} (h : w.ownsRow base e K (.slice A n c) n xs) {g : Nat} (hA : A = some ⟨g, 0, none⟩) (j : Nat) (v : Value) (hj : j < xs.length) : (w.setCell ⟨g, j, none⟩ v).ownsRow base e K (.slice A n c) n (xs.set j v) := by
  refine ⟨by rw [List.length_set]; exact h.1, ?_⟩
  rcases h.2 with ⟨h0, h1⟩ | ⟨g', cap, cur, hv, hb, hg, hnc, hm, hsz, ht⟩
  · have := h.1
    rw [h1, Nat.zero_mul] at this
    omega
  · subst hA
    injection hv with a1 a2 a3
    injection a1 with a1
    injection a1 with a1
    subst a1 a3
    refine .inr ⟨g, c, cur.setIfInBounds j v, rfl, hb, heap_setCell_same _ g j _ _ _ hg, hnc, hm, by simpa using hsz, ?_⟩
    rw [← ht, Array.toList_setIfInBounds, List.take_set]
/-- What the document's queue holds. -/
structure Rm where
  rs : List RE
  nx : Int
  ct : Int
/-- The document's queue in memory: a block of its own, a row of its own. -/
structure RA (w : World) (b : Nat) (s : SL) (q : Rm) (W : World) : Prop where
  blk : W.heap[b]? = some (.cells #[.slice s.1 s.2.1 s.2.2, .int .u32 q.nx, .int .i64 q.ct] 59 (0, 0))
  lo : w.heap.size ≤ b
  row : W.ownsRow w.heap.size 91 19 (.slice s.1 s.2.1 s.2.2) s.2.1 (flatF RE.cells q.rs)
  bl : Below w.heap.size w W
  zv : ∀ r ∈ q.rs, ZV w r.c ∧ Sm r.c
  nx : 0 ≤ q.nx ∧ q.nx < 4294967296
  le : q.rs.length ≤ 1024
/-- The blocks that are its own. -/
def Rb (b : Nat) (s : SL) (i : Nat) : Prop := i = b ∨ (Value.slice s.1 s.2.1 s.2.2).ownBlock = some i
section
variable {w W W' : World} {b : Nat} {s : SL} {q : Rm}
theorem RA.n (h : RA w b s q W) : s.2.1 = q.rs.length := by
  have h1 := h.row.1
  rw [flatF_len RE.len] at h1
  omega
theorem RA.step (h : RA w b s q W) (hb : Below W.heap.size W W') : RA w b s q W' :=
  ⟨(hb.block _ (Array.getElem?_eq_some_iff.1 h.blk).1).trans h.blk, h.lo, own_step h.row hb, up h.bl hb, h.zv, h.nx, h.le⟩
/-- Other blocks of the call's own may be written. -/
theorem RA.part (h : RA w b s q W) {S : Nat → Prop} (hp : Part S W W') (hS : ∀ i, S i → w.heap.size ≤ i ∧ ¬ Rb b s i) : RA w b s q W' :=
  ⟨(hp.block _ (Array.getElem?_eq_some_iff.1 h.blk).1 fun hc => (hS _ hc).2 (.inl rfl)).trans h.blk, h.lo, hp.own h.row (fun g hg hc => (hS g hc).2 (.inr hg)), h.bl.trans (hp.below h.bl.size fun i hi => (hS i hi).1), h.zv, h.nx, h.le⟩
theorem RA.lt (h : RA w b s q W) : ∀ i, Rb b s i → i < W.heap.size := fun i hi => by
  rcases hi with rfl | hi
  · exact (Array.getElem?_eq_some_iff.1 h.blk).1
  · exact (h.row.lt i hi).2
theorem RA.b0 (h : RA w b s q W) : W.cell? ⟨b, 0, none⟩ = some (.slice s.1 s.2.1 s.2.2) ∧ W.cell? ⟨b, 1, none⟩ = some (.int .u32 q.nx) ∧ W.cell? ⟨b, 2, none⟩ = some (.int .i64 q.ct) ∧ W.frozen? ⟨b, 0, none⟩ = false ∧ W.frozen? ⟨b, 1, none⟩ = false ∧ W.frozen? ⟨b, 2, none⟩ = false :=
  ⟨upd_cell h.blk 0 _ rfl, upd_cell h.blk 1 _ rfl, upd_cell h.blk 2 _ rfl, upd_fz h.blk 0, upd_fz h.blk 1, upd_fz h.blk 2⟩
/-- The cells of an entry. -/
theorem RA.at_ (h : RA w b s q W) {i : Nat} {r : RE} (hr : q.rs[i]? = some r) : ∃ g, s.1 = some ⟨g, 0, none⟩ ∧ w.heap.size ≤ g ∧ g ≠ b ∧ (∀ j v, j < 19 → r.cells[j]? = some v → W.cell? ⟨g, i * 19 + j, none⟩ = some v) ∧ (∀ j, W.frozen? ⟨g, j, none⟩ = false) := by
  have hl := (List.getElem?_eq_some_iff.1 hr).1
  have hne : flatF RE.cells q.rs ≠ [] := fun h0 => by
    have h1 := flatF_len RE.len q.rs
    rw [h0] at h1
    simp at h1
    omega
  obtain ⟨g, h1, h2, h3, h4, cs, h5⟩ := own_row_at h.row hne
  refine ⟨g, h1, h2, fun hc => ?_, fun j v hj hv => h3 _ _ ((flatF_get (f := RE.cells) RE.len q.rs i r hr j hj).trans hv), h4⟩
  exact cells_cells h5 h.blk (by decide) hc
/-- A cell of an entry is written. -/
theorem RA.set (h : RA w b s q W) {i : Nat} {r r' : RE} (hr : q.rs[i]? = some r) {g : Nat} (hg : s.1 = some ⟨g, 0, none⟩) (j : Nat) (v : Value) (hj : j < 19) (hc : r.cells.set j v = r'.cells) (hrc : r'.c = r.c) : RA w b s { q with rs := q.rs.set i r' } (W.setCell ⟨g, i * 19 + j, none⟩ v) ∧ Part (fun k => k = g) W (W.setCell ⟨g, i * 19 + j, none⟩ v) := by
  obtain ⟨g', h1, h2, h3, _, _⟩ := h.at_ hr
  rw [hg] at h1
  injection h1 with h1
  injection h1 with h1
  subst h1
  have hl := (List.getElem?_eq_some_iff.1 hr).1
  have hp := part_set W g (i * 19 + j) v
  refine ⟨⟨set_other h.blk (fun e => h3 e.symm), h.lo, ?_, h.bl.setCell (p := ⟨g, i * 19 + j, none⟩) h2 _, fun x hx => ?_, h.nx, by simpa using h.le⟩, hp⟩
  · show World.ownsRow _ w.heap.size _ 19 _ _ (flatF RE.cells (q.rs.set i r'))
    rw [← flat_put RE.len hj hc hr]
    exact own_put2 h.row hg _ _ (by rw [flatF_len RE.len]; omega)
  · have hx : x ∈ q.rs.set i r' := hx
    obtain ⟨t, ht⟩ := List.getElem?_of_mem hx
    rw [List.getElem?_set] at ht
    by_cases hit : i = t
    · rw [if_pos hit, if_pos hl] at ht
      injection ht with ht
      subst ht
      rw [hrc]
      exact h.zv r (List.mem_of_getElem? hr)
    · rw [if_neg hit] at ht
      exact h.zv x (List.mem_of_getElem? ht)
theorem refNew15_any (first : Int) (hf : 0 ≤ first ∧ first < 4294967296) (hb : Below w.heap.size w W) : Calls Try.prog 7 #[.int .u32 first] W fun e w' => e = .returned (.pointer (some ⟨W.heap.size, 0, none⟩)) ∧ Hid (RA w W.heap.size (none, 0, 0) ⟨[], first, 0⟩ w' ∧ Below W.heap.size W w') := by
  have H := keep (show RA w W.heap.size (none, 0, 0) ⟨[], first, 0⟩ (W.alloc (.cells #[.slice none 0 0, .int .u32 first, .int .i64 0] 59)) ∧ Below W.heap.size W (W.alloc (.cells #[.slice none 0 0, .int .u32 first, .int .i64 0] 59)) from
    ⟨⟨heap_alloc_new W _, hb.size, World.ownsRow_nil _ _ _ _, up hb (below_lay _ _), fun r hr => (by cases hr), hf, Nat.zero_le _⟩, below_lay _ _⟩)
  clear hf hb
  go_enter Try.func7, Try.ntmps7
  go_wp2
  go_ret
  exact ⟨rfl, H⟩
def rFlr (q : Rm) : Int := (q.nx - (q.rs.length : Int) - 1) % 4294967296
theorem refFloor15_any (h : RA w b s q W) : Calls Try.prog 30 #[.pointer (some ⟨b, 0, none⟩)] W fun e w' => e = .returned (.int .u32 (rFlr q)) ∧ ∃ k, w' = W.drewN k := by
  obtain ⟨c0, c1, _, _, _, _⟩ := h.b0
  have HF := keep (show ((q.nx - (s.2.1 : Int)) % 4294967296 - 1) % 4294967296 = rFlr q by unfold rFlr; rw [h.n]; omega)
  clear h
  obtain ⟨s1, s2, s3⟩ := s
  dsimp only at c0 HF
  go_enter Try.func30, Try.ntmps30
  go_wp2
  go_quiet (fail)
  go_wp2
  go_ret
  exact ⟨ret_int HF.out, _, rfl⟩
/-- How many octets entries of two states have. -/
def rOct (rs : List RE) (a c : Int) : Nat → Nat
  | 0 => 0
  | i + 1 => rOct rs a c i + match rs[i]? with | some r => if r.st = a ∨ r.st = c then r.c.da.2.1 else 0 | none => 0
theorem rOct_le {rs : List RE} {B : Nat} (hs : ∀ r ∈ rs, r.c.da.2.1 ≤ B) (a c : Int) : ∀ i, rOct rs a c i ≤ i * B
  | 0 => Nat.zero_le _
  | i + 1 => by
    rw [rOct, Nat.add_mul, Nat.one_mul]
    refine Nat.add_le_add (rOct_le hs a c i) ?_
    cases hr : rs[i]? with
    | none => exact Nat.zero_le _
    | some r =>
      dsimp only
      split
      · exact hs r (List.mem_of_getElem? hr)
      · exact Nat.zero_le _
set_option maxHeartbeats 2000000 in
theorem refOctets15_any (h : RA w b s q W) (a c : Int) : Calls Try.prog 33 #[.pointer (some ⟨b, 0, none⟩), .int .i64 a, .int .i64 c] W fun e w' => e = .returned (.int .i64 ((rOct q.rs a c q.rs.length : Nat) : Int)) ∧ w' = W := by
  have HA := keep h
  have hn := h.n
  have hle := h.le
  obtain ⟨c0, _, _, _, _, _⟩ := h.b0
  have HB := keep (fun i => rOct_le (B := 1000000) (fun r hr => (h.zv r hr).2.da) a c i)
  clear h
  obtain ⟨s1, n, s3⟩ := s
  dsimp only at c0 hn
  have HN := keep hn
  have hn1 : (n : Int) ≤ 1024 := by omega
  clear hn hle
  go_enter Try.func33, Try.ntmps33
  go_wp2
  go_loopw [7, 8] (fun t i wr => ∃ j : Nat, j ≤ n ∧ i = .int .i64 j ∧ t = .int .i64 ((rOct q.rs a c j : Nat) : Int) ∧ wr = W) (fun _ i _ => n - (intOf i).toNat)
  case atStart => exact ⟨0, Nat.zero_le _, rfl, rfl, rfl⟩
  case round =>
    obtain ⟨j, hj, rfl, rfl, rfl⟩ := hrel
    by_cases hlt : j < n
    · have hjl : j < q.rs.length := by have := HN.out; omega
      obtain ⟨r, hr⟩ : ∃ r, q.rs[j]? = some r := ⟨_, List.getElem?_eq_getElem hjl⟩
      obtain ⟨g, hg, _, _, hcs, _⟩ := HA.out.at_ hr
      dsimp only at hg
      subst hg
      have y13 := hcs 13 _ (by decide) rfl
      have y11 := hcs 11 _ (by decide) rfl
      have hjI : (j : Int) < (n : Int) := by omega
      have hj0 : (0 : Int) ≤ (j : Int) := by omega
      have hR : rOct q.rs a c (j + 1) = rOct q.rs a c j + if r.st = a ∨ r.st = c then r.c.da.2.1 else 0 := by rw [rOct, hr]
      have hb1 := HB.out (j + 1)
      have HR := keep hR
      obtain ⟨t, ht⟩ : ∃ t, rOct q.rs a c j = t := ⟨_, rfl⟩
      rw [ht] at hR HR ⊢
      by_cases ha : r.st = a ∨ r.st = c
      · rw [if_pos ha] at hR HR
        have hsum : (t : Int) + (r.c.da.2.1 : Int) ≤ 2000000000 := by
          have h3 : (j + 1) * 1000000 ≤ 1024 * 1000000 := Nat.mul_le_mul_right _ (by omega)
          omega
        have ht0 : (0 : Int) ≤ (t : Int) + (r.c.da.2.1 : Int) := by omega
        have h1 : (r.st == a) = true ∨ (r.st == a) = false ∧ (r.st == c) = true := by
          by_cases h1 : r.st = a
          · left; simpa using h1
          · right
            exact ⟨by simpa using h1, by simpa using ha.resolve_left h1⟩
        clear ha hb1 hr hcs hR ht
        rcases h1 with h1 | ⟨h1, h2⟩
        all_goals
          go_wp2
          go_roundw
          case rel => exact ⟨j + 1, by omega, by go_num, by rw [HR.out]; go_num, by first | rfl | trivial⟩
          case measure => simp [intOf]; omega
      · rw [if_neg ha] at hR HR
        have h1 : (r.st == a) = false := by simpa using fun h => ha (.inl h)
        have h2 : (r.st == c) = false := by simpa using fun h => ha (.inr h)
        clear ha hb1 hr hcs hR ht
        go_wp2
        go_roundw
        case rel => exact ⟨j + 1, by omega, by go_num, by rw [HR.out]; rfl, by first | rfl | trivial⟩
        case measure => simp [intOf]; omega
    · obtain rfl : n = j := by omega
      have HE := keep HN.out
      go_wp2
      go_ret
      exact ⟨ret_int (by rw [HE.out]), rfl⟩
end
end
section
open Go.RowKit Go.Maps

/-- The state of the first entry of a number, from the entry i on. -/
def rSt (rs : List RE) (n : Int) : Value :=
  match rs.find? (fun r => r.c.a == n) with
  | some r => .tuple #[.int .i64 r.st, .bool true]
  | none => .tuple #[.int .i64 0, .bool false]
theorem rSt_hit {r : RE} {t : List RE} {n : Int} (h : r.c.a = n) : rSt (r :: t) n = .tuple #[.int .i64 r.st, .bool true] := by
  unfold rSt
  rw [List.find?_cons_of_pos (by simpa using h)]
theorem rSt_miss {r : RE} {t : List RE} {n : Int} (h : r.c.a ≠ n) : rSt (r :: t) n = rSt t n := by
  unfold rSt
  rw [List.find?_cons_of_neg (by simpa using h)]
theorem drop_at {α : Type} {l : List α} {i : Nat} {x : α} (h : l[i]? = some x) : l.drop i = x :: l.drop (i + 1) := by
  obtain ⟨h1, h2⟩ := List.getElem?_eq_some_iff.1 h
  rw [List.drop_eq_getElem_cons h1, h2]
/-- The first i entries are as f makes them. -/
def upR (f : RE → RE) (l : List RE) (i : Nat) : List RE := (l.take i).map f ++ l.drop i
theorem upR_zero (f : RE → RE) (l : List RE) : upR f l 0 = l := by unfold upR; simp
theorem upR_all (f : RE → RE) (l : List RE) : upR f l l.length = l.map f := by unfold upR; simp
theorem upR_len (f : RE → RE) (l : List RE) (i : Nat) : (upR f l i).length = l.length := by
  unfold upR
  rw [List.length_append, List.length_map, List.length_take, List.length_drop]
  omega
theorem upR_at {f : RE → RE} {l : List RE} {i : Nat} {r : RE} (h : l[i]? = some r) : (upR f l i)[i]? = some r := by
  have h1 := (List.getElem?_eq_some_iff.1 h).1
  have h2 : ((l.take i).map f).length = i := by rw [List.length_map, List.length_take]; omega
  unfold upR
  rw [List.getElem?_append_right (by omega), h2, Nat.sub_self, List.getElem?_drop, Nat.add_zero, h]
theorem upR_next {f : RE → RE} {l : List RE} {i : Nat} {r : RE} (h : l[i]? = some r) : upR f l (i + 1) = (upR f l i).set i (f r) := by
  have h1 := (List.getElem?_eq_some_iff.1 h).1
  have h2 : ((l.take i).map f).length = i := by rw [List.length_map, List.length_take]; omega
  unfold upR
  rw [List.set_append_right _ _ (by omega), h2, Nat.sub_self, drop_at h, List.take_add_one, h, List.map_append]
  simp
theorem upR_same {f : RE → RE} {l : List RE} {i : Nat} {r : RE} (h : l[i]? = some r) (hr : f r = r) : upR f l (i + 1) = upR f l i := by
  rw [upR_next h, hr]
  have h1 := upR_at (f := f) h
  obtain ⟨h2, h3⟩ := List.getElem?_eq_some_iff.1 h1
  rw [← h3]
  exact List.set_getElem_self h2
section
variable {w W W' : World} {b : Nat} {s : SL} {q : Rm}
set_option maxHeartbeats 2000000 in
theorem refState15_any (h : RA w b s q W) (n : Int) : Calls Try.prog 28 #[.pointer (some ⟨b, 0, none⟩), .int .u32 n] W fun e w' => e = .returned (rSt q.rs n) ∧ w' = W := by
  have HA := keep h
  have hn := h.n
  have hle := h.le
  obtain ⟨c0, _, _, _, _, _⟩ := h.b0
  clear h
  obtain ⟨s1, m, s3⟩ := s
  dsimp only at c0 hn
  have HN := keep hn
  have hn1 : (m : Int) ≤ 1024 := by omega
  clear hn hle
  go_enter Try.func28, Try.ntmps28
  go_wp2
  go_loopw [6] (fun i wr => ∃ j : Nat, j ≤ m ∧ i = .int .i64 j ∧ rSt q.rs n = rSt (q.rs.drop j) n ∧ wr = W) (fun i _ => m - (intOf i).toNat)
  case atStart => exact ⟨0, Nat.zero_le _, rfl, rfl, rfl⟩
  case round =>
    obtain ⟨j, hj, rfl, hdr, rfl⟩ := hrel
    have HDR := keep hdr
    clear hdr
    by_cases hlt : j < m
    · have hjl : j < q.rs.length := by have := HN.out; omega
      obtain ⟨r, hr⟩ : ∃ r, q.rs[j]? = some r := ⟨_, List.getElem?_eq_getElem hjl⟩
      obtain ⟨g, hg, _, _, hcs, _⟩ := HA.out.at_ hr
      dsimp only at hg
      subst hg
      have y2 := hcs 2 _ (by decide) rfl
      have y13 := hcs 13 _ (by decide) rfl
      have hjI : (j : Int) < (m : Int) := by omega
      have hj0 : (0 : Int) ≤ (j : Int) := by omega
      have HDA := keep (drop_at hr)
      clear hcs hr
      by_cases ha : r.c.a = n
      · have h1 : (r.c.a == n) = true := by simpa using ha
        have HH := keep (show rSt q.rs n = .tuple #[.int .i64 r.st, .bool true] by rw [HDR.out, HDA.out]; exact rSt_hit ha)
        clear ha
        go_wp2
        go_ret2
        exact ⟨by rw [HH.out]; rfl, rfl⟩
      · have h1 : (r.c.a == n) = false := by simpa using ha
        have HH := keep (show rSt q.rs n = rSt (q.rs.drop (j + 1)) n by rw [HDR.out, HDA.out]; exact rSt_miss ha)
        clear ha
        go_wp2
        go_roundw
        case rel => exact ⟨j + 1, by omega, by go_num, HH.out, by first | rfl | trivial⟩
        case measure => simp [intOf]; omega
    · obtain rfl : m = j := by omega
      have HE := keep (show rSt q.rs n = .tuple #[.int .i64 0, .bool false] by rw [HDR.out, HN.out, List.drop_length]; rfl)
      go_wp2
      go_ret2
      exact ⟨by rw [HE.out]; rfl, rfl⟩
def rTo (r : RE) : RE := if r.st = 1 then { r with st := 2 } else r
def rCnt (rs : List RE) : Nat → Nat
  | 0 => 0
  | i + 1 => rCnt rs i + match rs[i]? with | some r => if r.st = 1 then 1 else 0 | none => 0
theorem rCnt_le (rs : List RE) : ∀ i, rCnt rs i ≤ i
  | 0 => Nat.le_refl _
  | i + 1 => by
    have := rCnt_le rs i
    rw [rCnt]
    split
    · split <;> omega
    · omega
set_option maxHeartbeats 2000000 in
theorem refTimeout15_any (h : RA w b s q W) : Calls Try.prog 22 #[.pointer (some ⟨b, 0, none⟩)] W fun e w' => e = .returned (.int .i64 ((rCnt q.rs q.rs.length : Nat) : Int)) ∧ Hid (RA w b s { q with rs := q.rs.map rTo } w' ∧ Part (Rb b s) W w') := by
  have HA := keep h
  have hn := h.n
  have hle := h.le
  clear h
  obtain ⟨s1, m, s3⟩ := s
  dsimp only at hn
  have HN := keep hn
  have hn1 : (m : Int) ≤ 1024 := by omega
  clear hn hle
  go_enter Try.func22, Try.ntmps22
  go_wp2
  go_loopw [3, 4] (fun t i wr => ∃ j : Nat, j ≤ m ∧ i = .int .i64 j ∧ t = .int .i64 ((rCnt q.rs j : Nat) : Int) ∧ Hid (RA w b (s1, m, s3) { q with rs := upR rTo q.rs j } wr ∧ Part (Rb b (s1, m, s3)) W wr)) (fun _ i _ => m - (intOf i).toNat)
  case atStart => exact ⟨0, Nat.zero_le _, rfl, rfl, keep ⟨by rw [upR_zero]; exact HA.out, Part.refl _ _⟩⟩
  case round =>
    obtain ⟨j, hj, rfl, rfl, HR⟩ := hrel
    obtain ⟨c0, _, _, _, _, _⟩ := HR.out.1.b0
    dsimp only at c0
    by_cases hlt : j < m
    · have hjl : j < q.rs.length := by have := HN.out; omega
      obtain ⟨r, hr⟩ : ∃ r, q.rs[j]? = some r := ⟨_, List.getElem?_eq_getElem hjl⟩
      have hru := upR_at (f := rTo) hr
      obtain ⟨g, hg, _, _, hcs, hfz⟩ := HR.out.1.at_ hru
      dsimp only at hg
      have HG := keep hg
      subst hg
      have y13 := hcs 13 _ (by decide) rfl
      have f13 := hfz (j * 19 + 13)
      have hjI : (j : Int) < (m : Int) := by omega
      have hj0 : (0 : Int) ≤ (j : Int) := by omega
      have hc := rCnt_le q.rs j
      have HC := keep (show rCnt q.rs (j + 1) = rCnt q.rs j + if r.st = 1 then 1 else 0 by rw [rCnt, hr])
      have ht0 : (0 : Int) ≤ ((rCnt q.rs j : Nat) : Int) + 1 := by omega
      have ht1 : ((rCnt q.rs j : Nat) : Int) + 1 ≤ 2048 := by omega
      by_cases ha : r.st = 1
      · have h1 : (r.st == 1) = true := by simpa using ha
        have hto : rTo r = { r with st := 2 } := by unfold rTo; rw [if_pos ha]
        have hs := HR.out.1.set hru (r' := { r with st := 2 }) rfl 13 (.int .i64 2) (by decide) rfl rfl
        have HS := keep (show RA w b (some ⟨g, 0, none⟩, m, s3) { q with rs := upR rTo q.rs (j + 1) } (‹World›.setCell ⟨g, j * 19 + 13, none⟩ (.int .i64 2)) ∧ Part (Rb b (some ⟨g, 0, none⟩, m, s3)) W _ from
          ⟨by rw [upR_next hr, hto]; exact hs.1, HR.out.2.trans hs.2 fun i hi => .inl (by rw [hi]; exact .inr rfl)⟩)
        have HC1 := keep (HC.out.trans (by rw [if_pos ha]))
        obtain ⟨t, ht⟩ : ∃ t, rCnt q.rs j = t := ⟨_, rfl⟩
        rw [ht] at ht0 ht1 HC1 ⊢
        clear ha hto hs hr hru hcs hfz hc HC ht
        go_wp2
        go_roundw
        case rel => exact ⟨j + 1, by omega, by go_num, by rw [HC1.out]; go_num, HS⟩
        case measure => simp [intOf]; omega
      · have h1 : (r.st == 1) = false := by simpa using ha
        have hto : rTo r = r := by unfold rTo; rw [if_neg ha]
        have HS := keep (show RA w b (some ⟨g, 0, none⟩, m, s3) { q with rs := upR rTo q.rs (j + 1) } _ ∧ Part (Rb b (some ⟨g, 0, none⟩, m, s3)) W _ from
          ⟨by rw [upR_same hr hto]; exact HR.out.1, HR.out.2⟩)
        have HC1 := keep (HC.out.trans (by rw [if_neg ha]))
        obtain ⟨t, ht⟩ : ∃ t, rCnt q.rs j = t := ⟨_, rfl⟩
        rw [ht] at ht0 ht1 HC1 ⊢
        clear ha hto hr hru hcs hfz hc HC ht
        go_wp2
        go_roundw
        case rel => exact ⟨j + 1, by omega, by go_num, by rw [HC1.out]; rfl, HS⟩
        case measure => simp [intOf]; omega
    · obtain rfl : m = j := by omega
      have HE := keep HN.out
      go_wp2
      go_ret
      refine ⟨ret_int (by rw [HE.out]), keep ⟨?_, HR.out.2⟩⟩
      have h1 := HR.out.1
      rw [show upR rTo q.rs m = q.rs.map rTo by rw [HN.out, upR_all]] at h1
      exact h1
end
end
end Go.Proofs.Ytffjdknmfmlfnaa
