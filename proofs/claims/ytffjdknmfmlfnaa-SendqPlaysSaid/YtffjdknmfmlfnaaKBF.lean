/- KBF of the stage: texts Q32, Q43, Q44, joined. -/
import Derived.Test.YtffjdknmfmlfnaaKBE
import Derived.Test.YtffjdknmfmlfnaaKAN
import Derived.Test.YtffjdknmfmlfnaaKAJ
import Derived.Test.YtffjdknmfmlfnaaKAV
import Derived.Test.YtffjdknmfmlfnaaKAO
set_option linter.unusedSimpArgs false
set_option linter.unusedVariables false
namespace Go.Proofs.Ytffjdknmfmlfnaa
section
open Go.RowKit Go.Maps

def lenE (e : En) : Nat := e.c.da.2.1
def octsL (es : List En) (sts : List Int) : Nat := ((es.filter fun e => decide (e.st ∈ sts)).map lenE).sum
theorem octs_take (es : List En) (sts : List Int) : ∀ k, sumF (octF es sts) k = octsL (es.take k) sts
  | 0 => by simp [sumF, octsL]
  | k + 1 => by
    rw [sumF, octs_take es sts k, List.take_add_one]
    unfold octF octsL
    cases he : es[k]? with
    | none => simp
    | some e =>
      dsimp only
      rw [Option.toList_some, List.filter_append, List.map_append, List.sum_append]
      by_cases hs : e.st ∈ sts
      · rw [if_pos hs, List.filter_cons_of_pos (by simpa using hs)]
        simp [lenE]
      · rw [if_neg hs, List.filter_cons_of_neg (by simpa using hs)]
        simp
theorem octs_eq (es : List En) (sts : List Int) : octs es sts = octsL es sts := by
  unfold octs
  rw [octs_take, List.take_length]
theorem octsL_app (a b : List En) (sts : List Int) : octsL (a ++ b) sts = octsL a sts + octsL b sts := by simp [octsL]
theorem octsL_all {es : List En} {sts : List Int} (h : ∀ e ∈ es, e.st ∈ sts) : octsL es sts = (es.map lenE).sum := by
  unfold octsL
  rw [List.filter_eq_self.2 fun e he => decide_eq_true (h e he)]
theorem octsL_none {es : List En} {sts : List Int} (h : ∀ e ∈ es, ¬ e.st ∈ sts) : octsL es sts = 0 := by
  unfold octsL
  rw [List.filter_eq_nil_iff.2 fun e he => by simpa using h e he]
  rfl
/-- In the first turn nothing is lost. -/
theorem take_skip {now : Int} {n : Nat} : ∀ (i k : Nat) (es : List En) (r : Int) (t : List CZ), es.length = n → i + k ≤ n → (∀ e ∈ es, e.st = 0) → ∀ m, takeGo now n (k + m) i es r t = takeGo now n m (i + k) es r t
  | i, 0, es, r, t, _, _, _, m => by rw [Nat.zero_add, Nat.add_zero]
  | i, k + 1, es, r, t, hl, hk, hz, m => by
    have he : es[ixD n i]? = some es[i] := by
      rw [show ixD n i = i by unfold ixD; rw [if_pos (by omega)]]
      exact List.getElem?_eq_getElem (by omega)
    rw [show k + 1 + m = (k + m) + 1 by omega, takeGo_no he (by
      rw [hz _ (List.getElem_mem _)]
      unfold phD
      rw [if_pos (by omega)]
      decide), take_skip (i + 1) k es r t hl (by omega) hz m, show i + 1 + k = i + (k + 1) by omega]
structure Tk (now : Int) (es : List En) (j : Nat) (r : Int) (t : List CZ) (R : List En × List CZ) (d : Nat) : Prop where
  hd : j + d ≤ es.length
  o : R.1 = es.take j ++ ((es.drop j).take d).map (sendE now) ++ es.drop (j + d)
  c : R.2 = t ++ ((es.drop j).take d).map En.c
  fit : d = 0 ∨ ((((es.drop j).take d).map lenE).sum : Int) ≤ r
  full : ∀ e, es[j + d]? = some e → r < ((((es.drop j).take d).map lenE).sum : Int) + (lenE e : Int)
theorem take_tk {now : Int} {n : Nat} : ∀ (k j : Nat) (es : List En) (r : Int) (t : List CZ), es.length = n → j + k = n → (∀ i e, j ≤ i → es[i]? = some e → e.st = 0) → ∃ d, Tk now es j r t (takeGo now n k (n + j) es r t) d
  | 0, j, es, r, t, hl, hk, hz => ⟨0, by omega, by simp [takeGo], by simp [takeGo], .inl rfl, fun e he => by
      have := (List.getElem?_eq_some_iff.1 he).1
      omega⟩
  | k + 1, j, es, r, t, hl, hk, hz => by
    have hj : j < es.length := by omega
    have hix : ixD n (n + j) = j := by unfold ixD; rw [if_neg (by omega)]; omega
    have he : es[ixD n (n + j)]? = some es[j] := by rw [hix]; exact List.getElem?_eq_getElem hj
    have hst : (es[j]).st = phD n (n + j) := by
      unfold phD
      rw [if_neg (by omega)]
      exact hz j _ (Nat.le_refl _) (List.getElem?_eq_getElem hj)
    by_cases hr : r < ((es[j]).c.da.2.1 : Int)
    · rw [takeGo_full he hst hr]
      refine ⟨0, by omega, by simp, by simp, .inl rfl, fun e he' => ?_⟩
      rw [Nat.add_zero, List.getElem?_eq_getElem hj] at he'
      injection he' with he'
      subst he'
      simpa [lenE] using hr
    · rw [takeGo_yes he hst hr, hix, show n + j + 1 = n + (j + 1) by omega]
      have hset : ∀ (i : Nat), (es.set j (sendE now es[j]))[i]? = if i = j then some (sendE now es[j]) else es[i]? := fun i => by
        rw [List.getElem?_set]
        by_cases h : j = i
        · subst h
          rw [if_pos rfl, if_pos hj, if_pos rfl]
        · rw [if_neg h, if_neg (fun x => h x.symm)]
      obtain ⟨d, h1, h2, h3, h4, h5⟩ := take_tk (now := now) (n := n) k (j + 1) (es.set j (sendE now es[j])) (r - ((es[j]).c.da.2.1 : Int)) (t ++ [(es[j]).c]) (by rw [List.length_set]; exact hl) (by omega) (fun i e hi he' => by
        rw [hset, if_neg (by omega)] at he'
        exact hz i e (by omega) he')
      have hdrop : ∀ m, j < m → (es.set j (sendE now es[j])).drop m = es.drop m := fun m hm => List.drop_set_of_lt hm
      have htake : (es.set j (sendE now es[j])).take (j + 1) = es.take j ++ [sendE now es[j]] := by
        rw [List.take_add_one, List.take_set_of_le (Nat.le_refl _), hset, if_pos rfl]
        rfl
      rw [hdrop _ (by omega)] at h2 h3 h4 h5
      rw [hdrop _ (by omega), htake] at h2
      have hcons : es.drop j = es[j] :: es.drop (j + 1) := List.drop_eq_getElem_cons hj
      rw [Nat.add_right_comm j 1 d] at h1 h2
      rw [List.length_set] at h1
      refine ⟨d + 1, by omega, ?_, ?_, .inr ?_, fun e he' => ?_⟩
      · rw [h2, hcons, List.take_succ_cons, List.map_cons, show j + (d + 1) = j + d + 1 by omega]
        simp
      · rw [h3, hcons, List.take_succ_cons, List.map_cons]
        simp
      · rw [hcons, List.take_succ_cons, List.map_cons, List.sum_cons]
        rcases h4 with h4 | h4
        · subst h4
          simp [lenE]
          omega
        · unfold lenE at h4 ⊢
          omega
      · have h6 := h5 e (by
          rw [hset, if_neg (by omega), show j + 1 + d = j + (d + 1) by omega]
          exact he')
        rw [hcons, List.take_succ_cons, List.map_cons, List.sum_cons]
        unfold lenE at h6 ⊢
        omega
/-- A queue of which nothing was sent. -/
theorem take_new {q : Qm} (hz : ∀ e ∈ q.es, e.st = 0) (now room : Int) : ∃ d, Tk now q.es 0 room [] (takeQ q now room) d := by
  unfold takeQ
  have h1 := take_skip (now := now) (n := q.es.length) 0 q.es.length q.es room [] rfl (by omega) hz q.es.length
  rw [Nat.zero_add] at h1
  rw [h1]
  have h2 := take_tk (now := now) (n := q.es.length) q.es.length 0 q.es room [] rfl (by omega) (fun i e _ he => hz e (List.mem_of_getElem? he))
  rwa [Nat.add_zero] at h2
theorem room_octs {q : Qm} (hz : ∀ e ∈ q.es, e.st = 0) {now room : Int} {d : Nat} (h : Tk now q.es 0 room [] (takeQ q now room) d) : octs (takeQ q now room).1 [1] = ((q.es.take d).map lenE).sum ∧ octs (takeQ q now room).1 [2, 0] = ((q.es.drop d).map lenE).sum := by
  have ho := h.o
  rw [List.take_zero, List.nil_append, List.drop_zero, Nat.zero_add] at ho
  have hs : ∀ e ∈ (q.es.take d).map (sendE now), e.st = 1 := fun e he => by
    obtain ⟨x, _, rfl⟩ := List.mem_map.1 he
    rfl
  have hl : ∀ l : List En, (l.map (sendE now)).map lenE = l.map lenE := fun l => by
    rw [List.map_map]
    rfl
  have hd : ∀ e ∈ q.es.drop d, e.st = 0 := fun e he => hz e (List.mem_of_mem_drop he)
  rw [ho, octs_eq, octs_eq, octsL_app, octsL_app]
  constructor
  · rw [octsL_all (fun e he => by rw [hs e he]; decide), octsL_none (es := q.es.drop d) (fun e he => by rw [hd e he]; decide), hl]
    rfl
  · rw [octsL_none (fun e he => by rw [hs e he]; decide), octsL_all (es := q.es.drop d) (fun e he => by rw [hd e he]; decide), Nat.zero_add]
theorem and1023 (i : Int) : ∃ k : Nat, bits .and .i64 i 1023 = (k : Int) ∧ k < 1024 := by
  have h := and_i64 i 10 (by decide)
  refine ⟨(i % 1024).toNat, ?_, by omega⟩
  rw [show ((2 ^ 10 - 1 : Nat) : Int) = 1023 by decide] at h
  rw [h]
  omega
end
section
open Go.RowKit Go.Maps
attribute [local go_sem] Oper.semAt_some

/-! ### done -/
/-- How many there are ahead of the first one that is still to come. -/
def dnN (es : List En) : Nat := (es.takeWhile fun e => !openB e).length
theorem dnN_le (es : List En) : dnN es ≤ es.length := (List.takeWhile_sublist _).length_le
theorem tw_self {p : En → Bool} : ∀ {l : List En}, (∀ e ∈ l, p e = true) → l.takeWhile p = l
  | [], _ => rfl
  | e :: r, h => by rw [List.takeWhile_cons_of_pos (h e (List.mem_cons_self ..)), tw_self fun x hx => h x (List.mem_cons_of_mem _ hx)]
theorem dnN_fst {es : List En} {z : Int} (h : FstAt openB es z) : (z = -1 ∧ dnN es = es.length) ∨ z = (dnN es : Int) ∧ dnN es < es.length := by
  rcases h with ⟨rfl, h⟩ | ⟨j, rfl, h1, ⟨e, h2, h3⟩, h4⟩
  · left
    refine ⟨rfl, ?_⟩
    unfold dnN
    rw [tw_self fun e he => List.all_eq_true.1 h e he]
  · right
    have hd : dnN es = j := by
      have e1 : es = es.take j ++ (e :: es.drop (j + 1)) := by
        have h5 : es[j] = e := by
          rw [List.getElem?_eq_getElem h1] at h2
          exact Option.some.inj h2
        rw [← h5, ← List.drop_eq_getElem_cons h1, List.take_append_drop]
      unfold dnN
      rw [e1, List.takeWhile_append_of_pos (fun x hx => by rw [h4 x hx]; rfl), List.takeWhile_cons_of_neg (by rw [h3]; decide), List.append_nil, List.length_take]
      omega
    rw [hd]
    exact ⟨rfl, h1⟩
set_option maxHeartbeats 2000000 in
theorem done_any {w : World} {G : Gq} {q : Qm} (h : QA w G q) :
    Calls Try.prog 54 #[.pointer (some ⟨G.b, 0, none⟩)] w fun e w' => (∃ A c, e = .returned (.slice A (dnN q.es) c) ∧ dnN q.es ≤ c ∧ (dnN q.es ≠ 0 → A = G.s.1)) ∧ w = w' := by
  have HL := keep (list_at G.b _ _ _ w h.b0.1)
  have K := keep (openIndex_any G.s q.es w h.es_ (by rw [h.n]; have := h.le; omega))
  have hn := h.n
  have hc := h.sr.1
  obtain ⟨d, hd⟩ : ∃ d, dnN q.es = d := ⟨_, rfl⟩
  have HD := keep (show ∀ z, FstAt openB q.es z → (z = -1 ∧ d = G.s.2.1) ∨ z = (d : Int) ∧ d < G.s.2.1 from fun z hz => by
    have := dnN_fst hz
    rw [hd, ← hn] at this
    exact this)
  rw [hd]
  clear h hd
  obtain ⟨b, ⟨s1, s2, s3⟩, O, F⟩ := G
  dsimp only at HL K hn hc HD ⊢
  by_cases h1 : d < s2
  · have K2 := K.out.mono (fun e w' hh => show e = .returned (.int .i64 (d : Int)) ∧ w = w' from by
      obtain ⟨⟨z, rfl, hz⟩, rfl⟩ := hh
      rcases HD.out z hz.out with ⟨_, h2⟩ | ⟨rfl, _⟩
      · omega
      · exact ⟨rfl, rfl⟩)
    replace K := keep K2
    have hd0 : (0 : Int) ≤ (d : Int) := by omega
    have hd1 : (d : Int) ≤ (s3 : Int) := by omega
    have HH := keep (show d ≤ s3 by omega)
    clear h1 hn HD K2 hc
    go_enter Try.func54, Try.ntmps54
    go_wp2_with (first
      | (go_at_call 39; refine HL.out.mono ?_; rintro e w' ⟨rfl, rfl⟩)
      | (go_at_call 76; refine K.out.mono ?_; rintro e w1 ⟨rfl, rfl⟩))
    go_ret
    exact ⟨⟨_, _, rfl, HH.out, fun _ => rfl⟩, rfl⟩
  · have K2 := K.out.mono (fun e w' hh => show e = .returned (.int .i64 (-1)) ∧ w = w' ∧ d = s2 from by
      obtain ⟨⟨z, rfl, hz⟩, rfl⟩ := hh
      rcases HD.out z hz.out with ⟨rfl, h2⟩ | ⟨rfl, h2⟩
      · exact ⟨rfl, rfl, h2⟩
      · exact absurd h2 h1)
    replace K := keep K2
    have HC := keep hc
    clear h1 hn HD K2 hc
    go_enter Try.func54, Try.ntmps54
    go_wp2_with (first
      | (go_at_call 39; refine HL.out.mono ?_; rintro e w' ⟨rfl, rfl⟩)
      | (go_at_call 76; refine K.out.mono ?_; rintro e w1 ⟨rfl, rfl, hd⟩; replace hd := keep hd))
    go_ret
    rw [hd.out]
    exact ⟨⟨_, _, rfl, HC.out, fun _ => rfl⟩, rfl⟩
end
section
open Go.RowKit Go.Maps

theorem own_put {w : World} {base : Nat} {e : TypeId} {K n c : Nat} {A : Option Addr} {xs : List Value} (h : w.ownsRow base e K (.slice A n c) n xs) {g : Nat} (hA : A = some ⟨g, 0, none⟩) (j : Nat) (v : Value) (hj : j < xs.length) : (w.setCell ⟨g, j, none⟩ v).ownsRow base e K (.slice A n c) n (xs.set j v) := by
  refine ⟨by rw [List.length_set]; exact h.1, ?_⟩
  rcases h.2 with ⟨h0, h1⟩ | ⟨g', cap, cur, hv, hb, hg, hnc, hm, hsz, ht⟩
  · have := h.1
    rw [h1, Nat.zero_mul] at this
    omega
  · subst hA
    injection hv with a1 a2 a3
    injection a1 with a1
    injection a1 with a1
    subst a1 a3
    refine .inr ⟨g, c, cur.setIfInBounds j v, rfl, hb, heap_setCell_same _ g j _ _ _ hg, hnc, hm, by simpa using hsz, ?_⟩
    rw [← ht, Array.toList_setIfInBounds, List.take_set]
/-- A stream and its number, into the list of those to be skipped. -/
def skL : List (Int × Int) → Int → Int → List (Int × Int)
  | [], o, s => [(o, s)]
  | x :: r, o, s => if x.1 = o then (x.1, s) :: r else x :: skL r o s
theorem skL_at : ∀ {l : List (Int × Int)} {o s t : Int} {j : Nat}, (∀ y ∈ l.take j, y.1 ≠ o) → l[j]? = some (o, t) → skL l o s = l.set j (o, s)
  | [], o, s, t, j, _, h => by cases h
  | x :: r, o, s, t, 0, _, h => by
    injection h with h
    subst h
    rw [skL, if_pos rfl]
    rfl
  | x :: r, o, s, t, j + 1, hn, h => by
    rw [skL, if_neg (hn x (by rw [List.take_succ_cons]; exact List.mem_cons_self ..)), skL_at (t := t) (j := j) (fun y hy => hn y (by rw [List.take_succ_cons]; exact List.mem_cons_of_mem _ hy)) h]
    rfl
theorem skL_none : ∀ {l : List (Int × Int)} {o s : Int}, (∀ y ∈ l, y.1 ≠ o) → skL l o s = l ++ [(o, s)]
  | [], o, s, _ => rfl
  | x :: r, o, s, hn => by
    rw [skL, if_neg (hn x (List.mem_cons_self ..)), skL_none (l := r) fun y hy => hn y (List.mem_cons_of_mem _ hy)]
    rfl
theorem skL_len (l : List (Int × Int)) (o s : Int) : (skL l o s).length ≤ l.length + 1 := by
  induction l with
  | nil => exact Nat.le_refl _
  | cons x r ih =>
    rw [skL]
    split
    · simp
    · simp only [List.length_cons]; omega
theorem flat_set : ∀ {l : List (Int × Int)} {j : Nat} {o t s : Int}, l[j]? = some (o, t) → (flatF blC l).set (j * 2 + 1) (.int .u16 s) = flatF blC (l.set j (o, s))
  | [], j, o, t, s, h => by cases h
  | x :: r, 0, o, t, s, h => by
    injection h with h
    subst h
    rfl
  | x :: r, j + 1, o, t, s, h => by
    have h1 := flat_set (l := r) (j := j) (o := o) (t := t) (s := s) h
    show (Value.int .u16 x.1 :: Value.int .u16 x.2 :: flatF blC r).set ((j + 1) * 2 + 1) _ = Value.int .u16 x.1 :: Value.int .u16 x.2 :: flatF blC (r.set j (o, s))
    rw [← h1, show (j + 1) * 2 + 1 = (j * 2 + 1) + 1 + 1 by omega]
    rfl
/-- What skipping leaves. -/
structure SkP (w : World) (base : Nat) (A : Option Addr) (n c : Nat) (l' : List (Int × Int)) (s : SL) (w' : World) : Prop where
  row : w'.ownsRow base 101 2 (.slice s.1 s.2.1 s.2.2) s.2.1 (flatF blC l')
  part : Part (fun i => (Value.slice A n c).ownBlock = some i) w w'
  ko : KeepsOthers w w'
theorem ko_below {w w' : World} (h : Below w.heap.size w w') : KeepsOthers w w' := ⟨h.size, fun k o hk _ => (h.block k (Array.getElem?_eq_some_iff.1 hk).1).trans hk⟩
set_option maxRecDepth 100000 in
set_option maxHeartbeats 2000000 in
theorem skipping_any {base : Nat} {A : Option Addr} {n c : Nat} {l : List (Int × Int)} {w : World} (h : w.ownsRow base 101 2 (.slice A n c) n (flatF blC l)) (hn : n ≤ 2000) (hb : base ≤ w.heap.size) (x : CZ) :
    Calls Try.prog 55 #[.slice A n c, .agg x.cells.toArray] w fun e w' => ∃ s, e = .returned (.slice s.1 s.2.1 s.2.2) ∧ SkP w base A n c (skL l x.ou x.si) s w' := by
  obtain ⟨i0, hi0, hz0, hz1, hz2⟩ := info_parts cSkip_info
  have hnl : n = l.length := by
    have := h.1
    rw [flatF_len blC_len] at this
    omega
  have HB := keep (below_lay w (.cells x.cells.toArray 45))
  have hz := (show ZB (w.alloc (.cells x.cells.toArray 45)) w.heap.size x from heap_alloc_new w _).all
  obtain ⟨⟨z0, z1, z2, z3, z4, z5, z6⟩, z7, z8, z9, z10, z11⟩ := hz
  have HO := keep (own_step h HB.out)
  have HH := keep h
  have HNL := keep hnl
  have HBS := keep hb
  obtain ⟨xk, xf, xa, xb, xo, xs, xp, ⟨x1, x2, x3⟩, ⟨x4, x5, x6⟩, ⟨x7, x8, x9⟩, ⟨x10, x11, x12⟩, ⟨x13, x14, x15⟩, xbl, xdu, xsk, xpr, xbs⟩ := x
  dsimp only [CZ.cells] at *
  clear h hnl z0 z1 z2 z3 z6 z7 z8 z9 z10 z11 hb
  generalize hW : w.alloc _ = W at *
  go_enter Try.func55, Try.ntmps55
  go_wp2
  go_loopw [5, 8] (fun _ i wr => ∃ (j k : Nat), j ≤ n ∧ i = .int .i64 j ∧ Hid (∀ y ∈ l.take j, y.1 ≠ xo) ∧ wr = W.drewN k) (fun _ i _ => n - (intOf i).toNat)
  case atStart => exact ⟨0, 0, Nat.zero_le _, rfl, keep (by simp), rfl⟩
  case round =>
    obtain ⟨j, k, hj, rfl, hno, rfl⟩ := hrel
    have HOK := keep (own_step HO.out (show Below W.heap.size W (W.drewN k) from below_drewN (Below.refl _ W) k))
    have HBK := keep (below_drewN HB.out k)
    by_cases hlt : j < n
    · have hjl : j < l.length := by have := HNL.out; omega
      obtain ⟨⟨o, t⟩, hl⟩ : ∃ y, l[j]? = some y := ⟨_, List.getElem?_eq_getElem hjl⟩
      have hne : flatF blC l ≠ [] := fun h0 => by
        have h1 := flatF_len blC_len l
        rw [h0] at h1
        simp at h1
        omega
      obtain ⟨g, rfl, hgb, hcs, hfz, _⟩ := own_row_at HOK.out hne
      have h0 : W.cell? ⟨g, j * 2, none⟩ = _ := hcs (j * 2) (.int .u16 o) (flatF_get (f := blC) blC_len l j (o, t) hl 0 (by decide))
      have h1 : W.cell? ⟨g, j * 2 + 1, none⟩ = _ := hcs (j * 2 + 1) (.int .u16 t) (flatF_get (f := blC) blC_len l j (o, t) hl 1 (by decide))
      have f1 : W.frozen? ⟨g, j * 2 + 1, none⟩ = false := hfz (j * 2 + 1)
      have hjI : (j : Int) < (n : Int) := by omega
      have hj0 : (0 : Int) ≤ (j : Int) := by omega
      have hn1 : (n : Int) ≤ 2000 := by omega
      have HL := keep hl
      have HG := keep hgb
      clear hjl hne hcs hfz hl hgb
      by_cases ho : o = xo
      · subst ho
        go_wp2
        go_quiet (fail)
        go_wp2
        go_ret
        have HBN := below_drewN HB.out (k + nq)
        have HON := own_step HO.out (show Below W.heap.size W (W.drewN (k + nq)) from below_drewN (Below.refl _ W) (k + nq))
        refine ⟨(some ⟨g, 0, none⟩, n, c), rfl, ⟨?_, ?_, ?_⟩⟩
        · rw [skL_at hno.out HL.out, ← flat_set HL.out]
          exact own_put HON rfl _ _ (by rw [flatF_len blC_len]; have := HNL.out; omega)
        · exact (Part.of_below (fun i => (Value.slice (some ⟨g, 0, none⟩) n c).ownBlock = some i) HBN).setCell (p := ⟨g, j * 2 + 1, none⟩) (.inl rfl) _
        · exact (ko_below HBN).trans (KeepsOthers.setCell _ _ _)
      · have hob : (o == xo) = false := by simpa using ho
        have HNE := keep ho
        clear ho
        go_wp2
        go_quiet (fail)
        go_wp2
        go_roundw
        case rel =>
          refine ⟨j + 1, k + nq, by omega, by go_num, keep fun y hy => ?_, rfl⟩
          rw [List.take_add_one, HL.out] at hy
          rcases List.mem_append.1 hy with hy | hy
          · exact hno.out y hy
          · rw [Option.toList_some, List.mem_singleton] at hy
            rw [hy]
            exact HNE.out
        case measure => simp [intOf]; omega
    · obtain rfl : n = j := by omega
      go_wp2_with (at_builtin; refine wpl_appendK (S := 2) (by decide) rfl (.tmp 27) (.tmp 33) 41 rfl base 101 i0 (.agg #[.int .u16 0, .int .u16 0]) Try.underlying41 hi0 hz0 hz1 rfl _ n (flatF blC l) rfl (own_step HOK.out (below_lay _ (.cells #[.int .u16 xo, .int .u16 xs] 101))) (some ⟨(W.drewN k).heap.size, 0, none⟩) 1 1 [.int .u16 xo, .int .u16 xs] rfl rfl (SR.row (heap_alloc_new (W.drewN k) _)) (by intro u hu; simp only [List.mem_cons, List.not_mem_nil, or_false] at hu; rcases hu with rfl | rfl <;> rfl) (by unfold maxLen; omega) (by rw [hz2]; omega) (Nat.le_trans (Nat.le_trans HBS.out HBK.out.size) (below_lay _ _).size) ?_
                   intro A5 c5 w5 ho5 hb5 hg5)
      go_ret
      have hno := hno.out
      rw [List.take_of_length_le (by have := HNL.out; omega)] at hno
      have hp := Part.of_grown (S := fun i => (Value.slice A n c).ownBlock = some i) hg5.out fun k hk => hk
      refine ⟨(A5, n + 1, c5), rfl, ⟨?_, ?_, ?_⟩⟩
      · rw [skL_none hno, flatF_append]
        exact ho5.out
      · exact (Part.of_below (fun i => (Value.slice A n c).ownBlock = some i) (up HBK.out (below_lay _ _))).trans hp fun i hi => .inl hi
      · refine (ko_below (up HBK.out (below_lay _ _))).trans (KeepsOthers.of_grownBy hg5.out fun j2 o ej hj => ?_)
        obtain ⟨cv, f2, hcv⟩ := own_cells (own_step HOK.out (below_lay _ (.cells #[.int .u16 xo, .int .u16 xs] 101))) ej
        rw [hcv] at hj
        cases hj
        rfl
end
end Go.Proofs.Ytffjdknmfmlfnaa
