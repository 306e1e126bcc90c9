/- Package topic: an argument that is a slice of steps; few. -/
import Derived.Test.YtnbicbnighpkjaaYJ
import Derived.Test.YtnbicbnighpkjaaFrame
import Derived.Test.YtnbicbnighpkjaaCkM
import Derived.Deep.Slices
import Derived.Deep.Fields
import Derived.ChangeArms
namespace Go.Proofs.Ytnbicbnighpkjaa
open Go.ChangeShapes Go.WideShapes Go.ChangeAt Go.RowKit Go.Deep Go.Maps
set_option linter.unusedVariables false
set_option linter.unusedSimpArgs false

/-- A slice as it lies. -/
abbrev SL := Option Addr × Nat × Nat
def LR {α : Type} (f : α → List Value) (w : World) (s : SL) (l : List α) : Prop := s.2.1 = l.length ∧ s.2.1 ≤ s.2.2 ∧ SR w s.1 (flatF f l)
theorem LR.at_ {α : Type} {f : α → List Value} {K : Nat} (hf : ∀ x, (f x).length = K) (hK : 0 < K) {w : World} {s : SL} {l : List α} (h : LR f w s l) {j : Nat} (hj : j < s.2.1) :
    ∃ b o x, s.1 = some ⟨b, o, none⟩ ∧ b < w.heap.size ∧ l[j]? = some x ∧ ∀ i v, (f x)[i]? = some v → w.cell? ⟨b, o + j * K + i, none⟩ = some v := by
  obtain ⟨h1, _, h3⟩ := h
  have hl : j < l.length := by omega
  have hg := flatF_get (f := f) hf l j l[j] (List.getElem?_eq_getElem hl)
  obtain ⟨b, o, e, hlt, hc⟩ := h3 (by intro h0; have := flatF_len (f := f) hf l; rw [h0, List.length_nil] at this; have hp : 0 < l.length * K := Nat.mul_pos (by omega) hK; omega)
  refine ⟨b, o, l[j], e, hlt, List.getElem?_eq_getElem hl, fun i v hv => ?_⟩
  have hi : i < K := by
    rcases Nat.lt_or_ge i K with h0 | h0
    · exact h0
    · rw [List.getElem?_eq_none (by rw [hf]; exact h0)] at hv; cases hv
  rw [Nat.add_assoc]
  exact hc _ _ ((hg i hi).trans hv)
section
variable {H : Type} {enc : TypeId × Value → H} {P : Program} {W : World} {base : Nat} {held : Bool}
/-- All that is read takes at most the reach. -/
def Wk (P : Program) (t : TypeId) (d : DataW H) : Prop := ∀ n ∈ d.weights P t, n ≤ reachBytes
theorem weights_all {e : TypeId} : ∀ {ds : List (DataW H)} {d : DataW H}, d ∈ ds → ∀ n ∈ d.weights P e, n ∈ DataW.weightsAll P e ds
  | d0 :: r, d, h, n, hn => by
    simp only [DataW.weightsAll, List.mem_append]
    rcases List.mem_cons.1 h with rfl | h
    · exact .inl hn
    · exact .inr (weights_all h n hn)
theorem wk_elem {t e : TypeId} (ht : P.underlying t = some (.slice e)) {elems spare : List (DataW H)} (h : Wk P t (.slice elems spare)) {d : DataW H} (hd : d ∈ elems) : Wk P e d := fun n hn => h n (by
  simp only [DataW.weights, ht, List.mem_cons, List.mem_append]
  exact .inr (.inl (weights_all hd n hn)))
theorem wk_len {t e : TypeId} (ht : P.underlying t = some (.slice e)) {elems spare : List (DataW H)} (h : Wk P t (.slice elems spare)) : (elems.length + spare.length) * P.bytesOf e ≤ reachBytes := h _ (by
  simp only [DataW.weights, ht, List.mem_cons]
  exact .inl trivial)
theorem wk_part {t : TypeId} {fs : Array Field} (ht : P.underlying t = some (.struct fs)) {parts : List (DataW H)} (h : Wk P t (.agg parts)) {i : Nat} {f : Field} {d : DataW H} (hf : fs[i]? = some f) (hd : parts[i]? = some d) : Wk P f.type d := fun n hn => h n (by
  simp only [DataW.weights, ht]
  exact DataW.weights_mem_each (j := i) (by simp [hf]) hd n hn)
/-- A slice whose elements are read one by one. -/
theorem open_list {α : Type} {f : α → List Value} {K : Nat} (hK : 0 < K) (hf : ∀ x, (f x).length = K) {t e : TypeId} (ht : P.underlying t = some (.slice e)) (hc : P.cellsOf e = K) (Pr : α → Prop) (dflt : α)
    (hel : ∀ (cs : List Value) (y : DataW H × List MemPlace) (n : Nat), cs.length = K → DataW.trod enc P W base (fun _ => true) held n e cs = some y → Wk P e y.1 → ∃ x, cs = f x ∧ Pr x)
    {v : Value} {x : DataW H × List MemPlace} {fuel : Nat} (h : DataW.trod enc P W base (fun _ => true) held fuel t [v] = some x) (hw : Wk P t x.1) : ∃ a n c l, v = .slice a n c ∧ LR f W (a, n, c) l ∧ (∀ y ∈ l, Pr y) ∧ n * P.bytesOf e ≤ reachBytes := by
  rcases open_slice ht h with ⟨hcs, _⟩ | ⟨ad, len, cap, m, k, D, Pl, hcs, _, hl, _, hm, hx, hi⟩
  · injection hcs with hcs
    exact ⟨_, _, _, [], hcs, ⟨rfl, Nat.le_refl _, SR.nil _ _⟩, (fun y hy => by cases hy), by rw [Nat.zero_mul]; exact Nat.zero_le _⟩
  · injection hcs with hcs
    obtain rfl : m = cap := by simpa using hm
    rw [hx] at hw
    have key : ∀ i, ∃ x : α, i < len → (∀ j v, (f x)[j]? = some v → W.cell? ((ad.add (i * K)).add j) = some v) ∧ Pr x := by
      intro i
      by_cases hin : i < len
      · obtain ⟨cs, hcells, htr⟩ := hi i (by omega)
        rw [hc] at hcells
        obtain ⟨_, hcl, hat⟩ := World.cells?_some hcells
        obtain ⟨x, rfl, hx⟩ := hel cs _ k (by omega) htr (wk_elem ht hw (List.mem_map.2 ⟨i, by simpa using hin, rfl⟩))
        refine ⟨x, fun _ => ⟨fun j v hv => ?_, hx⟩⟩
        have hj : j < K := by
          rcases Nat.lt_or_ge j K with h0 | h0
          · exact h0
          · rw [List.getElem?_eq_none (by rw [hf]; exact h0)] at hv; cases hv
        have := hat j (by omega)
        rw [hv] at this
        exact this
      · exact ⟨dflt, fun h' => absurd h' hin⟩
    obtain ⟨g, hg⟩ := Classical.axiomOfChoice key
    have hget : ∀ i, i < len → ((List.range len).map g)[i]? = some (g i) := fun i hin => by simp [hin]
    refine ⟨_, _, _, (List.range len).map g, hcs, ⟨by simp, hl, fun hne => ?_⟩, fun y hy => ?_, Nat.le_trans (Nat.mul_le_mul_right _ (by simp)) (wk_len ht hw)⟩
    · have hn : 0 < len := by
        rcases Nat.eq_zero_or_pos len with h0 | h0
        · subst h0; simp [flatF] at hne
        · exact h0
      obtain ⟨v0, hv0⟩ : ∃ v0, (f (g 0))[0]? = some v0 := ⟨_, List.getElem?_eq_getElem (by rw [hf]; exact hK)⟩
      obtain ⟨b, o, spot⟩ := ad
      have hc0 := (hg 0 hn).1 0 _ hv0
      have hspot : spot = none := by simpa [Addr.add] using World.cell?_spot hc0
      subst hspot
      rw [Addr.add_lit, Addr.add_lit] at hc0
      refine ⟨b, o, rfl, World.block_lt_of_cell? W _ hc0, fun j v hv => ?_⟩
      have hjl : j < len * K := by
        rcases Nat.lt_or_ge j (len * K) with h0 | h0
        · exact h0
        · rw [List.getElem?_eq_none (by rw [flatF_len hf]; simp; omega)] at hv; cases hv
      have hjd : j / K < len := Nat.div_lt_of_lt_mul (by rw [Nat.mul_comm]; exact hjl)
      have hsum : j / K * K + j % K = j := by rw [Nat.mul_comm]; exact Nat.div_add_mod j K
      have hfg := flatF_get (f := f) hf _ (j / K) _ (hget (j / K) hjd) (j % K) (Nat.mod_lt _ hK)
      rw [hsum] at hfg
      rw [hfg] at hv
      have hgg := (hg (j / K) hjd).1 (j % K) v hv
      rw [Addr.add_lit, Addr.add_lit, Nat.add_assoc, hsum] at hgg
      exact hgg
    · obtain ⟨i, hir, rfl⟩ := List.mem_map.1 hy
      exact (hg i (by simpa using hir)).2
/-- The fields of a struct whose fields are of one cell each. -/
theorem struct_field {e : TypeId} {fs : Array Field} (he : P.underlying e = some (.struct fs)) (hone : oneCellFields P fs = true) {cs : List Value} {x : DataW H × List MemPlace} {n : Nat} (h : DataW.trod enc P W base (fun _ => true) held n e cs = some x) (hw : Wk P e x.1) :
    ∃ n', ∀ (i : Nat) (f : Field) (v : Value), fs[i]? = some f → cs[i]? = some v → ∃ y, DataW.trod enc P W base (fun _ => true) held n' f.type [v] = some y ∧ Wk P f.type y.1 := by
  obtain ⟨xs, n', _, hx, _, hxl, hfld⟩ := DataW.trod_struct he h
  refine ⟨n', fun i f v hf hv => ?_⟩
  obtain ⟨o, k⟩ := hone_of hone i f hf
  have g := hfld i f hf
  rw [o, k] at g
  have hl : i < cs.length := (List.getElem?_eq_some_iff.1 hv).1
  have hd : (cs.drop i).take 1 = [v] := by
    rw [List.drop_eq_getElem_cons hl, List.take_succ_cons, List.take_zero]
    rw [List.getElem?_eq_getElem hl] at hv
    injection hv with hv
    rw [hv]
  rw [hd] at g
  have hi : i < xs.length := by rw [hxl]; exact (Array.getElem?_eq_some_iff.1 hf).1
  rw [List.getElem?_eq_getElem hi] at g
  refine ⟨xs[i], g, ?_⟩
  rw [hx] at hw
  exact wk_part he hw hf (by rw [List.getElem?_map, List.getElem?_eq_getElem hi]; rfl)
/-- A step as it lies. -/
structure TO where
  wh : Int
  p : Int
  md : Int
  tp : ByteArray
  tx : Bool
  da : SL
  bs : List UInt8
def TO.cells (x : TO) : List Value := [.int .i64 x.wh, .int .i64 x.p, .int .i64 x.md, .string x.tp, .bool x.tx, .slice x.da.1 x.da.2.1 x.da.2.2]
theorem TO.len (x : TO) : x.cells.length = 6 := rfl
structure TV (w : World) (x : TO) : Prop where
  p : (Lit.int .i64 x.p).wf = true
  md : (Lit.int .i64 x.md).wf = true
  bs : BS w x.da.1 x.da.2.1 x.da.2.2 x.bs
/-- The slice at A, of n steps, reads as l. -/
def TSt (w : World) (A : Option Addr) (n c : Nat) (l : List TO) : Prop := LR TO.cells w (A, n, c) l ∧ ∀ x ∈ l, TV w x
structure TOTy (P : Program) (e : TypeId) : Prop where
  ok : ∃ (f0 f1 f2 f3 f4 f5 : Field) (e5 : TypeId), P.underlying e = some (.struct #[f0, f1, f2, f3, f4, f5]) ∧ P.cellsOf e = 6 ∧ oneCellFields P #[f0, f1, f2, f3, f4, f5] = true ∧
    P.underlying f0.type = some (.int .i64) ∧ P.underlying f1.type = some (.int .i64) ∧ P.underlying f2.type = some (.int .i64) ∧ P.underlying f3.type = some .string ∧ P.underlying f4.type = some .bool ∧ P.underlying f5.type = some (.slice e5) ∧
    P.underlying e5 = some (.int .u8) ∧ P.cellsOf e5 = 1
theorem open_tops {t e : TypeId} (ht : P.underlying t = some (.slice e)) (hC : TOTy P e) {a : Option Addr} {n c : Nat} {d : DataW H} {p : List MemPlace} (hw : Wk P t d) (h : DataW.Trod enc P W base (fun _ => true) held t (.slice a n c) d p) : ∃ l, TSt W a n c l := by
  obtain ⟨fuel, hf⟩ := h
  obtain ⟨f0, f1, f2, f3, f4, f5, e5, he, hce, hone, h0, h1, h2, h3, h4, h5, m1, m2⟩ := hC.ok
  obtain ⟨a', n', c', l, hv, h6, h7, _⟩ := open_list (f := TO.cells) (v := .slice a n c) (by decide) TO.len ht hce (TV W) ⟨0, 0, 0, ⟨#[]⟩, false, (none, 0, 0), []⟩ (fun cs y k hl htr hwk => by
    obtain ⟨n', hk⟩ := struct_field he hone htr hwk
    match cs, hl with
    | [u0, u1, u2, u3, u4, u5], _ =>
      obtain ⟨y0, g0, _⟩ := hk 0 f0 u0 rfl rfl
      obtain ⟨y1, g1, _⟩ := hk 1 f1 u1 rfl rfl
      obtain ⟨y2, g2, _⟩ := hk 2 f2 u2 rfl rfl
      obtain ⟨y3, g3, l3⟩ := hk 3 f3 u3 rfl rfl
      obtain ⟨y4, g4, _⟩ := hk 4 f4 u4 rfl rfl
      obtain ⟨y5, g5, l5⟩ := hk 5 f5 u5 rfl rfl
      obtain ⟨z0, q0, _, w0⟩ := DataW.trod_int h0 g0
      obtain ⟨z1, q1, _, w1⟩ := DataW.trod_int h1 g1
      obtain ⟨z2, q2, _, w2⟩ := DataW.trod_int h2 g2
      obtain ⟨z3, q3, _, w3⟩ := DataW.trod_string h3 g3
      obtain ⟨z4, q4, _⟩ := DataW.trod_bool h4 g4
      have hsh : ∃ a n c, u5 = .slice a n c := by
        rcases open_slice h5 g5 with ⟨hcs, _⟩ | ⟨ad, len, cap, m, k, D, Pl, hcs, _⟩
        · injection hcs with hcs
          exact ⟨_, _, _, hcs⟩
        · injection hcs with hcs
          exact ⟨_, _, _, hcs⟩
      obtain ⟨a5, n5, c5, rfl⟩ := hsh
      obtain ⟨bs, hbs, _⟩ := open_bytes h5 m1 m2 (d := y5.1) (p := y5.2) (⟨_, g5⟩ : DataW.Trod enc P W base (fun _ => true) held f5.type (.slice a5 n5 c5) y5.1 y5.2)
      simp only [List.cons.injEq, and_true] at q0 q1 q2 q3 q4
      subst q0 q1 q2 q3 q4
      exact ⟨⟨z0, z1, z2, z3, z4, (a5, n5, c5), bs⟩, rfl, w1, w2, hbs⟩) hf hw
  injection hv with e1 e2 e3
  subst e1 e2 e3
  exact ⟨l, h6, h7⟩
end
theorem tTy : TOTy Try.prog 32 :=
  ⟨_, _, _, _, _, _, 5, Try.underlying32, by kernel_rfl, by kernel_rfl, Try.underlying3, Try.underlying3, Try.underlying3, Try.underlying9, Try.underlying4, Try.underlying30, Try.underlying5, by kernel_rfl⟩
theorem TSt.at_ {w : World} {A : Option Addr} {n c : Nat} {l : List TO} (h : TSt w A n c l) {j : Nat} (hj : j < n) : ∃ b o x, A = some ⟨b, o, none⟩ ∧ b < w.heap.size ∧ l[j]? = some x ∧ TV w x ∧
    w.cell? ⟨b, o + j * 6, none⟩ = some (.int .i64 x.wh) ∧ w.cell? ⟨b, o + j * 6 + 1, none⟩ = some (.int .i64 x.p) ∧ w.cell? ⟨b, o + j * 6 + 2, none⟩ = some (.int .i64 x.md) ∧ w.cell? ⟨b, o + j * 6 + 3, none⟩ = some (.string x.tp) ∧ w.cell? ⟨b, o + j * 6 + 4, none⟩ = some (.bool x.tx) ∧ w.cell? ⟨b, o + j * 6 + 5, none⟩ = some (.slice x.da.1 x.da.2.1 x.da.2.2) := by
  obtain ⟨b, o, x, h1, h2, h3, h4⟩ := h.1.at_ TO.len (by decide) hj
  exact ⟨b, o, x, h1, h2, h3, h.2 x (List.mem_of_getElem? h3), h4 0 _ rfl, h4 1 _ rfl, h4 2 _ rfl, h4 3 _ rfl, h4 4 _ rfl, h4 5 _ rfl⟩
theorem TV.step {w w' : World} {x : TO} (h : TV w x) (hb : Below w.heap.size w w') : TV w' x := ⟨h.p, h.md, h.bs.step hb⟩
theorem TSt.step {w w' : World} {A : Option Addr} {n c : Nat} {l : List TO} (h : TSt w A n c l) (hb : Below w.heap.size w w') : TSt w' A n c l := by
  obtain ⟨⟨h1, h2, h3⟩, h4⟩ := h
  exact ⟨⟨h1, h2, SR.step h3 hb⟩, fun x hx => (h4 x hx).step hb⟩
/-- What few says. -/
def FewT (n : Nat) (l : List TO) : Prop := n ≤ 150 ∧ ∀ x ∈ l, x.tp.size ≤ 300
structure FewP (n : Nat) (l : List TO) (W : World) (e : Ending) (w' : World) : Prop where
  r : ∃ r, e = .returned (.bool r) ∧ Hid (r = true → FewT n l)
  w : W = w'
theorem FewP.no {n : Nat} {l : List TO} {W : World} {e : Ending} (he : e = .returned (.bool false)) : FewP n l W e W := ⟨⟨false, he, keep fun hc => by cases hc⟩, rfl⟩
set_option maxRecDepth 100000 in
set_option maxHeartbeats 4000000 in
theorem few_any {A : Option Addr} {n c : Nat} {l : List TO} {W : World} (h : TSt W A n c l) : Calls Try.prog 11 #[.slice A n c] W fun e w' => FewP n l W e w' := by
  have HZ := keep h
  have hzl := h.1.1
  dsimp only at hzl
  have HLN := keep hzl
  clear h hzl
  by_cases hbig : 150 < n
  · have hI : (150 : Int) < (n : Int) := by omega
    go_enter Try.func11, Try.ntmps11
    go_wp2
    go_ret
    exact FewP.no rfl
  · have hn : n ≤ 150 := by omega
    have hnI : (n : Int) ≤ 150 := by omega
    go_enter Try.func11, Try.ntmps11
    go_wp2
    go_loopw [3] (fun i wr => ∃ j : Nat, j ≤ n ∧ i = .int .i64 j ∧ W = wr ∧ Hid (∀ x ∈ l.take j, x.tp.size ≤ 300)) (fun i _ => n - (intOf i).toNat)
    case atStart => exact ⟨0, Nat.zero_le _, rfl, rfl, keep (by simp)⟩
    case round =>
      obtain ⟨j, hj, rfl, rfl, HR⟩ := hrel
      by_cases hlt : j < n
      · obtain ⟨b, o, x, rfl, _, hlj, _, _, _, _, d3, _, d5⟩ := HZ.out.at_ hlt
        have HX := keep hlj
        obtain ⟨xw, xp, xm, xt, xx, ⟨l1, l2, l3⟩, xb⟩ := x
        dsimp only at d3 d5 HX
        have hjI : (j : Int) < (n : Int) := by omega
        have hj0 : (0 : Int) ≤ (j : Int) := by omega
        clear hlj
        by_cases h3 : 300 < xt.size
        · have h3I : (300 : Int) < (xt.size : Int) := by omega
          go_wp2
          go_ret
          exact FewP.no rfl
        · have h3I : ¬ (300 : Int) < (xt.size : Int) := by omega
          have HN := keep (show ∀ x ∈ l.take (j + 1), x.tp.size ≤ 300 from fun x hx => by
            rw [List.take_add_one, HX.out] at hx
            rcases List.mem_append.1 hx with hx | hx
            · exact HR.out x hx
            · obtain rfl := List.mem_singleton.1 hx
              exact Nat.le_of_not_lt h3)
          by_cases h5 : 500 < l2
          · have h5I : (500 : Int) < (l2 : Int) := by omega
            by_cases h6 : l2 ≤ 16384
            · have h6I : (l2 : Int) ≤ 16384 := by omega
              go_wp2
              go_ret
              exact FewP.no rfl
            · have h6I : ¬ (l2 : Int) ≤ 16384 := by omega
              go_wp2
              go_roundw
              case rel => exact ⟨j + 1, by omega, by simp, by first | trivial | rfl, HN⟩
              all_goals (simp [intOf]; omega)
          · have h5I : ¬ (500 : Int) < (l2 : Int) := by omega
            go_wp2
            go_roundw
            case rel => exact ⟨j + 1, by omega, by simp, by first | trivial | rfl, HN⟩
            all_goals (simp [intOf]; omega)
      · obtain rfl : j = n := by omega
        have HE := keep (show FewT j l from ⟨hn, by have h9 := HR.out; rwa [List.take_of_length_le (by have := HLN.out; omega)] at h9⟩)
        clear hlt
        go_wp2
        go_ret
        exact ⟨⟨true, rfl, keep fun _ => HE.out⟩, rfl⟩
/-! ### the bounds of this law -/
structure TB (a : Int) (j : Nat) (M : Mo) : Prop where
  np : M.np = 4
  room : M.room = clampT a 64
  u : M.u ≤ j
section
variable {a : Int} {j : Nat} {M : Mo}
theorem TB.up (h : TB a j M) : TB a (j + 1) M := ⟨h.np, h.room, Nat.le_succ_of_le h.u⟩
theorem TB.join (h : TB a j M) (p : Int) : TB a (j + 1) (joinM M p) := by
  unfold joinM
  split
  · exact ⟨h.np, h.room, Nat.succ_le_succ h.u⟩
  · exact h.up
theorem TB.leave (h : TB a j M) (p : Int) : TB a (j + 1) (leaveM M p) := by
  unfold leaveM
  split
  · exact ⟨h.np, h.room, Nat.le_succ_of_le h.u⟩
  · exact h.up
theorem TB.sub (h : TB a j M) (p : Int) (s : ByteArray) (md : Int) : TB a (j + 1) (subscribeM M p s md) := by
  unfold subscribeM
  split
  · split
    · exact ⟨h.np, h.room, Nat.le_succ_of_le h.u⟩
    · exact h.up
  · exact h.up
theorem TB.drop (h : TB a j M) (p : Int) (s : ByteArray) : TB a (j + 1) (dropM M p s) := by
  unfold dropM
  split
  · split
    · exact ⟨h.np, h.room, Nat.le_succ_of_le h.u⟩
    · exact h.up
  · exact h.up
theorem TB.pull (h : TB a j M) (p : Int) : TB a (j + 1) (pullM M p) := by
  unfold pullM
  split
  · exact ⟨h.np, h.room, Nat.le_succ_of_le h.u⟩
  · exact h.up
theorem TB.pub (h : TB a j M) (p : Int) (s : ByteArray) (tx : Bool) (bs : List UInt8) : TB a (j + 1) (pubM M p s tx bs) := by
  unfold pubM
  split
  · exact ⟨h.np, h.room, Nat.succ_le_succ h.u⟩
  · exact h.up
theorem leave_wait (M : Mo) (p : Int) (h : leaveE M p = 0) : waitN (leaveM M p) p = 0 := by
  unfold waitN leaveM
  rw [if_pos h]
  unfold Mo.at
  by_cases hp : 0 ≤ p
  · rw [if_pos hp]
    dsimp only
    rw [putN_same]
  · rw [if_neg hp]
theorem handN_3 {M : Mo} {y : It} {n : Nat} (hn : n < 4) (hy : y.fr = (n : Int)) : handN M y 4 ≤ 3 := by
  have h0 : handB M y n = false := by
    unfold handB
    cases M.P n with
    | none => rfl
    | some x => simp [hy]
  have e : ∀ k, handN M y k ≤ k := handN_le M y
  have s0 : handN M y 1 = handN M y 0 + if handB M y 0 = true then 1 else 0 := handN_succ M y 0
  have s1 : handN M y 2 = handN M y 1 + if handB M y 1 = true then 1 else 0 := handN_succ M y 1
  have s2 : handN M y 3 = handN M y 2 + if handB M y 2 = true then 1 else 0 := handN_succ M y 2
  have s3 : handN M y 4 = handN M y 3 + if handB M y 3 = true then 1 else 0 := handN_succ M y 3
  have e0 := e 0
  rcases Nat.lt_or_ge n 1 with h | h
  · obtain rfl : n = 0 := by omega
    rw [h0, if_neg (by decide)] at s0
    split at s1 <;> split at s2 <;> split at s3 <;> omega
  rcases Nat.lt_or_ge n 2 with h' | h'
  · obtain rfl : n = 1 := by omega
    rw [h0, if_neg (by decide)] at s1
    split at s0 <;> split at s2 <;> split at s3 <;> omega
  rcases Nat.lt_or_ge n 3 with h'' | h''
  · obtain rfl : n = 2 := by omega
    rw [h0, if_neg (by decide)] at s2
    split at s0 <;> split at s1 <;> split at s3 <;> omega
  · obtain rfl : n = 3 := by omega
    rw [h0, if_neg (by decide)] at s3
    split at s0 <;> split at s1 <;> split at s2 <;> omega
theorem TB.pubC (h : TB a j M) (p : Int) (s : ByteArray) (tx : Bool) (bs : List UInt8) : pubC M p s tx bs ≤ 3 ∧ (pubE M p s bs.length ≠ 0 → pubC M p s tx bs = 0) := by
  unfold Go.Proofs.Ytnbicbnighpkjaa.pubC
  refine ⟨?_, fun hc => by rw [if_neg hc]⟩
  split
  · rename_i hE
    have hb : hasB M p = true := by
      unfold pubE at hE
      split at hE
      · cases hE
      · rename_i hx
        cases hq : hasB M p with
        | true => rfl
        | false => exact absurd (.inl hq) hx
    obtain ⟨h1, h2⟩ := hasB_iff.1 hb
    rw [h.np] at h2 ⊢
    exact handN_3 (n := p.toNat) (by omega) (by unfold pubI; dsimp only; omega)
  · exact Nat.zero_le _
theorem TB.wait {w W : World} {b : Nat} (h : TB a j M) (hq : RQ w b M W) (p : Int) : waitN M p ≤ clampT a 64 := by
  unfold waitN Mo.at
  rw [← h.room]
  split
  · rename_i x hx
    split at hx
    · exact (hq.pt hx).1
    · cases hx
  · exact Nat.zero_le _
end
end Go.Proofs.Ytnbicbnighpkjaa
