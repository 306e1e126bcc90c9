/- Package topic: slices.DeleteFunc of the items of a topic. -/
import Derived.Test.YtnbicbnighpkjaaY3
import Derived.IntWalk
namespace Go.Proofs.Ytnbicbnighpkjaa
open Go.RowKit
set_option linter.unusedVariables false

/-- What is left when those of a topic go away. -/
def keepT (s : ByteArray) (l : List Iv) : List Iv := l.filter fun x => !ofT s x
theorem keepT_len (s : ByteArray) (l : List Iv) : (keepT s l).length ≤ l.length := List.length_filter_le ..
theorem keepT_take {s : ByteArray} {l : List Iv} {j : Nat} {x : Iv} (hj : l[j]? = some x) : keepT s (l.take (j + 1)) = if ofT s x = true then keepT s (l.take j) else keepT s (l.take j) ++ [x] := by
  rw [List.take_add_one, hj]
  unfold keepT
  rw [List.filter_append]
  cases h : ofT s x <;> simp [h]
/-- Between two rounds: the first i places hold what is left of the first j items; from place j on it is as it was. -/
structure DF (w : World) (g c : Nat) (l : List Iv) (s : ByteArray) (i j : Nat) (W : World) : Prop where
  ij : i < j
  jl : j ≤ l.length
  part : Part (fun k => k = g) w W
  row : ∃ M, IR g c M W ∧ M.length = l.length ∧ M.take i = keepT s (l.take j) ∧ M.drop j = l.drop j
theorem DF.start {w : World} {g c : Nat} {l : List Iv} {s : ByteArray} {W : World} (hi : l.findIdx (ofT s) < l.length) (hr : IR g c l W) (hp : Part (fun k => k = g) w W) : DF w g c l s (l.findIdx (ofT s)) (l.findIdx (ofT s) + 1) W := by
  refine ⟨by omega, hi, hp, l, hr, rfl, ?_, rfl⟩
  have h1 := List.findIdx_getElem (w := hi)
  rw [keepT_take (List.getElem?_eq_getElem hi), if_pos h1]
  unfold keepT
  rw [List.filter_eq_self.2]
  intro x hx
  obtain ⟨k, hk, rfl⟩ := List.mem_iff_getElem.1 hx
  rw [List.length_take] at hk
  rw [List.getElem_take]
  have := List.not_of_lt_findIdx (p := ofT s) (xs := l) (i := k) (by omega)
  simp [this]
theorem DF.pass {w : World} {g c : Nat} {l : List Iv} {s : ByteArray} {i j : Nat} {W W' : World} (h : DF w g c l s i j W) (hb : Below W.heap.size W W') {x : Iv} (hj : l[j]? = some x) (hx : ofT s x = true) : DF w g c l s i (j + 1) W' := by
  obtain ⟨h1, h2, h3, M, h4, h5, h6, h7⟩ := h
  have hjl := (List.getElem?_eq_some_iff.1 hj).1
  refine ⟨by omega, hjl, h3.trans (Part.of_below _ hb) fun i hi => .inl hi, M, h4.of (hb.block g h4.lt), h5, ?_, ?_⟩
  · rw [keepT_take hj, if_pos hx]
    exact h6
  · rw [← List.drop_drop, h7, List.drop_drop]
theorem DF.put {w : World} {g c : Nat} {l : List Iv} {s : ByteArray} {i j : Nat} {W W' : World} (h : DF w g c l s i j W) (hb : Below W.heap.size W W') {x : Iv} (hj : l[j]? = some x) (hx : ofT s x = false) :
    DF w g c l s (i + 1) (j + 1) (((((W'.setCell ⟨g, i * 5, none⟩ (.string x.tp)).setCell ⟨g, i * 5 + 1, none⟩ (.int .i64 x.fr)).setCell ⟨g, i * 5 + 2, none⟩ (.int .i64 x.nu)).setCell ⟨g, i * 5 + 3, none⟩ (.bool x.tx)).setCell ⟨g, i * 5 + 4, none⟩ (.slice x.da.1 x.da.2.1 x.da.2.2)) := by
  obtain ⟨h1, h2, h3, M, h4, h5, h6, h7⟩ := h
  have hjl := (List.getElem?_eq_some_iff.1 hj).1
  have hr := (h4.of (W' := W') (hb.block g h4.lt)).put5 (j := i) (by omega) x
  have hg : ∀ (V : World) (o : Nat) (u : Value), Part (fun k => k = g) V (V.setCell ⟨g, o, none⟩ u) := fun V o u => Part.of_grown (grown_set V ⟨g, o, none⟩ u) (fun k hk => by injection hk with hk; exact hk.symm)
  refine ⟨by omega, hjl, ?_, M.set i x, hr, by rw [List.length_set]; exact h5, ?_, ?_⟩
  · have t : ∀ {a b c : World}, Part (fun k => k = g) a b → Part (fun k => k = g) b c → Part (fun k => k = g) a c := fun p q => p.trans q fun i hi => .inl hi
    exact t (t (t (t (t (t h3 (Part.of_below _ hb)) (hg _ _ _)) (hg _ _ _)) (hg _ _ _)) (hg _ _ _)) (hg _ _ _)
  · rw [keepT_take hj, if_neg (by rw [hx]; decide), ← h6]
    apply List.ext_getElem?
    intro t
    have hil : i < M.length := by omega
    rw [List.getElem?_take, List.getElem?_append, List.length_take, Nat.min_eq_left (by omega), List.getElem?_set, List.getElem?_take]
    by_cases e1 : t < i
    · rw [if_pos (by omega), if_neg (by omega), if_pos e1, if_pos e1]
    · by_cases e2 : t = i
      · subst e2
        rw [if_pos (by omega), if_pos rfl, if_pos hil, if_neg (by omega), Nat.sub_self]
        rfl
      · rw [if_neg (by omega), if_neg e1, List.getElem?_eq_none (by simp; omega)]
  · rw [List.drop_set_of_lt (by omega), ← List.drop_drop, h7, List.drop_drop]
theorem DF.at_ {w : World} {g c : Nat} {l : List Iv} {s : ByteArray} {i j : Nat} {W : World} (h : DF w g c l s i j W) (hj : j < l.length) : ∃ x, l[j]? = some x ∧
    W.cell? ⟨g, j * 5, none⟩ = some (.string x.tp) ∧ W.cell? ⟨g, j * 5 + 1, none⟩ = some (.int .i64 x.fr) ∧ W.cell? ⟨g, j * 5 + 2, none⟩ = some (.int .i64 x.nu) ∧ W.cell? ⟨g, j * 5 + 3, none⟩ = some (.bool x.tx) ∧ W.cell? ⟨g, j * 5 + 4, none⟩ = some (.slice x.da.1 x.da.2.1 x.da.2.2) := by
  obtain ⟨h1, h2, h3, M, h4, h5, h6, h7⟩ := h
  have hx : M[j]? = l[j]? := by
    have := congrArg (fun z => z[0]?) h7
    simpa [List.getElem?_drop] using this
  have hl : l[j]? = some l[j] := List.getElem?_eq_getElem hj
  exact ⟨l[j], hl, h4.at_ (hx.trans hl)⟩
/-- The five cells where the next one is laid. -/
theorem DF.old {w : World} {g c : Nat} {l : List Iv} {s : ByteArray} {i j : Nat} {W W' : World} (h : DF w g c l s i j W) (hb : Below W.heap.size W W') : ∃ y : Iv,
    (W'.cell? ⟨g, i * 5, none⟩ = some (.string y.tp) ∧ W'.cell? ⟨g, i * 5 + 1, none⟩ = some (.int .i64 y.fr) ∧ W'.cell? ⟨g, i * 5 + 2, none⟩ = some (.int .i64 y.nu) ∧ W'.cell? ⟨g, i * 5 + 3, none⟩ = some (.bool y.tx) ∧ W'.cell? ⟨g, i * 5 + 4, none⟩ = some (.slice y.da.1 y.da.2.1 y.da.2.2)) ∧
    W'.frozen? ⟨g, i * 5, none⟩ = false ∧ W'.frozen? ⟨g, i * 5 + 1, none⟩ = false ∧ W'.frozen? ⟨g, i * 5 + 2, none⟩ = false ∧ W'.frozen? ⟨g, i * 5 + 3, none⟩ = false ∧ W'.frozen? ⟨g, i * 5 + 4, none⟩ = false := by
  obtain ⟨h1, h2, h3, M, h4, h5, h6, h7⟩ := h
  have h4' := h4.of (W' := W') (hb.block g h4.lt)
  exact ⟨M[i], h4'.at_ (List.getElem?_eq_getElem (by omega)), h4'.fz _, h4'.fz _, h4'.fz _, h4'.fz _, h4'.fz _⟩
theorem DF.lt {w : World} {g c : Nat} {l : List Iv} {s : ByteArray} {i j : Nat} {W : World} (h : DF w g c l s i j W) : g < W.heap.size := by
  obtain ⟨h1, h2, h3, M, h4, _⟩ := h
  exact h4.lt
theorem DF.done {w : World} {g c : Nat} {l : List Iv} {s : ByteArray} {i : Nat} {W : World} (h : DF w g c l s i l.length W) (vs : List Value) : IR g c (keepT s l) (W.setCells g (i * 5) vs) ∧ i = (keepT s l).length ∧ Part (fun k => k = g) w (W.setCells g (i * 5) vs) := by
  obtain ⟨h1, h2, h3, M, h4, h5, h6, h7⟩ := h
  rw [List.take_length] at h6
  have hi : i = (keepT s l).length := by rw [← h6, List.length_take]; omega
  refine ⟨?_, hi, h3.trans (part_setCells g vs _ W) fun i hi => .inl hi⟩
  have := h4.take i
  rw [h6] at this
  exact IR.past vs (i * 5) W (by omega) this
set_option maxHeartbeats 4000000 in
set_option maxRecDepth 1000000 in
theorem DeleteFunc_any (g n c : Nat) (l : List Iv) (s : ByteArray) (B : Nat) (w : World) (h : IR g c l w) (hn : n = l.length) (hB : B < w.heap.size) (hBg : B ≠ g) (hc : w.cell? ⟨B, 0, none⟩ = some (.string s)) (hm : n ≤ 100000) :
    Calls Try.prog 46 #[.slice (some ⟨g, 0, none⟩) n c, .func (.func 47) #[] #[.pointer (some ⟨B, 0, none⟩)]] w fun e w' => e = .returned (.slice (some ⟨g, 0, none⟩) (keepT s l).length c) ∧ IR g c (keepT s l) w' ∧ Part (fun i => i = g) w w' := by
  have hnc := h.le
  have K1 := keep (indexD_any (some ⟨g, 0, none⟩) n c l s B w (IS.of_row h hn) hB hc (by omega))
  by_cases hf : l.findIdx (ofT s) < l.length
  case neg =>
    have e1 : ixT s l = -1 := by unfold ixT; rw [if_neg hf]
    have e2 : keepT s l = l := by
      unfold keepT
      rw [List.filter_eq_self]
      intro x hx
      have := List.findIdx_eq_length.1 (show l.findIdx (ofT s) = l.length by have := List.findIdx_le_length (p := ofT s) (xs := l); omega) x hx
      simpa using this
    have K2 := K1.out
    rw [e1] at K2
    clear K1
    replace K1 := keep K2
    rw [e2, ← hn]
    have HH := keep (And.intro h (And.intro hB hc))
    clear K2 e1 e2 hf h hn hnc hB hc
    go_enter Try.func46, Try.ntmps46
    go_wp2_with (go_at_call 50; refine K1.out.mono ?_; rintro e w2 ⟨rfl, hb⟩)
    go_ret
    exact ⟨rfl, HH.out.1.of (hb.block g HH.out.1.lt), Part.of_below _ hb⟩
  obtain ⟨i0, hi0⟩ : ∃ i0, l.findIdx (ofT s) = i0 := ⟨_, rfl⟩
  have e1 : ixT s l = (i0 : Int) := by unfold ixT; rw [if_pos hf, hi0]
  have K2 := K1.out
  rw [e1] at K2
  clear K1
  replace K1 := keep K2
  have HS := keep fun W (hb : Below w.heap.size w W) => DF.start (w := w) hf (h.of (W' := W) (hb.block g h.lt)) (Part.of_below _ hb)
  rw [hi0] at HS hf
  have HB := keep (And.intro hB (And.intro hBg hc))
  have hi0n : (i0 : Int) + 1 ≤ (n : Int) := by omega
  have hz1 : ((i0 : Int) == -1) = false := by simp
  have hnI : (n : Int) ≤ 100000 := by omega
  obtain ⟨r, hr⟩ : ∃ r, keepT s l = r := ⟨_, rfl⟩
  have HR := keep hr
  rw [hr]
  have HN := keep hn
  have HNC := keep hnc
  clear K2 hf hr h hn hnc hB hc hBg e1 hi0
  go_enter Try.func46, Try.ntmps46
  go_wp2_with (go_at_call 50; refine K1.out.mono ?_; rintro e w2 ⟨rfl, hb⟩
               have HD := keep (HS.out w2 hb)
               clear hb)
  go_loopw [5, 6] (fun iv jv wr => ∃ i j : Nat, iv = .int .i64 (i : Int) ∧ jv = .int .i64 (j : Int) ∧ Hid (DF w g c l s i j wr)) (fun _ jv _ => n - (intOf jv).toNat)
  case atStart => exact ⟨i0, i0 + 1, rfl, by simp, HD⟩
  case round =>
    obtain ⟨i, j, rfl, rfl, hD⟩ := hrel
    by_cases hlt : j < n
    · obtain ⟨x, hlj, c0, c1, c2, c3, c4⟩ := hD.out.at_ (j := j) (by rw [← HN.out]; exact hlt)
      have hlt' : (j : Int) < (n : Int) := by omega
      have hij := hD.out.ij
      have hin' : (i : Int) < (n : Int) := by omega
      have HJ := keep hlj
      have HLT := keep hlt
      have hgl := hD.out.lt
      have hcB : wr.cell? ⟨B, 0, none⟩ = some (.string s) := by
        rw [World.cell?_of_block (w := w) (a := ⟨B, 0, none⟩) (hD.out.part.block B HB.out.1 HB.out.2.1)]
        exact HB.out.2.2
      have K := keep fun W (hb : Below wr.heap.size wr W) => clD_any x s B W (Nat.lt_of_lt_of_le HB.out.1 (Nat.le_trans hD.out.part.size hb.size)) ((hb.cell (p := ⟨B, 0, none⟩) (Nat.lt_of_lt_of_le HB.out.1 hD.out.part.size)).trans hcB)
      have HX := keep (rfl : ofT s x = ofT s x)
      obtain ⟨q, hq⟩ : ∃ q, ofT s x = q := ⟨_, rfl⟩
      have HQ := keep hq
      have K2 := K.out
      simp only [hq] at K2
      clear K
      replace K := keep K2
      have HP := keep fun W hb (h : q = false) => hD.out.put (W' := W) hb hlj (hq.trans h)
      clear K2 hlj hq HX hlt hij hcB
      obtain ⟨xt, xf, xn, xx, ⟨x1, x2, x3⟩, xb⟩ := x
      dsimp only at c0 c1 c2 c3 c4 K HP
      cases q
      · go_wp2_with fail
        go_at_call 47
        refine (K.out _ (below_lay _ _)).mono ?_
        rintro e w3 ⟨rfl, hb⟩
        dsimp only
        have hb2 := (below_lay wr (.cells #[.string xt, .int .i64 xf, .int .i64 xn, .bool xx, .slice x1 x2 x3] 49)).trans (hb.mono (by simp))
        have HD2 := keep (HP.out _ hb2 trivial)
        obtain ⟨y, ⟨d0, d1, d2, d3, d4⟩, f0, f1, f2, f3, f4⟩ := hD.out.old hb2
        have hbc : ∀ (k : Nat) (v : Value), (wr.alloc (.cells #[.string xt, .int .i64 xf, .int .i64 xn, .bool xx, .slice x1 x2 x3] 49)).cell? ⟨wr.heap.size, k, none⟩ = some v → w3.cell? ⟨wr.heap.size, k, none⟩ = some v := fun k v h => (hb.cell (p := ⟨wr.heap.size, k, none⟩) (by simp)).trans h
        have b0 := hbc 0 (.string xt) (by simp)
        have b1 := hbc 1 (.int .i64 xf) (by simp)
        have b2 := hbc 2 (.int .i64 xn) (by simp)
        have b3 := hbc 3 (.bool xx) (by simp)
        have b4 := hbc 4 (.slice x1 x2 x3) (by simp)
        have hi1 : IntKind.i64.wrap ((i : Int) + 1) = (i : Int) + 1 := IntWalk.i64_in _ (by omega)
        clear hb hbc hb2 c0 c1 c2 c3 c4
        go_wp2
        go_roundw
        case rel => exact ⟨i + 1, j + 1, rfl, rfl, HD2⟩
        all_goals (have := HLT.out; simp [intOf]; omega)
      · go_wp2_with (go_at_call 47; refine (K.out _ (below_lay _ _)).mono ?_; rintro e w3 ⟨rfl, hb⟩
                     have HD2 := keep (hD.out.pass ((below_lay _ _).trans (hb.mono (by simp))) HJ.out HQ.out)
                     clear hb)
        go_roundw
        case rel => exact ⟨i, j + 1, rfl, rfl, HD2⟩
        all_goals (have := HLT.out; simp [intOf]; omega)
    · obtain rfl : j = n := by have := hD.out.jl; have := HN.out; omega
      have hij := hD.out.ij
      have hD9 : DF w g c l s i l.length wr := by rw [← HN.out]; exact hD.out
      have hin : i ≤ j := by omega
      have hinI : (i : Int) ≤ (j : Int) := by omega
      have hcn : j ≤ c := by have := HNC.out; have := HN.out; omega
      have hci : ¬ c = i := by omega
      obtain ⟨M, hM, hMl, _⟩ := hD.out.row
      obtain ⟨vs, hvs, hcl⟩ := run_clear_wide (P := Try.prog) wr 77 49 (.agg #[.string ⟨#[]⟩, .int .i64 0, .int .i64 0, .bool false, .slice none 0 0]) 5 Try.underlying77 item_zero rfl (by intro u hu; simp only [Value.cells, List.mem_toArray, List.mem_cons, List.not_mem_nil, or_false] at hu; rcases hu with rfl | rfl | rfl | rfl | rfl <;> rfl) (by decide) g (i * 5) (j - i) (c - i) (by omega) (fun t ht => hM.some_ (by omega)) (fun t ht => hM.fz _)
      have HE := keep (hD9.done vs)
      rw [HR.out] at HE
      obtain rfl := HE.out.2.1
      clear hM hMl hvs hij hlt hD9
      go_wp2_with fail
      go_ret
      exact ⟨rfl, HE.out.1, HE.out.2.2⟩
end Go.Proofs.Ytnbicbnighpkjaa
