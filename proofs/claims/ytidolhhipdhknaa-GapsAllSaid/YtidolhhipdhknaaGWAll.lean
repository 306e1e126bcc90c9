/- GapsAll: in whatever order. -/
import Derived.Deep.AppendLies
import Derived.Deep.RegionHeld3
import Derived.Deep.Cut
import Derived.Deep.CutRange
import Derived.Test.YtidolhhipdhknaaGJ
import Derived.Test.YtidolhhipdhknaaNums
import Derived.Test.YtidolhhipdhknaaBits
namespace Go.Proofs.Ytidolhhipdhknaa
open Go.RowKit Go.Maps
set_option linter.unusedVariables false
set_option linter.unusedSimpArgs false

/-- An append at a step of a region that draws: to nil or a row of the call's own. -/
theorem step_append_own {P : Program} {w : World} {ops : Array Oper} {o : Oper} {a : Act} {K : Act → World → Prop} {Q : Exit → Act → World → Prop} {E : Prop} (hgd : o.guard = none) (s x : Operand) (t : TypeId)
    (ho : o.op = .call { callee := .builtin .append, args := #[s, x], argTypes := #[t, t] })
    (base : Nat) (e : TypeId) (i : TypeInfo) (z : Value) (size bytes : Nat) (ht : P.underlying t = some (.slice e)) (hi : P.info? e = some i) (hz : i.zero = some z)
    (hsize : i.size = size) (hby : i.bytes = bytes) (hzs : z.cells.size = size) (hsz : 0 < size)
    (v : Value) (n : Nat) (xs : List Value) (hs : a.eval s = v) (hown : w.ownsRow base e size v n xs)
    (ad : Addr) (m c : Nat) (news : List Value) (hx : a.eval x = .slice (some ad) m c) (hl : news.length = m * size) (hnews : ∀ j u, news[j]? = some u → w.cell? (ad.add j) = some u) (h1 : ∀ u ∈ news, u.oneCell' = true)
    (h63 : n + m ≤ maxLen) (hbytes : (n + m) * bytes ≤ 140737488355328) (hbase : base ≤ w.heap.size)
    (h : ∀ A' c' w', w'.ownsRow base e size (.slice A' (n + m) c') (n + m) (xs ++ news) → w.grownBy w' v.ownBlock → K (a.put o.dst (.slice A' (n + m) c')) w') :
    if Region.wanted o (yielded ops a.tmps) = true then Oper.wp P o a w K Q else E := by
  have hw : Region.wanted o (yielded ops a.tmps) = true := by simp [Region.wanted, hgd]
  rw [if_pos hw]
  obtain ⟨v', w', hrun, h2, h3, _⟩ := run_append_own (P := P) w base t o.type e i z size bytes ht hi hz hsize hby hzs hsz v n xs hown ad m c news hl hnews h1 h63 hbytes hbase
  obtain ⟨A', c', rfl, _⟩ := own_is h2
  unfold Oper.wp execOp
  simp only [ho, resolve, invoke, builtin, Sem.run_bind, Sem.run_pure, Result.andThen_ok, List.map_toArray, List.map_cons, List.map_nil, hs, hx, hrun]
  exact h A' c' w' h2 h3

/-- The numbers at the places R, from a on. -/
def nums (a : Int) (R : List Nat) : List Int := R.map fun (i : Nat) => wr (a + (i : Int))
theorem nums_len (a : Int) (R : List Nat) : (nums a R).length = R.length := by simp [nums]

/-- The slice at A lies apart from the set. -/
def Off (w : World) (A : Option Addr) (b k : Nat) (v : Value) : Prop := ∀ x, A = some x → ¬ Ow b k v x.block ∧ x.block < w.heap.size
theorem Off.turn {w w' : World} {A : Option Addr} {b k : Nat} {v v' : Value} (h : Off w A b k v) (hv : v'.ownBlock = v.ownBlock ∨ v' = .slice none 0 0 ∨ ∃ g, v'.ownBlock = some g ∧ w.heap.size ≤ g) (hs : w.heap.size ≤ w'.heap.size) : Off w' A b k v' := fun x hx => by
  obtain ⟨h1, h2⟩ := h x hx
  refine ⟨fun hc => ?_, by omega⟩
  rcases hc with hc | hc | hc
  · exact h1 (.inl hc)
  · exact h1 (.inr (.inl hc))
  · rcases hv with hv | hv | ⟨g, hv, hg⟩
    · rw [hv] at hc
      exact h1 (.inr (.inr hc))
    · rw [hv] at hc
      simp [Value.ownBlock] at hc
    · rw [hv] at hc
      injection hc with hc
      omega
/-- The set and the slice beside it. -/
structure Both (w0 w : World) (b k : Nat) (s : St) (A : Option Addr) (xs : List Value) (v : Value) : Prop where
  mine : Mine w0 w b k v s
  row : SR w A xs
  off : Off w A b k v
theorem Both.turn {w0 w w' : World} {b k : Nat} {s s' : St} {A : Option Addr} {xs : List Value} {v : Value} (h : Both w0 w b k s A xs v) (ht : Turned w b k v s'.f s'.L s'.T w') : ∃ v', Both w0 w' b k s' A xs v' := by
  obtain ⟨v', h1, h2, h3⟩ := ht
  refine ⟨v', ⟨h1, fun i hi => ?_, h.mine.bel.trans (h3.below h.mine.bel.size fun i hi => h.mine.own i hi)⟩, h3.sr h.row fun x hx => (h.off x hx).1, h.off.turn h2 h3.size⟩
  rcases hi with hi | hi | hi
  · exact h.mine.own i (.inl hi)
  · exact h.mine.own i (.inr (.inl hi))
  · rcases h2 with h2 | h2 | ⟨g, h2, hg⟩
    · rw [h2] at hi
      exact h.mine.own i (.inr (.inr hi))
    · rw [h2] at hi
      simp [Value.ownBlock] at hi
    · rw [h2] at hi
      injection hi with hi
      rw [← hi]
      exact Nat.le_trans h.mine.bel.size hg
theorem Both.step {w0 w w' : World} {b k : Nat} {s : St} {A : Option Addr} {xs : List Value} {v : Value} (h : Both w0 w b k s A xs v) (hb : Below w.heap.size w w') : Both w0 w' b k s A xs v :=
  ⟨⟨h.mine.set.step hb, h.mine.own, h.mine.bel.trans (hb.mono h.mine.bel.size)⟩, h.row.step hb, h.off.turn (.inl rfl) hb.size⟩
def Pair (w0 w : World) (b k : Nat) (s : St) (A : Option Addr) (xs : List Value) : Prop := ∃ v, Both w0 w b k s A xs v
theorem Pair.kept {w0 w : World} {b k : Nat} {s : St} {A : Option Addr} {xs : List Value} (h : Pair w0 w b k s A xs) : Kept w0 w b k s := ⟨_, h.choose_spec.mine⟩
theorem Pair.row {w0 w : World} {b k : Nat} {s : St} {A : Option Addr} {xs : List Value} (h : Pair w0 w b k s A xs) : SR w A xs := h.choose_spec.row
/-- Another slice, in new memory. -/
theorem Pair.other {w0 w w' : World} {b k : Nat} {s : St} {A A' : Option Addr} {xs xs' : List Value} (h : Pair w0 w b k s A xs) (hb : Below w.heap.size w w') (hr : SR w' A' xs') (hA : ∀ x, A' = some x → w.heap.size ≤ x.block ∧ x.block < w'.heap.size) : Pair w0 w' b k s A' xs' := by
  obtain ⟨v, h⟩ := h
  have h2 := h.step hb
  refine ⟨v, h2.mine, hr, fun x hx => ⟨fun hc => ?_, (hA x hx).2⟩⟩
  have := h.mine.set.ow_lt hc
  have := (hA x hx).1
  omega
theorem Pair.Add {w0 w : World} {b k : Nat} {s : St} {A : Option Addr} {xs : List Value} (h : Pair w0 w b k s A xs) {n : Int} (n0 : 0 ≤ n) (n1 : n < 4294967296) :
    Calls Try.prog 12 #[.pointer (some ⟨b, 0, none⟩), .int .u32 n] w fun e w' => e = .returned (.int .i64 (s.told n)) ∧ Pair w0 w' b k (s.add n) A xs := by
  obtain ⟨v, h⟩ := h
  exact (Add_set h.mine.set n0 n1).mono fun e w' he => ⟨he.1, h.turn he.2⟩
theorem Pair.Has {w0 w : World} {b k : Nat} {s : St} {A : Option Addr} {xs : List Value} (h : Pair w0 w b k s A xs) {n : Int} (n0 : 0 ≤ n) (n1 : n < 4294967296) :
    Calls Try.prog 25 #[.pointer (some ⟨b, 0, none⟩), .int .u32 n] w fun e w' => e = .returned (.bool (had s.f s.L n)) ∧ Pair w0 w' b k s A xs := by
  obtain ⟨v, h⟩ := h
  exact (Has_set h.mine.set n0 n1).mono fun e w' he => ⟨he.1, v, h.step he.2⟩

theorem own_cap {w : World} {base n c : Nat} {e : TypeId} {size : Nat} {A : Option Addr} {xs : List Value} (h : w.ownsRow base e size (.slice A n c) n xs) : n ≤ c := by
  obtain ⟨_, _, hv, hc⟩ := own_is h
  injection hv with _ _ hv
  rwa [← hv] at hc
theorem rem_at (q l : Nat) : ((q : Int).tmod (l : Int)) = ((q % l : Nat) : Int) := by rw [← Int.ofNat_tmod]
theorem nums_at {a : Int} {R : List Nat} {p r : Nat} (h : R[p]? = some r) : (u32s (nums a R))[p]? = some (.int .u32 (wr (a + r))) := by simp [u32s, nums, h]
theorem nums_out (a : Int) (R : List Nat) (p : Nat) : (u32s (nums a R)).take p ++ (u32s (nums a R)).drop (p + 1) = u32s (nums a (R.take p ++ R.drop (p + 1))) := by simp [u32s, nums, List.map_take, List.map_drop]
theorem slice_from (g o l c p : Nat) (hp : p + 1 ≤ l) (hc : ¬ c = p + 1) (w : World) : (Instr.slice 34 (.slice (some ⟨g, o, none⟩) l c) (some (.int .i64 ((p : Int) + 1))) none none).run Try.prog w = .ok (.slice (some ⟨g, o + (p + 1), none⟩) (l - (p + 1)) (c - (p + 1))) w := by
  have he : Try.prog.elem 34 = 22 := by kernel_rfl
  have hz : ∀ w, (sizeOf 22).run Try.prog w = .ok 1 w := fun w => by kernel_rfl
  have e2 : ((p : Int) + 1).toNat = p + 1 := by omega
  rw [run_slice_l _ _ _ _ _ (by rw [he]; exact Try.underlying34) _ _ (by omega) (by omega), he, hz, e2]
  simp [Result.andThen, sliced, hc, Addr.add]
theorem slice_end (g o l c p : Nat) (hp : p + 1 ≤ l) (hc : c = p + 1) (w : World) : (Instr.slice 34 (.slice (some ⟨g, o, none⟩) l c) (some (.int .i64 ((p : Int) + 1))) none none).run Try.prog w = .ok (.slice (some ⟨g, o, none⟩) (l - (p + 1)) (c - (p + 1))) w := by
  have he : Try.prog.elem 34 = 22 := by kernel_rfl
  have hz : ∀ w, (sizeOf 22).run Try.prog w = .ok 1 w := fun w => by kernel_rfl
  have e2 : ((p : Int) + 1).toNat = p + 1 := by omega
  rw [run_slice_l _ _ _ _ _ (by rw [he]; exact Try.underlying34) _ _ (by omega) (by omega), he, hz, e2]
  simp [Result.andThen, sliced, hc]
theorem sr_news {w : World} {g o : Nat} {xs : List Value} (h : SR w (some ⟨g, o, none⟩) xs) : ∀ j u, xs[j]? = some u → w.cell? ((⟨g, o, none⟩ : Addr).add j) = some u := fun j u hu => by
  obtain ⟨g', o', e, _, hc⟩ := h (fun c => by rw [c] at hu; simp at hu)
  injection e with e
  injection e with e1 e2 _
  subst e1 e2
  rw [Addr.add_lit]
  exact hc j u hu
theorem sr_take {w : World} {A : Option Addr} {xs : List Value} (h : SR w A xs) (k : Nat) : SR w A (xs.take k) := SR.take h k
theorem sr_from {w : World} {g o : Nat} {xs : List Value} (h : SR w (some ⟨g, o, none⟩) xs) (k : Nat) : ∀ j u, (xs.drop k)[j]? = some u → w.cell? ((⟨g, o + k, none⟩ : Addr).add j) = some u := fun j u hu => by
  rw [List.getElem?_drop] at hu
  have := sr_news h (k + j) u hu
  rw [Addr.add_lit] at this ⊢
  rwa [Nat.add_assoc]
/-- The sizes at a place taken out. -/
structure Szs (p l c : Nat) (xs : List Value) : Prop where
  pos : (0 : Int) ≤ (p : Int)
  lc : (l : Int) ≤ (c : Int)
  wr1 : IntKind.i64.wrap ((p : Int) + 1) = (p : Int) + 1
  wr2 : wrap64 ((p : Int) + 1) = (p : Int) + 1
  p1 : p + 1 ≤ l
  tk : (xs.take p).length = p * 1
  dr : (xs.drop (p + 1)).length = (l - (p + 1)) * 1
  m1 : 0 + p ≤ maxLen
  b1 : (0 + p) * 4 ≤ 140737488355328
  m2 : p + (l - (p + 1)) ≤ maxLen
  b2 : (p + (l - (p + 1))) * 4 ≤ 140737488355328
  all : p + (l - (p + 1)) + 1 = l
theorem szs {p l c j i : Nat} {xs : List Value} (h1 : p < l) (h2 : l ≤ c) (h3 : i + l = j) (h4 : j ≤ 127) (hx : xs.length = l) : Szs p l c xs :=
  ⟨by omega, by omega, by rw [IntKind.wrap_i64]; omega, by unfold wrap64; omega, by omega, by rw [List.length_take, hx]; omega, by rw [List.length_drop, hx]; omega, by unfold maxLen; omega, by omega, by unfold maxLen; omega, by omega, by omega⟩
theorem neq_int {c p : Nat} (h : ¬ c = p + 1) : ¬ (c : Int) = (p : Int) + 1 := by omega
theorem drop_out {xs : List Value} {l c p : Nat} {w : World} {x : Addr} (hx : xs.length = l) (hc : c = p + 1) (h : l ≤ c) : ∀ j u, (xs.drop (p + 1))[j]? = some u → w.cell? (x.add j) = some u := fun j u hu => by
  rw [List.drop_of_length_le (by omega)] at hu
  simp at hu
theorem round_nums {i l j x : Nat} (h1 : i + l = j) (h2 : x + 1 = l) (h3 : j ≤ 127) : Value.int .i64 (wrap64 ((i : Int) + 1)) = .int .i64 ((i + 1 : Nat) : Int) ∧ Value.int .i64 ((i : Int) + 1) = .int .i64 ((i + 1 : Nat) : Int) ∧ i + 1 + x = j ∧ j - nat_of (.int .i64 (wrap64 ((i : Int) + 1))) < j - nat_of (.int .i64 (i : Int)) := by
  have e : wrap64 ((i : Int) + 1) = ((i + 1 : Nat) : Int) := by unfold wrap64; omega
  refine ⟨by rw [e], by congr 1, by omega, ?_⟩
  rw [e]
  simp only [nat_of, Int.toNat_natCast]
  omega
theorem len_out {R : List Nat} {p l x : Nat} (h1 : R.length = l) (h2 : (R.take p ++ R.drop (p + 1)).length + 1 = R.length) (h3 : x + 1 = l) : (R.take p ++ R.drop (p + 1)).length = x := by omega
theorem min_big {i : Nat} (h : (64 : Int) < (i : Int)) : (((min i 64 : Nat) : Int) == 64) = true := by
  rw [beq_iff_eq]
  omega
theorem min_small {i : Nat} (h : (i : Int) ≤ 64) : (((min i 64 : Nat) : Int) == (i : Int)) = true := by
  rw [beq_iff_eq]
  omega
theorem Kept.pair {w0 w : World} {b k : Nat} {s : St} (h : Kept w0 w b k s) : Pair w0 w b k s none [] := ⟨_, h.choose_spec, SR.nil _ _, fun x hx => by cases hx⟩
theorem own_apart {w : World} {base n c : Nat} {e : TypeId} {size : Nat} {A : Option Addr} {xs : List Value} (h : w.ownsRow base e size (.slice A n c) n xs) : ∀ x, A = some x → base ≤ x.block ∧ x.block < w.heap.size := fun x hx => by
  subst hx
  exact h.lt x.block (by simp [Value.ownBlock])

set_option maxHeartbeats 16000000 in
theorem gapsAll_walk (a : Int) (n : Int) (P : Option Addr) (m c : Nat) (zs : List Int) (w : World) (ha : (Lit.int .u32 a).wf = true) (hn : (Lit.int .i64 n).wf = true) (hP : NS .i64 w P m c zs) :
    Calls Try.prog 5 #[.int .u32 a, .int .i64 n, .slice P m c] w fun e w' => e = .returned (.bool true) ∧ Below w.heap.size w w' := by
  have hF := keep (of_wf32 ha)
  have HP := keep hP
  obtain ⟨k, hk⟩ : ∃ k : Nat, n % 128 = k := ⟨(n % 128).toNat, by omega⟩
  have hk7 : k ≤ 127 := by omega
  have e1 : bits .and .i64 n 127 = (k : Int) := (and_i64 n 7 (by omega)).trans hk
  obtain ⟨i0, hi0, hz0, hz1, hz2⟩ := info_parts u32_info
  clear ha hn hP hk
  go_enter Try.func5, Try.ntmps5
  go_wp2_with (first
    | (go_at_call 9; refine (awake_any _).mono ?_; rintro e w1 ⟨rfl, h1⟩; replace h1 := keep h1)
    | (go_at_call 10; refine (New_kept a hF.out.1 hF.out.2 w _ h1.out).mono ?_; rintro e w2 ⟨b, kk, rfl, h2⟩; replace h2 := keep h2))
  go_loopw [11, 12] (fun vl vi wr => ∃ (j : Nat) (A' : Option Addr) (c' : Nat), vi = .int .i64 j ∧ vl = .slice A' j c' ∧ j ≤ k ∧ Hid (Below w2.heap.size w2 wr ∧ wr.ownsRow w2.heap.size 22 1 (.slice A' j c') j (u32s (nums a (List.range j))))) (fun _ vi _ => k - nat_of vi)
  case atStart => exact ⟨0, none, 0, rfl, rfl, Nat.zero_le _, Below.refl _ _, World.ownsRow_nil _ _ _ _⟩
  case round =>
    obtain ⟨j, A', c', rfl, rfl, hj, HJ⟩ := hrel
    by_cases hjk : j < k
    · have hjz : (j : Int) < (k : Int) := by omega
      have HO := keep HJ.out.2
      go_wp2_with (at_builtin; refine wpList_append_own_at _ rfl (.tmp 26) (.tmp 31) 34 rfl w2.heap.size 22 i0 (.int .u32 0) 1 4 Try.underlying34 hi0 hz0 hz1 hz2 rfl (by decide) (.slice A' j c') j _ rfl (HO.out.alloc _) ⟨wr.heap.size, 0, none⟩ 1 1 [.int .u32 ((a + j) % 4294967296)] rfl rfl (cell_one_new _ _ _) (u32s_one [(a + j) % 4294967296]) (by unfold maxLen; omega) (by omega) (by have := HJ.out.1.size; simp; omega) ?_; intro v' w4 hown' hgrow hnil hloc; obtain ⟨A2, c2, rfl, y1⟩ := own_is hown'; clear y1 hnil hloc; replace hown' := keep hown'; replace hgrow := keep hgrow)
      go_roundw
      case rel =>
        refine ⟨j + 1, A2, c2, by go_num, rfl, by omega, (HJ.out.1.alloc HJ.out.1.size _).trans (grown_below hgrow.out (by have := HJ.out.1.size; simp; omega) fun g hg => (HO.out.lt g hg).1), ?_⟩
        have := hown'.out
        rw [show u32s (nums a (List.range (j + 1))) = u32s (nums a (List.range j)) ++ [.int .u32 ((a + j) % 4294967296)] by simp [List.range_succ, nums, u32s]; rfl]
        exact this
      case measure => simp [nat_of]; omega
    · obtain rfl : j = k := by omega
      have hge : ¬ (j : Int) < (j : Int) := by omega
      have HPR := keep ((h2.out.pair).other HJ.out.1 (SR.own HJ.out.2) (own_apart HJ.out.2))
      have hc9 := own_cap HJ.out.2
      clear HJ
      go_wp2_with fail
      go_loopw [10, 11, 13] (fun vf vl vi wq => ∃ (R : List Nat) (s : St) (i l : Nat) (A2 : Option Addr) (c2 : Nat), vi = .int .i64 i ∧ vf = .int .i64 i ∧ vl = .slice A2 l c2 ∧ l ≤ c2 ∧ i + l = j ∧ Hid (R.length = l ∧ Come a j R s ∧ Pair w wq b kk s A2 (u32s (nums a R)))) (fun _ _ vi _ => j - nat_of vi)
      case atStart => exact ⟨List.range j, St.new a, 0, j, A', c', rfl, rfl, rfl, hc9, by omega, by simp, Come.start a j, HPR.out⟩
      case round =>
        clear HPR hc9
        obtain ⟨R, s, i, l, A2, c2, rfl, rfl, rfl, hlc, hil, HR⟩ := hrel
        by_cases hl0 : 0 < l
        · have hlz : (0 : Int) < (l : Int) := by omega
          have hln : ¬ ((l : Int) = 0) := by omega
          obtain ⟨p, hpl, HPP⟩ : ∃ p : Nat, p < l ∧ Hid ((i < m → ∃ gp op z q, P = some ⟨gp, op, none⟩ ∧ wr.cell? ⟨gp, op + i, none⟩ = some (.int .i64 z) ∧ bits .and .i64 z 65535 = ((q : Nat) : Int) ∧ (q : Int).tmod (l : Int) = (p : Int)) ∧ (¬ i < m → p = 0)) := by
            by_cases him : i < m
            · obtain ⟨gp, op, z, eP, _, hcp, _, _⟩ := (HP.out.step HR.out.2.2.kept.below).at_ him
              obtain ⟨q, hq, _⟩ := and65535 z
              exact ⟨q % l, Nat.mod_lt _ hl0, fun _ => ⟨gp, op, z, q, eP, hcp, hq, rem_at q l⟩, fun h => absurd him h⟩
            · exact ⟨0, hl0, fun h => absurd h him, fun _ => rfl⟩
          obtain ⟨r, hr⟩ : ∃ r, R[p]? = some r := ⟨_, List.getElem?_eq_getElem (by rw [HR.out.1]; exact hpl)⟩
          have hat := nums_at (a := a) hr
          obtain ⟨gl, ol, eA, hgl, hcs⟩ := HR.out.2.2.row (fun e => by rw [e] at hat; simp at hat)
          subst eA
          have hcl : wr.cell? ⟨gl, ol + p, none⟩ = some (.int .u32 ((a + r) % 4294967296)) := hcs p _ hat
          obtain ⟨o1, o2, o3⟩ := out_at HR.out.2.1.nodup hr
          obtain ⟨m1, m2, m3, m4⟩ := HR.out.2.1.more hk7 (List.mem_of_getElem? hr) o1 o2 o3
          have HX1 := keep (HR.out.2.2.Add (wr_lo (a + r)) (wr_hi (a + r)))
          rw [m1] at HX1
          have HX2 := keep fun wx (h : Pair w wx b kk (s.add (Go.Proofs.Ytidolhhipdhknaa.wr (a + r))) (some ⟨gl, ol, none⟩) (u32s (nums a R))) => h.Add (wr_lo (a + r)) (wr_hi (a + r))
          rw [m2] at HX2
          have HX3 := keep fun wx (h : Pair w wx b kk ((s.add (Go.Proofs.Ytidolhhipdhknaa.wr (a + r))).add (Go.Proofs.Ytidolhhipdhknaa.wr (a + r))) (some ⟨gl, ol, none⟩) (u32s (nums a R))) => h.Has (wr_lo (a + r)) (wr_hi (a + r))
          rw [m3] at HX3
          have M4 := keep m4
          have HLen := keep (show (u32s (nums a R)).length = l by rw [u32s_len, nums_len]; exact HR.out.1)
          have O3 := keep o3
          clear o1 o2 o3 m1 m2 m3 m4 hat hcs hr hgl
          obtain ⟨S2, hS2⟩ : ∃ S2, (s.add (Go.Proofs.Ytidolhhipdhknaa.wr (a + r))).add (Go.Proofs.Ytidolhhipdhknaa.wr (a + r)) = S2 := ⟨_, rfl⟩
          rw [hS2] at HX2 HX3 M4
          clear hS2
          have hplz : (p : Int) < (l : Int) := by omega
          have hpcz : (p : Int) ≤ (c2 : Int) := by omega
          have hp1z : (p : Int) + 1 ≤ (l : Int) := by omega
          have hp1c : (p : Int) + 1 ≤ (c2 : Int) := by omega
          by_cases him : i < m
          · obtain ⟨gp, op, z, q, eP, hcp, hq, hqm⟩ := HPP.out.1 him
            have himz : (i : Int) < (m : Int) := by omega
            subst eP
            go_wp2_with (first
              | (go_at_call 25; refine (HX3.out _ K2.out).mono ?_; rintro e wx ⟨rfl, hx⟩; have K3 := keep hx; clear hx)
              | (go_at_call 12; refine (HX2.out _ K1.out).mono ?_; rintro e wx ⟨rfl, hx⟩; have K2 := keep hx; clear hx)
              | (go_at_call 12; refine HX1.out.mono ?_; rintro e wx ⟨rfl, hx⟩; have K1 := keep hx; clear hx))
            have HRow := keep K3.out.row
            have HR1 := keep ((HRow.out.step (below_lay wx (.cells #[] 22))).step ((Below.refl _ _).drew))
            have HO1 := keep (show ((wx.alloc (.cells #[] 22)).drew).ownsRow wx.heap.size 22 1 (.slice (some ⟨wx.heap.size, 0, none⟩) 0 0) 0 [] from own_row (xs := []) (heap_alloc_new wx _) 0 rfl (by decide))
            have HB1 := keep (show Below wx.heap.size wx ((wx.alloc (.cells #[] 22)).drew) from (below_lay wx _).drew)
            have HS1 := keep HB1.out.size
            have HLC := keep hlc
            have Z := keep (szs hpl hlc hil hk7 HLen.out)
            have hpos := Z.out.pos
            have hlcz := Z.out.lc
            have hwrap := Z.out.wr1
            have hwrap2 := Z.out.wr2
            have HB := keep (And.intro hil (And.intro hj hk7))
            clear hqm hq hcp hcl himz him HPP HX1 HX2 HX3 K1 K2 hln hlz hpl hlc hil hj hk7 hl0 hjk
            by_cases hcap : c2 = p + 1
            · have hsl := slice_end gl ol l c2 p Z.out.p1 hcap
              have HN := keep (fun (w : World) => drop_out (w := w) (x := ⟨gl, ol, none⟩) HLen.out hcap HLC.out)
              have hci : (c2 = p + 1) = True := eq_true hcap
              clear hcap
              go_region_held3 (fun w' => SR w' (some ⟨gl, ol, none⟩) (u32s (nums a R))) (first | exact HRow.out | exact HR1.out | exact HR2.out | exact HR3.out)
              (first
              | (refine step_append_own (by rfl) _ _ 34 (by rfl) wx.heap.size 22 i0 (.int .u32 0) 1 4 Try.underlying34 hi0 hz0 hz1 hz2 rfl (by decide) (.slice A5 p c5) p ((u32s (nums a R)).take p) (by rfl) hown5.out ⟨gl, ol, none⟩ (l - (p + 1)) (c2 - (p + 1)) ((u32s (nums a R)).drop (p + 1)) (by rfl) Z.out.dr (HN.out _) (fun u hu => u32s_one _ u (List.mem_of_mem_drop hu)) Z.out.m2 Z.out.b2 hs5.out ?_; intro A6 c6 w6 hown6 hgrow6; have hb6 := keep (hb5.out.grown hgrow6 hs5.out fun g hg => (hown5.out.lt g hg).1); rw [nums_out] at hown6; replace hown6 := keep hown6; clear hgrow6; have HR3 := keep (HRow.out.step hb6.out))
              | (refine step_append_own (by rfl) _ _ 34 (by rfl) wx.heap.size 22 i0 (.int .u32 0) 1 4 Try.underlying34 hi0 hz0 hz1 hz2 rfl (by decide) (.slice (some ⟨wx.heap.size, 0, none⟩) 0 0) 0 [] (by rfl) HO1.out ⟨gl, ol, none⟩ p c2 ((u32s (nums a R)).take p) (by rfl) Z.out.tk (sr_news (sr_take HR1.out p)) (fun u hu => u32s_one _ u (List.mem_of_mem_take hu)) Z.out.m1 Z.out.b1 HS1.out ?_; intro A5 c5 w5 hown5 hgrow5; simp only [Nat.zero_add, List.nil_append] at hown5 ⊢; have hb5 := keep (HB1.out.grown hgrow5 HS1.out fun g hg => (HO1.out.lt g hg).1); have hs5 := keep hb5.out.size; replace hown5 := keep hown5; clear hgrow5; have HR2 := keep (HRow.out.step hb5.out)))
              go_wp2_with fail
              obtain ⟨r1, r2, r3, r4⟩ := round_nums HB.out.1 Z.out.all HB.out.2.2
              exact ⟨⟨R.take p ++ R.drop (p + 1), S2, i + 1, p + (l - (p + 1)), A6, c6, r1, r2, rfl, own_cap hown6.out, r3, len_out HR.out.1 O3.out Z.out.all, M4.out, K3.out.other hb6.out (SR.own hown6.out) (own_apart hown6.out)⟩, r4⟩
            · have hcz := neq_int hcap
              have hsl := slice_from gl ol l c2 p Z.out.p1 hcap
              go_region_held3 (fun w' => SR w' (some ⟨gl, ol, none⟩) (u32s (nums a R))) (first | exact HRow.out | exact HR1.out | exact HR2.out | exact HR3.out)
              (first
              | (refine step_append_own (by rfl) _ _ 34 (by rfl) wx.heap.size 22 i0 (.int .u32 0) 1 4 Try.underlying34 hi0 hz0 hz1 hz2 rfl (by decide) (.slice A5 p c5) p ((u32s (nums a R)).take p) (by rfl) hown5.out ⟨gl, ol + (p + 1), none⟩ (l - (p + 1)) (c2 - (p + 1)) ((u32s (nums a R)).drop (p + 1)) (by rfl) Z.out.dr (sr_from HR2.out (p + 1)) (fun u hu => u32s_one _ u (List.mem_of_mem_drop hu)) Z.out.m2 Z.out.b2 hs5.out ?_; intro A6 c6 w6 hown6 hgrow6; have hb6 := keep (hb5.out.grown hgrow6 hs5.out fun g hg => (hown5.out.lt g hg).1); rw [nums_out] at hown6; replace hown6 := keep hown6; clear hgrow6; have HR3 := keep (HRow.out.step hb6.out))
              | (refine step_append_own (by rfl) _ _ 34 (by rfl) wx.heap.size 22 i0 (.int .u32 0) 1 4 Try.underlying34 hi0 hz0 hz1 hz2 rfl (by decide) (.slice (some ⟨wx.heap.size, 0, none⟩) 0 0) 0 [] (by rfl) HO1.out ⟨gl, ol, none⟩ p c2 ((u32s (nums a R)).take p) (by rfl) Z.out.tk (sr_news (sr_take HR1.out p)) (fun u hu => u32s_one _ u (List.mem_of_mem_take hu)) Z.out.m1 Z.out.b1 HS1.out ?_; intro A5 c5 w5 hown5 hgrow5; simp only [Nat.zero_add, List.nil_append] at hown5 ⊢; have hb5 := keep (HB1.out.grown hgrow5 HS1.out fun g hg => (HO1.out.lt g hg).1); have hs5 := keep hb5.out.size; replace hown5 := keep hown5; clear hgrow5; have HR2 := keep (HRow.out.step hb5.out)))
              go_wp2_with fail
              obtain ⟨r1, r2, r3, r4⟩ := round_nums HB.out.1 Z.out.all HB.out.2.2
              exact ⟨⟨R.take p ++ R.drop (p + 1), S2, i + 1, p + (l - (p + 1)), A6, c6, r1, r2, rfl, own_cap hown6.out, r3, len_out HR.out.1 O3.out Z.out.all, M4.out, K3.out.other hb6.out (SR.own hown6.out) (own_apart hown6.out)⟩, r4⟩
          · have himz : ¬ (i : Int) < (m : Int) := by omega
            have HP0 := keep (HPP.out.2 him)
            have E0 := keep (show Value.int .i64 0 = Value.int .i64 ((p : Nat) : Int) by rw [HP0.out]; rfl)
            have hcl0 : wr.cell? ⟨gl, ol, none⟩ = some (.int .u32 ((a + r) % 4294967296)) := by rw [HP0.out, Nat.add_zero] at hcl; exact hcl
            go_wp2_with (first
              | (go_at_call 25; refine (HX3.out _ K2.out).mono ?_; rintro e wx ⟨rfl, hx⟩; have K3 := keep hx; clear hx)
              | (go_at_call 12; refine (HX2.out _ K1.out).mono ?_; rintro e wx ⟨rfl, hx⟩; have K2 := keep hx; clear hx)
              | (go_at_call 12; refine HX1.out.mono ?_; rintro e wx ⟨rfl, hx⟩; have K1 := keep hx; clear hx))
            rw [E0.out]
            have HRow := keep K3.out.row
            have HR1 := keep ((HRow.out.step (below_lay wx (.cells #[] 22))).step ((Below.refl _ _).drew))
            have HO1 := keep (show ((wx.alloc (.cells #[] 22)).drew).ownsRow wx.heap.size 22 1 (.slice (some ⟨wx.heap.size, 0, none⟩) 0 0) 0 [] from own_row (xs := []) (heap_alloc_new wx _) 0 rfl (by decide))
            have HB1 := keep (show Below wx.heap.size wx ((wx.alloc (.cells #[] 22)).drew) from (below_lay wx _).drew)
            have HS1 := keep HB1.out.size
            have HLC := keep hlc
            have Z := keep (szs hpl hlc hil hk7 HLen.out)
            have hpos := Z.out.pos
            have hlcz := Z.out.lc
            have hwrap := Z.out.wr1
            have hwrap2 := Z.out.wr2
            have HB := keep (And.intro hil (And.intro hj hk7))
            clear hcl0 hcl himz him HPP E0 HP0 HX1 HX2 HX3 K1 K2 hln hlz hpl hlc hil hj hk7 hl0 hjk
            by_cases hcap : c2 = p + 1
            · have hsl := slice_end gl ol l c2 p Z.out.p1 hcap
              have HN := keep (fun (w : World) => drop_out (w := w) (x := ⟨gl, ol, none⟩) HLen.out hcap HLC.out)
              have hci : (c2 = p + 1) = True := eq_true hcap
              clear hcap
              go_region_held3 (fun w' => SR w' (some ⟨gl, ol, none⟩) (u32s (nums a R))) (first | exact HRow.out | exact HR1.out | exact HR2.out | exact HR3.out)
              (first
              | (refine step_append_own (by rfl) _ _ 34 (by rfl) wx.heap.size 22 i0 (.int .u32 0) 1 4 Try.underlying34 hi0 hz0 hz1 hz2 rfl (by decide) (.slice A5 p c5) p ((u32s (nums a R)).take p) (by rfl) hown5.out ⟨gl, ol, none⟩ (l - (p + 1)) (c2 - (p + 1)) ((u32s (nums a R)).drop (p + 1)) (by rfl) Z.out.dr (HN.out _) (fun u hu => u32s_one _ u (List.mem_of_mem_drop hu)) Z.out.m2 Z.out.b2 hs5.out ?_; intro A6 c6 w6 hown6 hgrow6; have hb6 := keep (hb5.out.grown hgrow6 hs5.out fun g hg => (hown5.out.lt g hg).1); rw [nums_out] at hown6; replace hown6 := keep hown6; clear hgrow6; have HR3 := keep (HRow.out.step hb6.out))
              | (refine step_append_own (by rfl) _ _ 34 (by rfl) wx.heap.size 22 i0 (.int .u32 0) 1 4 Try.underlying34 hi0 hz0 hz1 hz2 rfl (by decide) (.slice (some ⟨wx.heap.size, 0, none⟩) 0 0) 0 [] (by rfl) HO1.out ⟨gl, ol, none⟩ p c2 ((u32s (nums a R)).take p) (by rfl) Z.out.tk (sr_news (sr_take HR1.out p)) (fun u hu => u32s_one _ u (List.mem_of_mem_take hu)) Z.out.m1 Z.out.b1 HS1.out ?_; intro A5 c5 w5 hown5 hgrow5; simp only [Nat.zero_add, List.nil_append] at hown5 ⊢; have hb5 := keep (HB1.out.grown hgrow5 HS1.out fun g hg => (HO1.out.lt g hg).1); have hs5 := keep hb5.out.size; replace hown5 := keep hown5; clear hgrow5; have HR2 := keep (HRow.out.step hb5.out)))
              go_wp2_with fail
              obtain ⟨r1, r2, r3, r4⟩ := round_nums HB.out.1 Z.out.all HB.out.2.2
              exact ⟨⟨R.take p ++ R.drop (p + 1), S2, i + 1, p + (l - (p + 1)), A6, c6, r1, r2, rfl, own_cap hown6.out, r3, len_out HR.out.1 O3.out Z.out.all, M4.out, K3.out.other hb6.out (SR.own hown6.out) (own_apart hown6.out)⟩, r4⟩
            · have hcz := neq_int hcap
              have hsl := slice_from gl ol l c2 p Z.out.p1 hcap
              go_region_held3 (fun w' => SR w' (some ⟨gl, ol, none⟩) (u32s (nums a R))) (first | exact HRow.out | exact HR1.out | exact HR2.out | exact HR3.out)
              (first
              | (refine step_append_own (by rfl) _ _ 34 (by rfl) wx.heap.size 22 i0 (.int .u32 0) 1 4 Try.underlying34 hi0 hz0 hz1 hz2 rfl (by decide) (.slice A5 p c5) p ((u32s (nums a R)).take p) (by rfl) hown5.out ⟨gl, ol + (p + 1), none⟩ (l - (p + 1)) (c2 - (p + 1)) ((u32s (nums a R)).drop (p + 1)) (by rfl) Z.out.dr (sr_from HR2.out (p + 1)) (fun u hu => u32s_one _ u (List.mem_of_mem_drop hu)) Z.out.m2 Z.out.b2 hs5.out ?_; intro A6 c6 w6 hown6 hgrow6; have hb6 := keep (hb5.out.grown hgrow6 hs5.out fun g hg => (hown5.out.lt g hg).1); rw [nums_out] at hown6; replace hown6 := keep hown6; clear hgrow6; have HR3 := keep (HRow.out.step hb6.out))
              | (refine step_append_own (by rfl) _ _ 34 (by rfl) wx.heap.size 22 i0 (.int .u32 0) 1 4 Try.underlying34 hi0 hz0 hz1 hz2 rfl (by decide) (.slice (some ⟨wx.heap.size, 0, none⟩) 0 0) 0 [] (by rfl) HO1.out ⟨gl, ol, none⟩ p c2 ((u32s (nums a R)).take p) (by rfl) Z.out.tk (sr_news (sr_take HR1.out p)) (fun u hu => u32s_one _ u (List.mem_of_mem_take hu)) Z.out.m1 Z.out.b1 HS1.out ?_; intro A5 c5 w5 hown5 hgrow5; simp only [Nat.zero_add, List.nil_append] at hown5 ⊢; have hb5 := keep (HB1.out.grown hgrow5 HS1.out fun g hg => (HO1.out.lt g hg).1); have hs5 := keep hb5.out.size; replace hown5 := keep hown5; clear hgrow5; have HR2 := keep (HRow.out.step hb5.out)))
              go_wp2_with fail
              obtain ⟨r1, r2, r3, r4⟩ := round_nums HB.out.1 Z.out.all HB.out.2.2
              exact ⟨⟨R.take p ++ R.drop (p + 1), S2, i + 1, p + (l - (p + 1)), A6, c6, r1, r2, rfl, own_cap hown6.out, r3, len_out HR.out.1 O3.out Z.out.all, M4.out, K3.out.other hb6.out (SR.own hown6.out) (own_apart hown6.out)⟩, r4⟩
        · obtain rfl : l = 0 := by omega
          obtain rfl : i = j := by omega
          have hR : R = [] := List.eq_nil_of_length_eq_zero HR.out.1
          subst hR
          obtain ⟨f1, f2, f3⟩ := HR.out.2.1.all
          have FF := keep (show s.f = ((a + i) % 4294967296 - 1) % 4294967296 from by rw [f1]; unfold Go.Proofs.Ytidolhhipdhknaa.wr; omega)
          have FL := keep f2
          have FT := keep f3
          have K := keep HR.out.2.2.kept
          have hi7 := hk7
          have HI := keep (And.intro hj hk7)
          clear f1 f2 f3 hj hil
          go_wp2_with fail
          refine (Cum_kept K.out).mono ?_
          rintro e w' ⟨rfl, rfl⟩
          rw [FF.out]
          go_wp2_with fail
          refine (Len_kept K.out).mono ?_
          rintro e w' ⟨rfl, rfl⟩
          rw [FL.out]
          go_wp2_with fail
          refine (Blocks_kept sort_twelve K.out (by rw [FL.out]; decide)).mono ?_
          rintro e wy ⟨A8, c8, rfl, _, K8, _⟩
          rw [show (runs s.L).length = 0 by rw [FL.out]; rfl]
          replace K8 := keep K8
          go_wp2_with fail
          refine (Dups_kept K8.out).mono ?_
          rintro e wz ⟨A9, c9, rfl, _, K9⟩
          rw [FT.out]
          replace K9 := keep K9
          go_wp2_with fail
          all_goals
            go_ret
            refine ⟨ret_bool ?_, K9.out.below⟩
            first
              | exact min_big (by assumption)
              | exact min_small (by assumption)
end Go.Proofs.Ytidolhhipdhknaa
