/- Package sendq's iterators: in, due, and the library's Values: what they hand on, place by place. -/
import Derived.Test.YtbkepkiaabeliaaQ4
import Derived.RangeFuncBox
import Derived.Shelf.RegionOpen
import Derived.OwnWalkIn
import Derived.TacticsInMore
import Derived.LoopNIn
import Derived.LoopIn
import Derived.RegionIn
namespace Go.Proofs.Ytbkepkiaabeliaa
open Go.RowKit
attribute [local go_sem] Oper.semAt_some
set_option linter.unusedVariables false

theorem in_any (s1 : Option Addr) (s2 s3 : Nat) (t1 : Option Addr) (t2 t3 : Nat) (w : World) :
    Calls Try.prog 54 #[.slice s1 s2 s3, .slice t1 t2 t3] w fun e w' => e = .returned (.func (.func 78) #[] #[.pointer (some ⟨w.heap.size, 0, none⟩), .pointer (some ⟨w.heap.size + 1, 0, none⟩)]) ∧ w' = (w.alloc (.cells #[.slice s1 s2 s3] 70)).alloc (.cells #[.slice t1 t2 t3] 58) := by
  go_enter Try.func54, Try.ntmps54
  go_wp2
  go_ret
  exact ⟨rfl, rfl⟩
/-! ### slices.Contains at numbers -/
theorem Index_any (A : Option Addr) (c : Nat) (l : List Int) (x : Int) (w : World) (h : SR w A (l.map (Value.int .i64))) (hl : l.length ≤ 1000) :
    Calls Try.prog 86 #[.slice A l.length c, .int .i64 x] w fun e w' => (∃ z : Int, e = .returned (.int .i64 z) ∧ Hid (0 ≤ z ↔ x ∈ l)) ∧ w = w' := by
  have H := keep h
  clear h
  go_enter Try.func86, Try.ntmps86
  go_wp2
  go_loop [5, 8] (fun _ i => ∃ j : Nat, j ≤ l.length ∧ i = .int .i64 j ∧ Hid (x ∉ l.take j)) (fun _ i => l.length - (intOf i).toNat)
  case atStart => exact ⟨0, Nat.zero_le _, rfl, keep (by simp)⟩
  case round =>
    obtain ⟨j, hj, rfl, hno⟩ := hrel
    by_cases hlt : j < l.length
    · obtain ⟨b, o, rfl, hbl, hc⟩ := H.out.at_ (j := j) (by simpa using hlt)
      rw [List.getElem_map] at hc
      obtain ⟨y, hy⟩ : ∃ y, l[j] = y := ⟨_, rfl⟩
      rw [hy] at hc
      have HY := keep hy
      clear hy
      by_cases hxy : x = y
      · subst hxy
        go_wp2
        go_ret
        have hm : x ∈ l := by rw [← HY.out]; exact List.getElem_mem _
        exact ⟨⟨_, rfl, keep ⟨fun _ => hm, fun _ => by omega⟩⟩, rfl⟩
      · have hxy' : (x == y) = false := by simpa using hxy
        have HN := keep hxy
        clear hxy
        go_wp2
        go_round
        case rel =>
          refine ⟨j + 1, by omega, by go_num, keep ?_⟩
          rw [List.take_add_one, List.getElem?_eq_getElem hlt, HY.out]
          intro hm
          rcases List.mem_append.1 hm with hm | hm
          · exact hno.out hm
          · simp at hm
            exact HN.out hm
        case measure => simp [intOf]; omega
    · obtain rfl : l.length = j := by omega
      go_wp2
      go_ret
      have hno := hno.out
      rw [List.take_of_length_le (Nat.le_refl _)] at hno
      exact ⟨⟨_, rfl, keep ⟨fun h => absurd h (by decide), fun h => absurd h hno⟩⟩, rfl⟩
theorem Contains_any (A : Option Addr) (c : Nat) (l : List Int) (x : Int) (w : World) (h : SR w A (l.map (Value.int .i64))) (hl : l.length ≤ 1000) :
    Calls Try.prog 79 #[.slice A l.length c, .int .i64 x] w fun e w' => e = .returned (.bool (decide (x ∈ l))) ∧ w = w' := by
  have K := keep (Index_any A c l x w h hl)
  clear h hl
  go_enter Try.func79, Try.ntmps79
  go_wp2_with (go_at_call 86; refine K.out.mono ?_; rintro e w' ⟨⟨z, rfl, hz⟩, rfl⟩)
  go_ret
  exact ⟨ret_bool (decide_eq_decide.2 hz.out), rfl⟩
/-! ### in -/
/-- What in's iterator must be able to read: its two boxes, the pointers, the states asked for, each entry's state. -/
structure InOwn (Bd Bs : Nat) (s t : SL) (ps : List Nat) (sts : List Int) (A : World) : Prop where
  bd : A.cell? ⟨Bd, 0, none⟩ = some (.slice s.1 s.2.1 s.2.2)
  bs : A.cell? ⟨Bs, 0, none⟩ = some (.slice t.1 t.2.1 t.2.2)
  sn : s.2.1 = ps.length
  tn : t.2.1 = sts.length
  rd : SR A s.1 (ps.map fun p => Value.pointer (some ⟨p, 0, none⟩))
  ra : SR A t.1 (sts.map (Value.int .i64))
  st : ∀ p ∈ ps, ∃ x, A.cell? ⟨p, 13, none⟩ = some (.int .i64 x)
def InX (ps : List Nat) (sts : List Int) (i : Nat) (A : World) : Prop := ∃ p x, ps[i]? = some p ∧ A.cell? ⟨p, 13, none⟩ = some (.int .i64 x) ∧ x ∈ sts
def encP (ps : List Nat) (i : Nat) : Array Value := #[.pointer (some ⟨ps.getD i 0, 0, none⟩)]
set_option maxRecDepth 100000 in
set_option maxHeartbeats 1000000 in
theorem in1_seq (n : Nat) (hn1 : 1 ≤ n) (Bd Bs : Nat) (s t : SL) (ps : List Nat) (sts : List Int) (hps : ps.length ≤ 1024) (hsts : sts.length ≤ 1000) (Kp : World → World → Prop) (w : World) :
    SeqIx Fence.wide n Try.prog 78 #[.pointer (some ⟨Bd, 0, none⟩), .pointer (some ⟨Bs, 0, none⟩)] ps.length (encP ps) (InX ps sts) (fun _ => InOwn Bd Bs s t ps sts) Kp w := by
  intro l K Kx W hW hK hKx hO hskip hY h0
  have hmix : Try.prog.follows .mixedOrders = true := by kernel_rfl
  have F1 : Fence.wide.fn 79 := trivial
  have HK := keep hK
  have H0 := keep h0
  have HO := keep hO
  have HS := keep hskip
  have HY := keep hY
  have HSZ := keep hsts
  clear hK h0 hO hskip hY hKx hW hsts
  have c1 := (HO.out 0 W H0.out).bd
  obtain ⟨s1, s2, s3⟩ := s
  obtain ⟨t1, t2, t3⟩ := t
  dsimp only at c1
  have hs2 : s2 = ps.length := (HO.out 0 W H0.out).sn
  subst hs2
  refine callsIn_of_wp Try.func78 rfl trivial ?_ rfl
  simp only [Try.ntmps78, List.size_toArray, List.length_cons, List.length_nil, Nat.reduceAdd, Nat.reduceSub, Array.replicate_succ, Array.replicate_zero, List.push_toArray, List.append_toArray, List.nil_append, List.cons_append]
  gi_wp2
  gi_loopw [5, 8] (fun _ i wr => ∃ j : Nat, j ≤ ps.length ∧ i = .int .i64 j ∧ Hid (K j wr)) (fun _ i _ => ps.length - (intOf i).toNat)
  case atStart => exact ⟨0, Nat.zero_le _, rfl, H0⟩
  case round =>
    obtain ⟨j, hj, rfl, HJ⟩ := hrel
    by_cases hlt : j < ps.length
    · have O := HO.out j wr HJ.out
      have c2 := O.bs
      obtain ⟨b, o, hA, hbl, hcp⟩ := O.rd.at_ (j := j) (by simpa using hlt)
      dsimp only at hA
      subst hA
      rw [List.getElem_map] at hcp
      obtain ⟨p, hp⟩ : ∃ p, ps[j] = p := ⟨_, rfl⟩
      rw [hp] at hcp
      obtain ⟨x, hx⟩ := O.st p (by rw [← hp]; exact List.getElem_mem _)
      have hpj : ps[j]? = some p := by rw [List.getElem?_eq_getElem hlt, hp]
      have HP := keep hpj
      have O' := keep O
      clear hp hpj O c1
      dsimp only at c2
      have htn : t2 = sts.length := O'.out.tn
      subst htn
      have KC := fun w1 (h : SR w1 t1 (sts.map (Value.int .i64))) => Contains_any t1 t3 sts x w1 h HSZ.out
      have HTS := keep O'.out.ra
      by_cases hm : x ∈ sts
      · simp only [decide_eq_true hm] at KC
        replace KC := keep KC
        have hJd := HK.out j wr wr.drew (StN.drew _ wr) HJ.out
        obtain ⟨fn, tmps, assign, body, hy, hR⟩ := HY.out j wr.drew hlt hJd ⟨p, x, HP.out, hx, hm⟩
        have hge : ps.getD j 0 = p := by rw [List.getD_eq_getElem?_getD, HP.out]; rfl
        unfold encP at hy
        rw [hge] at hy
        have HR := keep (hR.mono (R' := fun e W' => ∃ r : Bool, e = .returned (.bool r) ∧ Hid (if r = true then K (j + 1) W' else Kx W')) (by
          rintro e W' (⟨h1, h2, _⟩ | ⟨h1, h2, _⟩)
          · exact ⟨true, h1, keep (by rw [if_pos rfl]; exact h2)⟩
          · exact ⟨false, h1, keep (by rw [if_neg (by decide)]; exact h2)⟩))
        clear hm hge hJd hR
        gi_wp2
        gi_region_with_o (first
          | (gi_at_call 79; refine (callsIn_wide.2 (KC.out _ (HTS.out.step (Below.refl _ wr).drew))).mono ?_; rintro e w' ⟨rfl, rfl⟩)
          | (refine HR.out.mono ?_; rintro e W3 ⟨r, rfl, hK3⟩))
        all_goals
          cases r
          · have hx3 := hK3.out
            rw [if_neg (by decide)] at hx3
            replace hx3 := keep hx3
            clear hK3
            gi_wp2
            exact bodyPost_ret (results_none rfl _ _ _) rfl ⟨⟨_, rfl⟩, .inr hx3.out⟩
          · have hx3 := hK3.out
            rw [if_pos rfl] at hx3
            replace hx3 := keep hx3
            clear hK3
            gi_wp2
            go_roundw
            case rel => exact ⟨j + 1, by omega, by go_num, hx3⟩
            case measure => simp [intOf]; omega
      · simp only [decide_eq_false hm] at KC
        replace KC := keep KC
        have HK1 := keep (HS.out j wr hlt HJ.out (by
          rintro ⟨p', x', h1, h2, h3⟩
          rw [HP.out] at h1
          injection h1 with h1
          subst h1
          rw [hx] at h2
          injection h2 with h2
          injection h2 with _ h2
          subst h2
          exact hm h3))
        clear hm
        gi_wp2
        refine wpIn_wide.2 ?_
        go_quiet ((go_at_call 79; exact Calls.quiet_of_same ((KC.out _ (HTS.out.step (below_drewN (Below.refl _ wr) _))).mono fun e w' h => ⟨h.1, h.2.symm⟩)))
        gi_wp2
        go_roundw
        case rel => exact ⟨j + 1, by omega, by go_num, keep (HK.out _ _ _ (StN.drewN _ wr _) HK1.out)⟩
        case measure => simp [intOf]; omega
    · obtain rfl : ps.length = j := by omega
      gi_wp2
      go_end0
      exact ⟨⟨_, rfl⟩, .inl HJ.out⟩
/-! ### slices.Values -/
structure VaOwn (Bd : Nat) (s : SL) (ps : List Nat) (A : World) : Prop where
  bd : A.cell? ⟨Bd, 0, none⟩ = some (.slice s.1 s.2.1 s.2.2)
  sn : s.2.1 = ps.length
  rd : SR A s.1 (ps.map fun p => Value.pointer (some ⟨p, 0, none⟩))
theorem Values_any (s1 : Option Addr) (s2 s3 : Nat) (w : World) :
    Calls Try.prog 57 #[.slice s1 s2 s3] w fun e w' => e = .returned (.func (.func 81) #[] #[.pointer (some ⟨w.heap.size, 0, none⟩)]) ∧ w' = w.alloc (.cells #[.slice s1 s2 s3] 70) := by
  go_enter Try.func57, Try.ntmps57
  go_wp2
  go_ret
  exact ⟨rfl, rfl⟩
set_option maxRecDepth 100000 in
set_option maxHeartbeats 1000000 in
theorem values1_seq (n : Nat) (hn1 : 1 ≤ n) (Bd : Nat) (s : SL) (ps : List Nat) (hps : ps.length ≤ 1024) (Kp : World → World → Prop) (w : World) :
    SeqIx Fence.wide n Try.prog 81 #[.pointer (some ⟨Bd, 0, none⟩)] ps.length (encP ps) (fun _ _ => True) (fun _ => VaOwn Bd s ps) Kp w := by
  intro l K Kx W hW hK hKx hO hskip hY h0
  have HK := keep hK
  have H0 := keep h0
  have HO := keep hO
  have HY := keep hY
  clear hK h0 hO hskip hY hKx hW
  have c1 := (HO.out 0 W H0.out).bd
  obtain ⟨s1, s2, s3⟩ := s
  dsimp only at c1
  have hs2 : s2 = ps.length := (HO.out 0 W H0.out).sn
  subst hs2
  refine callsIn_of_wp Try.func81 rfl trivial ?_ rfl
  simp only [Try.ntmps81, List.size_toArray, List.length_cons, List.length_nil, Nat.reduceAdd, Nat.reduceSub, Array.replicate_succ, Array.replicate_zero, List.push_toArray, List.append_toArray, List.nil_append, List.cons_append]
  gi_wp2
  gi_loopw [4, 7] (fun _ i wr => ∃ j : Nat, j ≤ ps.length ∧ i = .int .i64 j ∧ Hid (K j wr)) (fun _ i _ => ps.length - (intOf i).toNat)
  case atStart => exact ⟨0, Nat.zero_le _, rfl, H0⟩
  case round =>
    obtain ⟨j, hj, rfl, HJ⟩ := hrel
    clear c1
    by_cases hlt : j < ps.length
    · have O := HO.out j wr HJ.out
      obtain ⟨b, o, hA, hbl, hcp⟩ := O.rd.at_ (j := j) (by simpa using hlt)
      dsimp only at hA
      subst hA
      rw [List.getElem_map] at hcp
      obtain ⟨p, hp⟩ : ∃ p, ps[j] = p := ⟨_, rfl⟩
      rw [hp] at hcp
      have hge : ps.getD j 0 = p := by rw [List.getD_eq_getElem?_getD, List.getElem?_eq_getElem hlt, hp]; rfl
      obtain ⟨fn, tmps, assign, body, hy, hR⟩ := HY.out j wr hlt HJ.out trivial
      unfold encP at hy
      rw [hge] at hy
      have HR := keep (hR.mono (R' := fun e W' => ∃ r : Bool, e = .returned (.bool r) ∧ Hid (if r = true then K (j + 1) W' else Kx W')) (by
        rintro e W' (⟨h1, h2, _⟩ | ⟨h1, h2, _⟩)
        · exact ⟨true, h1, keep (by rw [if_pos rfl]; exact h2)⟩
        · exact ⟨false, h1, keep (by rw [if_neg (by decide)]; exact h2)⟩))
      clear hge hp hR O
      gi_wp2
      refine HR.out.mono ?_
      rintro e W3 ⟨r, rfl, hK3⟩
      cases r
      · have hx3 := hK3.out
        rw [if_neg (by decide)] at hx3
        replace hx3 := keep hx3
        clear hK3
        gi_wp2
        exact bodyPost_ret (results_none rfl _ _ _) rfl ⟨⟨_, rfl⟩, .inr hx3.out⟩
      · have hx3 := hK3.out
        rw [if_pos rfl] at hx3
        replace hx3 := keep hx3
        clear hK3
        gi_wp2
        go_roundw
        case rel => exact ⟨j + 1, by omega, by go_num, hx3⟩
        case measure => simp [intOf]; omega
    · obtain rfl : ps.length = j := by omega
      gi_wp2
      go_end0
      exact ⟨⟨_, rfl⟩, .inl HJ.out⟩
end Go.Proofs.Ytbkepkiaabeliaa
