/- KAG of the stage: texts Q4, Q5, joined. -/
import Derived.Test.YtffjdknmfmlfnaaKAF
import Derived.Test.YtffjdknmfmlfnaaKAA
import Derived.Deep.QuietTactic
import Derived.BigQuiet
import Derived.RangeFuncBox
import Derived.Shelf.RegionOpen
import Derived.OwnWalkIn
import Derived.TacticsInMore
import Derived.LoopNIn
import Derived.LoopIn
import Derived.RegionIn
set_option linter.unusedSimpArgs false
set_option linter.unusedVariables false
namespace Go.Proofs.Ytffjdknmfmlfnaa
section
open Go.RowKit Go.Maps

def lenI (q : Qm) : Int := (q.es.length : Int)
/-- The number ahead of the first entry. -/
def flr (q : Qm) : Int := (q.nx - (q.es.length : Int) - 1) % 4294967296
theorem flr_in (q : Qm) : 0 ≤ flr q ∧ flr q < 4294967296 := by unfold flr; omega
theorem list_nil (w : World) : Calls Try.prog 39 #[.pointer none] w fun e w' => e = .returned (.slice none 0 0) ∧ w = w' := by
  go_enter Try.func39, Try.ntmps39
  go_wp2
  go_ret
  exact ⟨rfl, rfl⟩
theorem list_at (b : Nat) (s1 : Option Addr) (s2 s3 : Nat) (w : World) (c0 : w.cell? ⟨b, 0, none⟩ = some (.slice s1 s2 s3)) : Calls Try.prog 39 #[.pointer (some ⟨b, 0, none⟩)] w fun e w' => e = .returned (.slice s1 s2 s3) ∧ w = w' := by
  go_enter Try.func39, Try.ntmps39
  go_wp2
  go_ret
  exact ⟨rfl, rfl⟩
theorem Floor_nil (w : World) : Calls Try.prog 14 #[.pointer none] w fun e w' => e = .returned (.int .u32 0) ∧ w = w' := by
  go_enter Try.func14, Try.ntmps14
  go_wp2
  go_ret
  exact ⟨rfl, rfl⟩
theorem floor_num (nx : Int) (n : Nat) (h : n ≤ 1024) : IntKind.u32.wrap (IntKind.u32.wrap (nx - IntKind.u32.wrap (n : Int)) - 1) = (nx - (n : Int) - 1) % 4294967296 := by
  rw [wrap_u32, wrap_u32, wrap_u32]
  omega
theorem Floor_at (b : Nat) (s1 : Option Addr) (s2 s3 : Nat) (nx : Int) (w : World) (c0 : w.cell? ⟨b, 0, none⟩ = some (.slice s1 s2 s3)) (c1 : w.cell? ⟨b, 1, none⟩ = some (.int .u32 nx)) (hn : s2 ≤ 1024) :
    Calls Try.prog 14 #[.pointer (some ⟨b, 0, none⟩)] w fun e w' => e = .returned (.int .u32 ((nx - (s2 : Int) - 1) % 4294967296)) ∧ ∃ k, w' = w.drewN k := by
  have HF := keep (show ((nx - (s2 : Int)) % 4294967296 - 1) % 4294967296 = (nx - (s2 : Int) - 1) % 4294967296 by omega)
  clear hn
  go_enter Try.func14, Try.ntmps14
  go_wp2
  go_quiet (fail)
  go_wp2
  go_ret
  exact ⟨ret_int HF.out, _, rfl⟩
theorem Floor_any {w : World} {G : Gq} {q : Qm} (h : QA w G q) : Calls Try.prog 14 #[.pointer (some ⟨G.b, 0, none⟩)] w fun e w' => e = .returned (.int .u32 (flr q)) ∧ ∃ k, w' = w.drewN k := by
  have := Floor_at G.b _ _ _ _ w h.b0.1 h.b0.2.1 (by rw [h.n]; exact h.le)
  rw [h.n] at this
  exact this
theorem Next_nil (w : World) : Calls Try.prog 31 #[.pointer none] w fun e w' => e = .returned (.int .u32 0) ∧ w = w' := by
  go_enter Try.func31, Try.ntmps31
  go_wp2
  go_ret
  exact ⟨rfl, rfl⟩
theorem Next_any {w : World} {G : Gq} {q : Qm} (h : QA w G q) : Calls Try.prog 31 #[.pointer (some ⟨G.b, 0, none⟩)] w fun e w' => e = .returned (.int .u32 q.nx) ∧ w = w' := by
  have c1 := h.b0.2.1
  clear h
  go_enter Try.func31, Try.ntmps31
  go_wp2
  go_ret
  exact ⟨rfl, rfl⟩
theorem Len_nil (w : World) : Calls Try.prog 15 #[.pointer none] w fun e w' => e = .returned (.int .i64 0) ∧ w = w' := by
  go_enter Try.func15, Try.ntmps15
  go_wp2_with (go_at_call 39; refine (list_nil _).mono ?_; rintro e w' ⟨rfl, rfl⟩)
  go_ret
  exact ⟨rfl, rfl⟩
theorem Len_any {w : World} {G : Gq} {q : Qm} (h : QA w G q) : Calls Try.prog 15 #[.pointer (some ⟨G.b, 0, none⟩)] w fun e w' => e = .returned (.int .i64 (q.es.length : Int)) ∧ w = w' := by
  have K := keep (list_at G.b _ _ _ w h.b0.1)
  have HN := keep h.n
  clear h
  go_enter Try.func15, Try.ntmps15
  go_wp2_with (go_at_call 39; refine K.out.mono ?_; rintro e w' ⟨rfl, rfl⟩)
  go_ret
  exact ⟨ret_int (by rw [HN.out]), rfl⟩
/-! ### upTo -/
/-- How many entries there are up to a number; none if it is beyond. -/
def stp (q : Qm) (n : Int) : Nat := if dist32 (flr q) n ≤ (q.es.length : Int) then (dist32 (flr q) n).toNat else 0
theorem stp_le (q : Qm) (n : Int) : stp q n ≤ q.es.length := by
  unfold stp
  have := dist32_lo (flr q) n
  split <;> omega
theorem len_u32 (n : Nat) (h : n ≤ 1024) : IntKind.u32.wrap (n : Int) = (n : Int) := by rw [wrap_u32]; omega
theorem upTo_nil (n : Int) (w : World) : Calls Try.prog 56 #[.pointer none, .int .u32 n] w fun e w' => (∃ A c, e = .returned (.slice A 0 c)) ∧ w = w' := by
  have hd := dist32_lo 0 n
  have hu : IntKind.u32.wrap (0 : Int) = 0 := by decide
  obtain ⟨d, hd'⟩ : ∃ d, d = dist32 0 n := ⟨_, rfl⟩
  rw [← hd'] at hd
  have K := fun w => Dist_any 0 n w
  rw [← hd'] at K
  replace K := keep K
  clear hd'
  by_cases h0 : 0 < d
  · go_enter Try.func56, Try.ntmps56
    go_wp2_with (first
      | (go_at_call 39; refine (list_nil _).mono ?_; rintro e w' ⟨rfl, rfl⟩)
      | (go_at_call 14; refine (Floor_nil _).mono ?_; rintro e w' ⟨rfl, rfl⟩)
      | (go_at_call 71; refine (K.out _).mono ?_; rintro e w' ⟨rfl, rfl⟩))
    go_ret
    exact ⟨⟨_, _, rfl⟩, rfl⟩
  · obtain rfl : d = 0 := by omega
    clear h0 hd
    go_enter Try.func56, Try.ntmps56
    go_wp2_with (first
      | (go_at_call 39; refine (list_nil _).mono ?_; rintro e w' ⟨rfl, rfl⟩)
      | (go_at_call 14; refine (Floor_nil _).mono ?_; rintro e w' ⟨rfl, rfl⟩)
      | (go_at_call 71; refine (K.out _).mono ?_; rintro e w' ⟨rfl, rfl⟩))
    go_ret
    exact ⟨⟨_, _, rfl⟩, rfl⟩
theorem upTo_any {w : World} {G : Gq} {q : Qm} (h : QA w G q) (n : Int) :
    Calls Try.prog 56 #[.pointer (some ⟨G.b, 0, none⟩), .int .u32 n] w fun e w' => (∃ A c, e = .returned (.slice A (stp q n) c) ∧ stp q n ≤ c ∧ (stp q n ≠ 0 → A = G.s.1)) ∧ ∃ k, w' = w.drewN k := by
  have HL := keep (list_at G.b _ _ _ w h.b0.1)
  have HF := keep (Floor_any h)
  have hd := dist32_lo (flr q) n
  have hd2 := dist32_hi (flr q) n
  have hle := h.le
  have hu := len_u32 G.s.2.1 (by rw [h.n]; exact hle)
  have hn := h.n
  have hc := h.sr.1
  obtain ⟨d, hd'⟩ : ∃ d, d = dist32 (flr q) n := ⟨_, rfl⟩
  have hst : stp q n = if d ≤ (q.es.length : Int) then d.toNat else 0 := by rw [hd']; rfl
  have K := fun w => Dist_any (flr q) n w
  rw [← hd'] at K hd hd2
  generalize flr q = f at HF K
  generalize stp q n = s at hst ⊢
  rw [← hn] at hst hle
  replace K := keep K
  clear hd' h hn
  obtain ⟨b, ⟨s1, s2, s3⟩, O, F⟩ := G
  dsimp only at *
  by_cases h0 : (s2 : Int) < d
  · have HS : Hid (s = 0) := by rw [hst, if_neg (by omega)]; exact keep rfl
    clear hst
    have HB := keep (And.intro hd hd2)
    clear hd hd2
    go_enter Try.func56, Try.ntmps56
    go_wp2_with (first
      | (go_at_call 39; refine HL.out.mono ?_; rintro e w' ⟨rfl, rfl⟩)
      | (go_at_call 14; refine HF.out.mono ?_; rintro e w' ⟨rfl, k, rfl⟩)
      | (go_at_call 71; refine (K.out _).mono ?_; rintro e w' ⟨rfl, rfl⟩))
    go_ret
    rw [HS.out]
    exact ⟨⟨_, _, rfl, Nat.zero_le _, fun h => absurd rfl h⟩, _, rfl⟩
  · obtain ⟨m, rfl⟩ : ∃ m : Nat, d = (m : Int) := ⟨d.toNat, by omega⟩
    have HS : Hid (s = m) := by rw [hst, if_pos (by omega)]; exact keep (by simp)
    have hm : m ≤ s3 := by omega
    have hm2 : (m : Int) ≤ (s3 : Int) := by omega
    clear hst
    have HB := keep (And.intro hd hd2)
    clear hd hd2
    go_enter Try.func56, Try.ntmps56
    go_wp2_with (first
      | (go_at_call 39; refine HL.out.mono ?_; rintro e w' ⟨rfl, rfl⟩)
      | (go_at_call 14; refine HF.out.mono ?_; rintro e w' ⟨rfl, k, rfl⟩)
      | (go_at_call 71; refine (K.out _).mono ?_; rintro e w' ⟨rfl, rfl⟩))
    go_ret
    rw [HS.out]
    exact ⟨⟨_, _, rfl, hm, fun h => rfl⟩, _, rfl⟩
/-! ### Of one entry -/
theorem octets_at (p : Nat) (A : Option Addr) (n c : Nat) (w : World) (h : w.cell? ⟨p, 11, none⟩ = some (.slice A n c)) : Calls Try.prog 40 #[.pointer (some ⟨p, 0, none⟩)] w fun e w' => e = .returned (.int .i64 (n : Int)) ∧ w = w' := by
  go_enter Try.func40, Try.ntmps40
  go_wp2
  go_ret
  exact ⟨rfl, rfl⟩
theorem waits_at (p : Nat) (s : Int) (w : World) (h : w.cell? ⟨p, 13, none⟩ = some (.int .i64 s)) : Calls Try.prog 65 #[.pointer (some ⟨p, 0, none⟩)] w fun e w' => e = .returned (.bool (s == 0)) ∧ w = w' := by
  go_enter Try.func65, Try.ntmps65
  go_wp2
  go_ret
  exact ⟨rfl, rfl⟩
theorem open_at (p : Nat) (s : Int) (w : World) (h : w.cell? ⟨p, 13, none⟩ = some (.int .i64 s)) : Calls Try.prog 77 #[.pointer (some ⟨p, 0, none⟩)] w fun e w' => e = .returned (.bool (s != 3 && s != 4)) ∧ w = w' := by
  by_cases h3 : s = 3
  · subst h3
    go_enter Try.func77, Try.ntmps77
    go_wp2
    all_goals (try go_quiet (fail))
    all_goals go_wp2
    all_goals (go_ret; exact ⟨rfl, rfl⟩)
  · have h3' : (s != 3) = true := by simpa using h3
    clear h3
    go_enter Try.func77, Try.ntmps77
    go_wp2
    all_goals (try go_quiet (fail))
    all_goals go_wp2
    all_goals (go_ret; exact ⟨by rw [h3']; rfl, rfl⟩)
theorem send_at (p : Nat) (now sn a1 a2 a3 : Int) (w : World) (h13 : w.cell? ⟨p, 13, none⟩ = some (.int .i64 a1)) (h14 : w.cell? ⟨p, 14, none⟩ = some (.int .i64 sn)) (h15 : w.cell? ⟨p, 15, none⟩ = some (.int .i64 a2)) (h16 : w.cell? ⟨p, 16, none⟩ = some (.int .i64 a3))
    (f13 : w.frozen? ⟨p, 13, none⟩ = false) (f14 : w.frozen? ⟨p, 14, none⟩ = false) (f15 : w.frozen? ⟨p, 15, none⟩ = false) (f16 : w.frozen? ⟨p, 16, none⟩ = false) :
    Calls Try.prog 41 #[.pointer (some ⟨p, 0, none⟩), .int .i64 now] w fun e w' => e = .returned (.tuple #[]) ∧ w' = (((w.setCell ⟨p, 13, none⟩ (.int .i64 1)).setCell ⟨p, 15, none⟩ (.int .i64 now)).setCell ⟨p, 16, none⟩ (.int .i64 0)).setCell ⟨p, 14, none⟩ (.int .i64 (wrap64 (sn + 1))) := by
  go_enter Try.func41, Try.ntmps41
  go_wp2

  exact bodyPost_end (results_none rfl _ _ _) rfl ⟨rfl, rfl⟩
end
section
open Go.RowKit
attribute [local go_sem] Oper.semAt_some

theorem in_any (s1 : Option Addr) (s2 s3 : Nat) (t1 : Option Addr) (t2 t3 : Nat) (w : World) :
    Calls Try.prog 44 #[.slice s1 s2 s3, .slice t1 t2 t3] w fun e w' => e = .returned (.func (.func 68) #[] #[.pointer (some ⟨w.heap.size, 0, none⟩), .pointer (some ⟨w.heap.size + 1, 0, none⟩)]) ∧ w' = (w.alloc (.cells #[.slice s1 s2 s3] 54)).alloc (.cells #[.slice t1 t2 t3] 115) := by
  go_enter Try.func44, Try.ntmps44
  go_wp2
  go_ret
  exact ⟨rfl, rfl⟩
/-! ### slices.Contains at numbers -/
theorem Index_any (A : Option Addr) (c : Nat) (l : List Int) (x : Int) (w : World) (h : SR w A (l.map (Value.int .i64))) (hl : l.length ≤ 1000) :
    Calls Try.prog 78 #[.slice A l.length c, .int .i64 x] w fun e w' => (∃ z : Int, e = .returned (.int .i64 z) ∧ Hid (0 ≤ z ↔ x ∈ l)) ∧ w = w' := by
  have H := keep h
  clear h
  go_enter Try.func78, Try.ntmps78
  go_wp2
  go_loop [5, 8] (fun _ i => ∃ j : Nat, j ≤ l.length ∧ i = .int .i64 j ∧ Hid (x ∉ l.take j)) (fun _ i => l.length - (intOf i).toNat)
  case atStart => exact ⟨0, Nat.zero_le _, rfl, keep (by simp)⟩
  case round =>
    obtain ⟨j, hj, rfl, hno⟩ := hrel
    by_cases hlt : j < l.length
    · obtain ⟨b, o, rfl, hbl, hc⟩ := H.out.at_ (j := j) (by simpa using hlt)
      rw [List.getElem_map] at hc
      obtain ⟨y, hy⟩ : ∃ y, l[j] = y := ⟨_, rfl⟩
      rw [hy] at hc
      have HY := keep hy
      clear hy
      by_cases hxy : x = y
      · subst hxy
        go_wp2
        go_ret
        have hm : x ∈ l := by rw [← HY.out]; exact List.getElem_mem _
        exact ⟨⟨_, rfl, keep ⟨fun _ => hm, fun _ => by omega⟩⟩, rfl⟩
      · have hxy' : (x == y) = false := by simpa using hxy
        have HN := keep hxy
        clear hxy
        go_wp2
        go_round
        case rel =>
          refine ⟨j + 1, by omega, by go_num, keep ?_⟩
          rw [List.take_add_one, List.getElem?_eq_getElem hlt, HY.out]
          intro hm
          rcases List.mem_append.1 hm with hm | hm
          · exact hno.out hm
          · simp at hm
            exact HN.out hm
        case measure => simp [intOf]; omega
    · obtain rfl : l.length = j := by omega
      go_wp2
      go_ret
      have hno := hno.out
      rw [List.take_of_length_le (Nat.le_refl _)] at hno
      exact ⟨⟨_, rfl, keep ⟨fun h => absurd h (by decide), fun h => absurd h hno⟩⟩, rfl⟩
theorem Contains_any (A : Option Addr) (c : Nat) (l : List Int) (x : Int) (w : World) (h : SR w A (l.map (Value.int .i64))) (hl : l.length ≤ 1000) :
    Calls Try.prog 69 #[.slice A l.length c, .int .i64 x] w fun e w' => e = .returned (.bool (decide (x ∈ l))) ∧ w = w' := by
  have K := keep (Index_any A c l x w h hl)
  clear h hl
  go_enter Try.func69, Try.ntmps69
  go_wp2_with (go_at_call 78; refine K.out.mono ?_; rintro e w' ⟨⟨z, rfl, hz⟩, rfl⟩)
  go_ret
  exact ⟨ret_bool (decide_eq_decide.2 hz.out), rfl⟩
/-! ### in -/
/-- What in's iterator must be able to read: its two boxes, the pointers, the states asked for, each entry's state. -/
structure InOwn (Bd Bs : Nat) (s t : SL) (ps : List Nat) (sts : List Int) (A : World) : Prop where
  bd : A.cell? ⟨Bd, 0, none⟩ = some (.slice s.1 s.2.1 s.2.2)
  bs : A.cell? ⟨Bs, 0, none⟩ = some (.slice t.1 t.2.1 t.2.2)
  sn : s.2.1 = ps.length
  tn : t.2.1 = sts.length
  rd : SR A s.1 (ps.map fun p => Value.pointer (some ⟨p, 0, none⟩))
  ra : SR A t.1 (sts.map (Value.int .i64))
  st : ∀ p ∈ ps, ∃ x, A.cell? ⟨p, 13, none⟩ = some (.int .i64 x)
def InX (ps : List Nat) (sts : List Int) (i : Nat) (A : World) : Prop := ∃ p x, ps[i]? = some p ∧ A.cell? ⟨p, 13, none⟩ = some (.int .i64 x) ∧ x ∈ sts
def encP (ps : List Nat) (i : Nat) : Array Value := #[.pointer (some ⟨ps.getD i 0, 0, none⟩)]
set_option maxRecDepth 100000 in
set_option maxHeartbeats 1000000 in
theorem in1_seq (n : Nat) (hn1 : 1 ≤ n) (Bd Bs : Nat) (s t : SL) (ps : List Nat) (sts : List Int) (hps : ps.length ≤ 1024) (hsts : sts.length ≤ 1000) (Kp : World → World → Prop) (w : World) :
    SeqIx Fence.wide n Try.prog 68 #[.pointer (some ⟨Bd, 0, none⟩), .pointer (some ⟨Bs, 0, none⟩)] ps.length (encP ps) (InX ps sts) (fun _ => InOwn Bd Bs s t ps sts) Kp w := by
  intro l K Kx W hW hK hKx hO hskip hY h0
  have hmix : Try.prog.follows .mixedOrders = true := by kernel_rfl
  have F1 : Fence.wide.fn 69 := trivial
  have HK := keep hK
  have H0 := keep h0
  have HO := keep hO
  have HS := keep hskip
  have HY := keep hY
  have HSZ := keep hsts
  clear hK h0 hO hskip hY hKx hW hsts
  have c1 := (HO.out 0 W H0.out).bd
  obtain ⟨s1, s2, s3⟩ := s
  obtain ⟨t1, t2, t3⟩ := t
  dsimp only at c1
  have hs2 : s2 = ps.length := (HO.out 0 W H0.out).sn
  subst hs2
  refine callsIn_of_wp Try.func68 rfl trivial ?_ rfl
  simp only [Try.ntmps68, List.size_toArray, List.length_cons, List.length_nil, Nat.reduceAdd, Nat.reduceSub, Array.replicate_succ, Array.replicate_zero, List.push_toArray, List.append_toArray, List.nil_append, List.cons_append]
  gi_wp2
  gi_loopw [5, 8] (fun _ i wr => ∃ j : Nat, j ≤ ps.length ∧ i = .int .i64 j ∧ Hid (K j wr)) (fun _ i _ => ps.length - (intOf i).toNat)
  case atStart => exact ⟨0, Nat.zero_le _, rfl, H0⟩
  case round =>
    obtain ⟨j, hj, rfl, HJ⟩ := hrel
    by_cases hlt : j < ps.length
    · have O := HO.out j wr HJ.out
      have c2 := O.bs
      obtain ⟨b, o, hA, hbl, hcp⟩ := O.rd.at_ (j := j) (by simpa using hlt)
      dsimp only at hA
      subst hA
      rw [List.getElem_map] at hcp
      obtain ⟨p, hp⟩ : ∃ p, ps[j] = p := ⟨_, rfl⟩
      rw [hp] at hcp
      obtain ⟨x, hx⟩ := O.st p (by rw [← hp]; exact List.getElem_mem _)
      have hpj : ps[j]? = some p := by rw [List.getElem?_eq_getElem hlt, hp]
      have HP := keep hpj
      have O' := keep O
      clear hp hpj O c1
      dsimp only at c2
      have htn : t2 = sts.length := O'.out.tn
      subst htn
      have KC := fun w1 (h : SR w1 t1 (sts.map (Value.int .i64))) => Contains_any t1 t3 sts x w1 h HSZ.out
      have HTS := keep O'.out.ra
      by_cases hm : x ∈ sts
      · simp only [decide_eq_true hm] at KC
        replace KC := keep KC
        have hJd := HK.out j wr wr.drew (StN.drew _ wr) HJ.out
        obtain ⟨fn, tmps, assign, body, hy, hR⟩ := HY.out j wr.drew hlt hJd ⟨p, x, HP.out, hx, hm⟩
        have hge : ps.getD j 0 = p := by rw [List.getD_eq_getElem?_getD, HP.out]; rfl
        unfold encP at hy
        rw [hge] at hy
        have HR := keep (hR.mono (R' := fun e W' => ∃ r : Bool, e = .returned (.bool r) ∧ Hid (if r = true then K (j + 1) W' else Kx W')) (by
          rintro e W' (⟨h1, h2, _⟩ | ⟨h1, h2, _⟩)
          · exact ⟨true, h1, keep (by rw [if_pos rfl]; exact h2)⟩
          · exact ⟨false, h1, keep (by rw [if_neg (by decide)]; exact h2)⟩))
        clear hm hge hJd hR
        gi_wp2
        gi_region_with_o (first
          | (gi_at_call 69; refine (callsIn_wide.2 (KC.out _ (HTS.out.step (Below.refl _ wr).drew))).mono ?_; rintro e w' ⟨rfl, rfl⟩)
          | (refine HR.out.mono ?_; rintro e W3 ⟨r, rfl, hK3⟩))
        all_goals
          cases r
          · have hx3 := hK3.out
            rw [if_neg (by decide)] at hx3
            replace hx3 := keep hx3
            clear hK3
            gi_wp2
            exact bodyPost_ret (results_none rfl _ _ _) rfl ⟨⟨_, rfl⟩, .inr hx3.out⟩
          · have hx3 := hK3.out
            rw [if_pos rfl] at hx3
            replace hx3 := keep hx3
            clear hK3
            gi_wp2
            go_roundw
            case rel => exact ⟨j + 1, by omega, by go_num, hx3⟩
            case measure => simp [intOf]; omega
      · simp only [decide_eq_false hm] at KC
        replace KC := keep KC
        have HK1 := keep (HS.out j wr hlt HJ.out (by
          rintro ⟨p', x', h1, h2, h3⟩
          rw [HP.out] at h1
          injection h1 with h1
          subst h1
          rw [hx] at h2
          injection h2 with h2
          injection h2 with _ h2
          subst h2
          exact hm h3))
        clear hm
        gi_wp2
        refine wpIn_wide.2 ?_
        go_quiet ((go_at_call 69; exact Calls.quiet_of_same ((KC.out _ (HTS.out.step (below_drewN (Below.refl _ wr) _))).mono fun e w' h => ⟨h.1, h.2.symm⟩)))
        gi_wp2
        go_roundw
        case rel => exact ⟨j + 1, by omega, by go_num, keep (HK.out _ _ _ (StN.drewN _ wr _) HK1.out)⟩
        case measure => simp [intOf]; omega
    · obtain rfl : ps.length = j := by omega
      gi_wp2
      go_end0
      exact ⟨⟨_, rfl⟩, .inl HJ.out⟩
/-! ### slices.Values -/
structure VaOwn (Bd : Nat) (s : SL) (ps : List Nat) (A : World) : Prop where
  bd : A.cell? ⟨Bd, 0, none⟩ = some (.slice s.1 s.2.1 s.2.2)
  sn : s.2.1 = ps.length
  rd : SR A s.1 (ps.map fun p => Value.pointer (some ⟨p, 0, none⟩))
theorem Values_any (s1 : Option Addr) (s2 s3 : Nat) (w : World) :
    Calls Try.prog 47 #[.slice s1 s2 s3] w fun e w' => e = .returned (.func (.func 72) #[] #[.pointer (some ⟨w.heap.size, 0, none⟩)]) ∧ w' = w.alloc (.cells #[.slice s1 s2 s3] 54) := by
  go_enter Try.func47, Try.ntmps47
  go_wp2
  go_ret
  exact ⟨rfl, rfl⟩
set_option maxRecDepth 100000 in
set_option maxHeartbeats 1000000 in
theorem values1_seq (n : Nat) (hn1 : 1 ≤ n) (Bd : Nat) (s : SL) (ps : List Nat) (hps : ps.length ≤ 1024) (Kp : World → World → Prop) (w : World) :
    SeqIx Fence.wide n Try.prog 72 #[.pointer (some ⟨Bd, 0, none⟩)] ps.length (encP ps) (fun _ _ => True) (fun _ => VaOwn Bd s ps) Kp w := by
  intro l K Kx W hW hK hKx hO hskip hY h0
  have HK := keep hK
  have H0 := keep h0
  have HO := keep hO
  have HY := keep hY
  clear hK h0 hO hskip hY hKx hW
  have c1 := (HO.out 0 W H0.out).bd
  obtain ⟨s1, s2, s3⟩ := s
  dsimp only at c1
  have hs2 : s2 = ps.length := (HO.out 0 W H0.out).sn
  subst hs2
  refine callsIn_of_wp Try.func72 rfl trivial ?_ rfl
  simp only [Try.ntmps72, List.size_toArray, List.length_cons, List.length_nil, Nat.reduceAdd, Nat.reduceSub, Array.replicate_succ, Array.replicate_zero, List.push_toArray, List.append_toArray, List.nil_append, List.cons_append]
  gi_wp2
  gi_loopw [4, 7] (fun _ i wr => ∃ j : Nat, j ≤ ps.length ∧ i = .int .i64 j ∧ Hid (K j wr)) (fun _ i _ => ps.length - (intOf i).toNat)
  case atStart => exact ⟨0, Nat.zero_le _, rfl, H0⟩
  case round =>
    obtain ⟨j, hj, rfl, HJ⟩ := hrel
    clear c1
    by_cases hlt : j < ps.length
    · have O := HO.out j wr HJ.out
      obtain ⟨b, o, hA, hbl, hcp⟩ := O.rd.at_ (j := j) (by simpa using hlt)
      dsimp only at hA
      subst hA
      rw [List.getElem_map] at hcp
      obtain ⟨p, hp⟩ : ∃ p, ps[j] = p := ⟨_, rfl⟩
      rw [hp] at hcp
      have hge : ps.getD j 0 = p := by rw [List.getD_eq_getElem?_getD, List.getElem?_eq_getElem hlt, hp]; rfl
      obtain ⟨fn, tmps, assign, body, hy, hR⟩ := HY.out j wr hlt HJ.out trivial
      unfold encP at hy
      rw [hge] at hy
      have HR := keep (hR.mono (R' := fun e W' => ∃ r : Bool, e = .returned (.bool r) ∧ Hid (if r = true then K (j + 1) W' else Kx W')) (by
        rintro e W' (⟨h1, h2, _⟩ | ⟨h1, h2, _⟩)
        · exact ⟨true, h1, keep (by rw [if_pos rfl]; exact h2)⟩
        · exact ⟨false, h1, keep (by rw [if_neg (by decide)]; exact h2)⟩))
      clear hge hp hR O
      gi_wp2
      refine HR.out.mono ?_
      rintro e W3 ⟨r, rfl, hK3⟩
      cases r
      · have hx3 := hK3.out
        rw [if_neg (by decide)] at hx3
        replace hx3 := keep hx3
        clear hK3
        gi_wp2
        exact bodyPost_ret (results_none rfl _ _ _) rfl ⟨⟨_, rfl⟩, .inr hx3.out⟩
      · have hx3 := hK3.out
        rw [if_pos rfl] at hx3
        replace hx3 := keep hx3
        clear hK3
        gi_wp2
        go_roundw
        case rel => exact ⟨j + 1, by omega, by go_num, hx3⟩
        case measure => simp [intOf]; omega
    · obtain rfl : ps.length = j := by omega
      gi_wp2
      go_end0
      exact ⟨⟨_, rfl⟩, .inl HJ.out⟩
end
end Go.Proofs.Ytffjdknmfmlfnaa
