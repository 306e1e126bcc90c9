/- The document's answers for layer 9: widths, put, coded, Encode. -/
import Derived.Test.YtjfkiiohmjdceaaK7
import Derived.Test.YtjfkiiohmjdceaaSipRC
namespace Go.Proofs.Ytjfkiiohmjdceaa
open Go.RowKit Go.Lib
set_option linter.unusedVariables false

/-- The numbers' widths. -/
def wds : List Nat := [8, 8, 4, 4, 4, 4, 4, 4, 4, 2, 2]
abbrev wdC : Array Value := #[.int .i64 8, .int .i64 8, .int .i64 4, .int .i64 4, .int .i64 4, .int .i64 4, .int .i64 4, .int .i64 4, .int .i64 4, .int .i64 2, .int .i64 2]
theorem widths_any (w : World) :
    Calls Try.prog 17 #[] w fun e w' => ∃ g, e = .returned (.slice (some ⟨g, 0, none⟩) 11 11) ∧ w'.heap[g]? = some (.cells wdC 3 (0, 0)) ∧ w.heap.size ≤ g ∧ Below w.heap.size w w' := by
  go_enter Try.func17, Try.ntmps17
  go_wp2_with fail
  go_ret
  exact ⟨w.heap.size, rfl, heap_alloc_new w _, Nat.le_refl _, below_lay w _⟩

theorem octs4 (v : Int) : octs v 4 4 = oct4 v := by
  simp [octs, oct4, List.range_succ]
theorem octs2 (v : Int) : octs v 2 2 = [b8 (v / 256), b8 v] := by
  simp [octs, List.range_succ]
/-- A number of k octets. -/
def wide (v : Int) (k : Nat) : List UInt8 := if k = 8 then oct4 (v / 4294967296 % 4294967296) ++ oct4 (v % 4294967296) else octs v k k
theorem put_eight (A : Option Addr) (n c : Nat) (bs : List UInt8) (v : Int) (hv : -9223372036854775808 ≤ v ∧ v ≤ 9223372036854775807) (w : World) (ha : BS w A n c bs) (hn : n ≤ 100000) :
    Calls Try.prog 31 #[.slice A n c, .int .i64 v, .int .i64 8] w (RetB w (bs ++ wide v 8)) := by
  obtain ⟨v0, v1⟩ := hv
  have HA := keep ha
  clear ha
  go_enter Try.func31, Try.ntmps31
  go_wp2_with fail
  refine (refput_any A n c bs _ (by omega) (by omega) 4 (by decide) w HA.out (by omega)).mono ?_
  rintro e w1 ⟨A1, n1, c1, rfl, hs1, hb1, ho1⟩
  have hn1 : n1 ≤ 100004 := by
    have h1 := hs1.len
    have h2 := HA.out.len
    rw [octs4, List.length_append, ← h2] at h1
    simp [oct4] at h1
    omega
  have H1 := keep (And.intro hs1 hb1)
  clear hs1 hb1 ho1
  go_wp2_with fail
  refine (refput_any A1 n1 c1 _ _ (by omega) (by omega) 4 (by decide) w1 H1.out.1 (by omega)).mono ?_
  rintro e w2 ⟨A2, n2, c2, rfl, hs2, hb2, ho2⟩
  have H2 := keep (And.intro hs2 (And.intro hb2 ho2.out))
  clear hs2 hb2 ho2
  go_wp2_with fail
  go_ret
  obtain ⟨hs2, hb2, ho2⟩ := H2.out
  have e : bs ++ octs (v / 4294967296 % 4294967296) 4 4 ++ octs (v % 4294967296) 4 4 = bs ++ wide v 8 := by
    rw [octs4, octs4, List.append_assoc]
    rfl
  refine ⟨A2, n2, c2, rfl, ?_, up H1.out.2 hb2, keep ?_⟩
  · rw [← e]
    exact hs2
  · rw [← e]
    exact own_mono ho2 H1.out.2.size
theorem put_less (A : Option Addr) (n c : Nat) (bs : List UInt8) (v : Int) (h0 : 0 ≤ v) (h1 : v < 4294967296) (k : Nat) (hk : k ≤ 4) (w : World) (ha : BS w A n c bs) (hn : n ≤ 100000) :
    Calls Try.prog 31 #[.slice A n c, .int .i64 v, .int .i64 (k : Int)] w (RetB w (bs ++ wide v k)) := by
  have hk8 : ((k : Int) == 8) = false := by simp; omega
  have K := refput_any A n c bs v h0 h1 k hk w ha (by omega)
  have e : wide v k = octs v k k := by unfold wide; rw [if_neg (by omega)]
  rw [e]
  have HK := keep K
  clear K ha e
  go_enter Try.func31, Try.ntmps31
  go_wp2_with fail
  refine HK.out.mono ?_
  rintro e w1 ⟨A1, n1, c1, rfl, hs1, hb1, ho1⟩
  have H1 := keep (And.intro hs1 (And.intro hb1 ho1.out))
  clear hs1 hb1 ho1
  go_wp2_with fail
  go_ret
  exact ⟨A1, n1, c1, rfl, H1.out.1, H1.out.2.1, H1.out.2.2⟩
/-- A number that may be put in so many octets. -/
def May (v : Int) (k : Nat) : Prop := (k = 8 ∧ -9223372036854775808 ≤ v ∧ v ≤ 9223372036854775807) ∨ (k ≤ 4 ∧ 0 ≤ v ∧ v < 4294967296)
theorem put_may (A : Option Addr) (n c : Nat) (bs : List UInt8) (v : Int) (k : Nat) (h : May v k) (w : World) (ha : BS w A n c bs) (hn : n ≤ 100000) :
    Calls Try.prog 31 #[.slice A n c, .int .i64 v, .int .i64 (k : Int)] w (RetB w (bs ++ wide v k)) := by
  rcases h with ⟨rfl, h⟩ | ⟨hk, h0, h1⟩
  · exact put_eight A n c bs v h w ha hn
  · exact put_less A n c bs v h0 h1 k hk w ha hn

theorem wide_nat (n : Nat) (h : n < 2 ^ 64) : wrap64 (n : Int) / 4294967296 % 4294967296 = (n : Int) / 4294967296 ∧ wrap64 (n : Int) % 4294967296 = (n : Int) % 4294967296 := by
  unfold wrap64
  omega
theorem wide_code (q : BitVec 64) : wide (wrap64 (q.toNat : Int)) 8 = oct4 (hi q) ++ oct4 (lo q) := by
  have h := wide_nat q.toNat q.isLt
  unfold wide hi lo
  rw [if_pos rfl, h.1, h.2]
set_option maxRecDepth 100000 in
theorem coded_any (K : Option Addr) (ck : Nat) (key : List UInt8) (A : Option Addr) (n c : Nat) (bs : List UInt8) (w : World) (hk : BS w K 16 ck key) (ha : BS w A n c bs) (hn : n ≤ 1000) :
    Calls Try.prog 16 #[.slice K 16 ck, .slice A n c] w (RetB w (seal_ key bs)) := by
  obtain ⟨i0, hi0, hz0, hz1, hz2⟩ := info_parts u8_info
  have K1 := keep (refCode_some K ck key A n c bs w hk ha (by omega))
  obtain ⟨q, hq⟩ : ∃ q, code key bs = q := ⟨_, rfl⟩
  have HE : Hid (seal_ key bs = bs ++ (oct4 (hi q) ++ oct4 (lo q)) ++ bol) := by
    show _ = _
    unfold seal_
    rw [hq, List.append_assoc bs]
  rw [hq] at K1
  have HA := keep ha
  have hq1 := q.isLt
  have HW := keep (show -9223372036854775808 ≤ wrap64 (q.toNat : Int) ∧ wrap64 (q.toNat : Int) ≤ 9223372036854775807 by unfold wrap64; omega)
  clear ha hk hq hq1
  go_enter Try.func16, Try.ntmps16
  go_wp2_with fail
  refine K1.out.mono ?_
  rintro e w1 ⟨rfl, hb1⟩
  have K2 := put_eight A n c bs (wrap64 (q.toNat : Int)) HW.out w1 (HA.out.step hb1) (by omega)
  rw [wide_code] at K2
  replace K2 := keep K2
  have H1 := keep hb1
  clear K1 hb1
  go_wp2_with fail
  refine K2.out.mono ?_
  rintro e w2 ⟨A2, n2, c2, rfl, hs2, hb2, ho2⟩
  have hn2 : n2 ≤ 1008 := by
    have h1 := hs2.len
    have h2 := HA.out.len
    rw [List.length_append, ← h2] at h1
    simp [oct4] at h1
    omega
  have HO := keep (own_mono ho2.out (H1.out.size))
  have HB := keep (up H1.out hb2)
  clear K2 hs2 hb2 ho2 H1
  go_wp2_with (at_builtin; refine wpl_append_str _ rfl _ _ 22 9 rfl w.heap.size 5 i0 Try.underlying22 Try.underlying9 hi0 hz0 hz1 hz2 _ _ _ rfl HO.out _ rfl (by show n2 + 4 ≤ maxLen; unfold maxLen; omega) (by show n2 + 4 ≤ _; omega) HB.out.size ?_
               intro A3 c3 w3 ho3 hg3)
  go_ret
  have own3 : w3.ownsRow w.heap.size 5 1 (.slice A3 (n2 + 4) c3) (n2 + 4) (bc (seal_ key bs)) := by
    rw [HE.out, bc_append, ← strCells_of bol]
    exact ho3.out
  exact ⟨A3, n2 + 4, c3, rfl, BS.of_own own3, HB.out.grown hg3.out HB.out.size (fun k hk => (HO.out.lt k hk).1), keep own3⟩

theorem b8_congr (a b : Int) (h : a % 256 = b % 256) : b8 a = b8 b := by rw [← b8_mod a, h, b8_mod]
/-- What stands in the first i fields. -/
def pfx (s : CS) (i : Nat) : List UInt8 := (((rl s).zip wds).take i).flatMap fun x => wide x.1 x.2
theorem rl_get (s : CS) (i : Nat) (hi : i < 11) : ∃ v k, (rl s)[i]? = some v ∧ wds[i]? = some k ∧ s.ref[i]? = some (.int .i64 v) ∧ wdC[i]? = some (.int .i64 (k : Int)) ∧ pfx s (i + 1) = pfx s i ++ wide v k := by
  rcases i with _ | _ | _ | _ | _ | _ | _ | _ | _ | _ | _ | i <;> first | exact ⟨_, _, rfl, rfl, rfl, rfl, by simp [pfx, rl, wds]⟩ | omega
theorem rl_may (s : CS) (hs : s.ok) (i : Nat) (hi : i < 11) (v : Int) (k : Nat) (hv : (rl s)[i]? = some v) (hk : wds[i]? = some k) : May v k := by
  have a0 := hs.made
  have a1 := hs.life
  have a2 := hs.tag
  have a3 := hs.peer
  have a4 := hs.fst
  have a5 := hs.pf
  have a6 := hs.room
  have a7 := hs.out
  have a8 := hs.inn
  have a9 := hs.t0
  have a10 := hs.t1
  rcases i with _ | _ | _ | _ | _ | _ | _ | _ | _ | _ | _ | i
  case succ.succ.succ.succ.succ.succ.succ.succ.succ.succ.succ => omega
  all_goals
    simp only [rl, wds, List.getElem?_cons_zero, List.getElem?_cons_succ, Option.some.injEq] at hv hk
    subst hv hk
    unfold May
    omega
theorem wide_short (v : Int) (k : Nat) (hk : k ≤ 8) : (wide v k).length ≤ 8 := by
  unfold wide
  split
  · simp [oct4]
  · simp [octs]
    exact hk
theorem pfx_short (s : CS) (i : Nat) : (pfx s i).length ≤ 88 := by
  unfold pfx
  have key : ∀ l : List (Int × Nat), (∀ x ∈ l, x.2 ≤ 8) → (l.flatMap fun x => wide x.1 x.2).length ≤ 8 * l.length := by
    intro l
    induction l with
    | nil => intro _; simp
    | cons x r ih =>
      intro h
      have h1 := wide_short x.1 x.2 (h x (by simp))
      have h2 := ih (fun y hy => h y (by simp [hy]))
      simp only [List.flatMap_cons, List.length_append, List.length_cons]
      omega
  have h := key (((rl s).zip wds).take i) (fun x hx => by
    have h1 := List.of_mem_zip (List.mem_of_mem_take hx)
    have h2 := h1.2
    simp only [wds, List.mem_cons, List.not_mem_nil, or_false] at h2
    omega)
  have h3 : (((rl s).zip wds).take i).length ≤ 11 := by
    rw [List.length_take]
    have : ((rl s).zip wds).length = 11 := rfl
    omega
  omega
theorem pfx_all (s : CS) (hs : s.ok) (hm : s.may) : pfx s 11 = flat (nums s) := by
  obtain ⟨⟨m0, m1⟩, l0, l1⟩ := hm
  have h7 := hs.out
  have h8 := hs.inn
  have e1 : wide s.made 8 = oct4 (s.made / 4294967296) ++ oct4 (s.made % 4294967296) := by
    unfold wide
    rw [if_pos rfl, Int.emod_eq_of_lt (a := s.made / 4294967296) (by omega) (by omega)]
  have e2 : wide s.life 8 = oct4 (s.life / 4294967296) ++ oct4 (s.life % 4294967296) := by
    unfold wide
    rw [if_pos rfl, Int.emod_eq_of_lt (a := s.life / 4294967296) (by omega) (by omega)]
  have e4 : ∀ v, wide v 4 = oct4 v := fun v => by unfold wide; rw [if_neg (by decide), octs4]
  have e5 : wide s.out 2 ++ wide s.inn 2 = oct4 (s.out * 65536 + s.inn) := by
    unfold wide oct4
    rw [if_neg (by decide), if_neg (by decide), octs2, octs2]
    show [b8 (s.out / 256), b8 s.out, b8 (s.inn / 256), b8 s.inn] = _
    rw [b8_congr (s.out / 256) ((s.out * 65536 + s.inn) / 16777216) (by omega), b8_congr s.out ((s.out * 65536 + s.inn) / 65536) (by omega),
      b8_congr (s.inn / 256) ((s.out * 65536 + s.inn) / 256) (by omega), b8_congr s.inn (s.out * 65536 + s.inn) (by omega)]
  show ([(s.made, 8), (s.life, 8), (s.tag, 4), (s.peer, 4), (s.fst, 4), (s.pf, 4), (s.room, 4), (s.t0, 4), (s.t1, 4), (s.out, 2), (s.inn, 2)] : List (Int × Nat)).flatMap (fun x => wide x.1 x.2) = _
  simp only [List.flatMap_cons, List.flatMap_nil, List.append_nil, e1, e2, e4, e5, flat, nums, List.append_assoc]
end Go.Proofs.Ytjfkiiohmjdceaa
