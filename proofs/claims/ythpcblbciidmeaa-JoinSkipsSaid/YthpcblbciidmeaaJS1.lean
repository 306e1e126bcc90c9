/- The walk of the law JoinSkips. -/
import Derived.Test.YthpcblbciidmeaaAnd
import Derived.Test.YthpcblbciidmeaaJN1
namespace Go.Proofs.Ythpcblbciidmeaa
open Go.RowKit Go.Maps
set_option linter.unusedVariables false

theorem Add_gen {w0 w : World} {G : Gh} {j : Jn} (h : JB w0 w G j) {x : CX} (hx : CV w x) :
    Calls Try.prog 10 #[.pointer (some ⟨G.b, 0, none⟩), .agg x.cells.toArray] w fun e w' => ∃ r j' G', e = .returned (.int .i64 r) ∧ AddR j x.c0 r j' ∧ JB w0 w' G' j' ∧ Later w G w' G' := by
  refine (Add_any h.jg.ja h.jg.good h.jg.ends hx).mono ?_
  intro e w' hA
  obtain ⟨r, j', G', he, hr, hj, hl⟩ := hA.good hx h.jg.good
  exact ⟨r, j', G', he, hr, h.next hl hj, hl⟩
theorem Forward_JB {w0 w : World} {G : Gh} {j : Jn} (h : JB w0 w G j) {n : Int} (n0 : 0 ≤ n) (n1 : n < 4294967296) {A : Option Addr} {m c : Nat} {l : List (Int × Int)} (hs : KS w A m c l) (hA : 0 < m → ∀ a, A = some a → ¬ G.O a.block) (hm : m ≤ 1000000) :
    Calls Try.prog 11 #[.pointer (some ⟨G.b, 0, none⟩), .int .u32 n, .slice A m c] w fun e w' => e = .returned (.tuple #[]) ∧ ∃ G', JB w0 w' G' (fwdJ j n l) ∧ Later w G w' G' := by
  refine (Forward_any h.jg n0 n1 hs hA hm).mono ?_
  rintro e w' ⟨rfl, G', hj, hl⟩
  exact ⟨rfl, G', h.next hl hj, hl⟩
def dOf (i : Nat) : List UInt8 := [b8 (i : Int)]
/-- Between two rounds. -/
structure SK (w0 : World) (b g i : Nat) (G : Gh) (j : Jn) (wr : World) : Prop where
  jb : JB w0 wr G j
  b : G.b = b
  gap : Gap dOf g i j
  oct : j.oct + (if g < i then 1 else 0) ≤ i
theorem SK.new {w0 wr : World} {G : Gh} (h : JB w0 wr G (newJ 1)) (g : Nat) : SK w0 G.b g 0 G (newJ 1) wr := ⟨h, rfl, Gap.new dOf g, by rw [if_neg (by omega)]; exact Nat.le_of_ble_eq_true rfl⟩
theorem SK.skip {w0 wr : World} {b g : Nat} {G : Gh} {j : Jn} (h : SK w0 b g g G j wr) : SK w0 b g (g + 1) G j wr := ⟨h.jb, h.b, h.gap.skip, by have := h.oct; rw [if_neg (by omega)] at this; rw [if_pos (by omega)]; omega⟩
theorem SK.add {w0 wr w' : World} {b g i : Nat} {G G' : Gh} {j j' : Jn} (h : SK w0 b g i G j wr) (hi : i ≠ g) (hg : g < 100) (hb : i < 100) {a r : Int} (ha : 0 ≤ a ∧ a < 4294967296) (hr : AddR j (pc a 0 (i : Int) (dOf i)) r j') (hj : JB w0 w' G' j') (hbb : G'.b = G.b) : r = 0 ∧ SK w0 b g (i + 1) G' j' w' := by
  have ho := h.oct
  obtain ⟨he, hc⟩ := h.gap.add (j' := j') (a := a) hi (by omega) (by omega) ha rfl (by split at ho <;> omega)
  obtain ⟨hr1, hr2, hr3⟩ := hr
  rw [he] at hr1
  subst hr1
  have hw := (came_wf h.gap.wf (show FitsC (pc a 0 (i : Int) (dOf i)) from ⟨ha.1, ha.2, by show (0 : Int) ≤ i; omega, by show (i : Int) < 65536; omega⟩) he (hr3 rfl)).2.1
  have hd : (pc a 0 (i : Int) (dOf i)).da.length = 1 := rfl
  refine ⟨rfl, hj, hbb.trans h.b, hc (hr3 rfl), ?_⟩
  rw [hd] at hw
  by_cases hgi : g < i
  · rw [if_pos hgi] at ho
    rw [if_pos (by omega)]
    omega
  · rw [if_neg hgi] at ho
    rw [if_neg (by omega)]
    omega
/-- One of some messages of one octet. -/
theorem elem_one {w : World} {A : Option Addr} {m c : Nat} {l : List MX} {F : Nat → Prop} {s : Int} {d : UInt8} {r : List Msg} (hm : MSl w A m c l) (hv : ∀ x ∈ l, MV w x ∧ InF F x.da.1) (hr : l.map MX.msg = r) {i : Nat} (hi : r[i]? = some (pm s [d])) :
    ∃ g og gd od cd, A = some ⟨g, og, none⟩ ∧ g < w.heap.size ∧ w.cell? ⟨g, og + i * 4 + 3, none⟩ = some (.slice (some ⟨gd, od, none⟩) 1 cd) ∧ gd < w.heap.size ∧ w.cell? ⟨gd, od, none⟩ = some (.int .u8 (d.toNat : Int)) := by
  have hl := congrArg List.length hr
  rw [List.length_map] at hl
  have hil := (List.getElem?_eq_some_iff.1 hi).1
  obtain ⟨g, og, x, rfl, hg, ⟨_, _, _, c3⟩, hx⟩ := hm.at_ (j := i) (by have := hm.1; omega)
  have hxm : x.msg = pm s [d] := by
    have := congrArg (fun z => z[i]?) hr
    simp only [List.getElem?_map, hx, hi, Option.map_some, Option.some.injEq] at this
    exact this
  have hb := (hv x (List.mem_of_getElem? hx)).1.bs
  have hbs : x.bs = [d] := congrArg Msg.da hxm
  rw [hbs] at hb
  have hlen := hb.len
  have hlen : x.da.2.1 = 1 := hlen
  obtain ⟨gd, od, e, hgd, hcd⟩ := hb.br.sr (by simp [bc])
  have h0 := hcd 0 _ rfl
  rw [hlen, e] at c3
  exact ⟨g, og, gd, od, x.da.2.2, rfl, hg, c3, hgd, by simpa using h0⟩
/-- At the end. -/
theorem SK.done {w0 wr : World} {b g k : Nat} {G : Gh} {j : Jn} (h : SK w0 b g k G j wr) (hg : g < k) (hk : k < 100) (n : Int) :
    j.rd = (List.range g).map (fun i => pm 0 (dOf i)) ∧ (fwdJ (takeJ j) n [(0, (g : Int))]).rd = (List.range' (g + 1) (k - (g + 1))).map (fun i => pm 0 (dOf i)) ∧ (takeJ (fwdJ (takeJ j) n [(0, (g : Int))])).oct = 0 := by
  obtain ⟨h1, h2, h3, h4⟩ := h.gap.take hg (by omega) n
  refine ⟨h1, h2, ?_⟩
  have ho := h.oct
  rw [if_pos hg] at ho
  have ht := (take_wf h.gap.wf).2.1
  have hf := (fwd_wf (take_wf h.gap.wf).1 n [(0, (g : Int))]).2.1
  have ht2 := (take_wf h4).2.1
  have hm : ∀ l : List Nat, octM (l.map fun i => pm 0 (dOf i)) = l.length := fun l => by
    induction l with
    | nil => rfl
    | cons x r ih =>
      unfold octM at ih ⊢
      simp only [List.map_cons, List.sum_cons, List.length_cons, ih]
      show 1 + r.length = _
      omega
  rw [h1, hm, List.length_range] at ht
  rw [h2, hm, List.length_range'] at ht2
  omega
set_option maxRecDepth 1000000 in
set_option maxHeartbeats 4000000 in
theorem joinSkips_walk (tsn n at_ : Int) (w : World) (ht : (Lit.int .u32 tsn).wf = true) (_ : (Lit.int .i64 n).wf = true) (_ : (Lit.int .i64 at_).wf = true) :
    Calls Try.prog 5 #[.int .u32 tsn, .int .i64 n, .int .i64 at_] w fun e w' => e = .returned (.bool true) ∧ Below w.heap.size w w' := by
  have K0 := keep (fun w => awake_any w)
  have HT := keep (of_wf32 ht)
  clear ht
  obtain ⟨k0, hk0⟩ : ∃ k : Nat, n % 32 = k := ⟨(n % 32).toNat, by omega⟩
  have hk1 : k0 ≤ 31 := by omega
  have e1 : bits .and .i64 n 31 = (k0 : Int) := (and_i64 n 5 (by omega)).trans hk0
  obtain ⟨a0, ha0⟩ : ∃ k : Nat, at_ % 65536 = k := ⟨(at_ % 65536).toNat, by omega⟩
  have e2 : bits .and .i64 at_ 65535 = (a0 : Int) := (and_i64 at_ 16 (by omega)).trans ha0
  obtain ⟨k, hk⟩ : ∃ k, 2 + k0 = k := ⟨_, rfl⟩
  have e3 : IntKind.i64.wrap (2 + (k0 : Int)) = (k : Int) := by rw [wrap_small (by omega) (by omega)]; omega
  obtain ⟨g, hg⟩ : ∃ g, a0 % k = g := ⟨_, rfl⟩
  have hgk : g < k := by rw [← hg]; exact Nat.mod_lt _ (by omega)
  have e4 : Int.tmod (a0 : Int) (k : Int) = (g : Int) := by rw [← hg]; rfl
  have HK := keep (show 2 ≤ k ∧ k ≤ 33 ∧ g < k from ⟨by omega, by omega, hgk⟩)
  have hkz : ¬ k = 0 := by omega
  clear hk0 ha0 hk hg hgk hk1
  go_enter Try.func5, Try.ntmps5
  go_wp2_with (first
    | (go_at_call 8; refine (K0.out _).mono ?_; rintro e w1 ⟨rfl, hb1⟩; replace hb1 := keep hb1)
    | (go_at_call 9; refine (New_JB (Below.refl _ w1) 1).mono ?_; rintro e w2 ⟨G0, rfl, hj0, _, _⟩; replace hj0 := keep hj0))
  go_loopw [11] (fun iv wr => ∃ (i : Nat) (G1 : Gh) (j1 : Jn), iv = .int .i64 (i : Int) ∧ i ≤ k ∧ Hid (SK w1 G0.b g i G1 j1 wr)) (fun iv _ => k - (intOf iv).toNat)
  case atStart => exact ⟨0, G0, _, rfl, Nat.zero_le _, keep (SK.new hj0.out g)⟩
  case round =>
    obtain ⟨i, G1, j1, rfl, hi, HR⟩ := hrel
    have hwi : IntKind.i64.wrap ((i : Int) + 1) = (i : Int) + 1 := wrap_small (by omega) (by have := HK.out; omega)
    by_cases hlt : i < k
    · have hlt' : (i : Int) < (k : Int) := by omega
      by_cases hig : i = g
      · subst hig
        have HN := keep HR.out.skip
        have LT := keep hlt
        go_wp2
        go_roundw
        case rel => exact ⟨i + 1, G1, j1, by go_num, LT.out, HN⟩
        case measure => (have := LT.out; simp [intOf]; omega)
      · have hne : ¬ ((i : Int) = (g : Int)) := by omega
        have hw32 : IntKind.u32.wrap (i : Int) = (i : Int) := by rw [wrap_u32]; have := HK.out; omega
        have hw16 : IntKind.u16.wrap (i : Int) = (i : Int) := by rw [wrap_u16]; have := HK.out; omega
        have hw8 : IntKind.u8.wrap (i : Int) = (i : Int) := by simp [IntKind.wrap, IntKind.signed, IntKind.bits]; have := HK.out; omega
        obtain ⟨a, ha⟩ : ∃ a, IntKind.u32.wrap (tsn + (i : Int)) = a := ⟨_, rfl⟩
        have har : 0 ≤ a ∧ a < 4294967296 := by rw [← ha, wrap_u32]; omega
        have LT := keep (And.intro hlt hig)
        have HAR := keep har
        have KP := keep fun W => piece_any W (a := a) (s := 0) (k := (i : Int)) (fl := 3) (d := (i : Int)) har (by decide) (by have := HK.out; omega) (by decide) (by have := HK.out; omega)
        clear hlt hig har
        have hbe : ((i : Int) != (g : Int)) = true := by simpa using hne
        go_wp2_with (first
          | (go_at_call 17; refine (KP.out _).mono ?_
             rintro e w3 ⟨rfl, hx3, hb3, _⟩
             have KA := Add_gen (HR.out.jb.step hb3) hx3
             rw [HR.out.b] at KA
             replace KA := keep KA
             clear hx3 hb3
             dsimp only [oneC, CX.cells])
          | (go_at_call 10; refine KA.out.mono ?_
             rintro e w4 ⟨r4, j4, G4, rfl, hr4, hj4, hl4⟩
             obtain ⟨rfl, HS4⟩ := HR.out.add LT.out.2 (by have := HK.out; omega) (by have := HK.out; have := LT.out.1; omega) HAR.out hr4 hj4 hl4.b
             replace HS4 := keep HS4
             clear hr4 hj4 hl4))
        go_roundw
        case rel => exact ⟨i + 1, G4, j4, by go_num, LT.out.1, HS4⟩
        case measure => (have := LT.out.1; simp [intOf]; omega)
    · obtain rfl : i = k := by omega
      have hlt' : ¬ (i : Int) < (i : Int) := by omega
      have KT := keep fun W (hb : Below wr.heap.size wr W) => Take_JB (HR.out.jb.step hb)
      clear hlt
      have HD := keep (HR.out.done (show g < i from HK.out.2.2) (by have := HK.out; omega))
      have EB := keep HR.out.b
      have hw32 : IntKind.u32.wrap (g : Int) = (g : Int) := by rw [wrap_u32]; have := HK.out; omega
      have hw16 : IntKind.u16.wrap (g : Int) = (g : Int) := by rw [wrap_u16]; have := HK.out; omega
      obtain ⟨a, ha⟩ : ∃ a, IntKind.u32.wrap (tsn + (g : Int)) = a := ⟨_, rfl⟩
      have HAR := keep (show 0 ≤ a ∧ a < 4294967296 from by rw [← ha, wrap_u32]; omega)
      have hki : IntKind.i64.wrap ((i : Int) - (g : Int)) = ((i - g : Nat) : Int) := by rw [wrap_small (by have := HK.out; omega) (by have := HK.out; omega)]; have := HK.out; omega
      have hki2 : IntKind.i64.wrap (((i - g : Nat) : Int) - 1) = ((i - (g + 1) : Nat) : Int) := by rw [wrap_small (by have := HK.out; omega) (by have := HK.out; omega)]; have := HK.out; omega
      have KT1 := Take_JB HR.out.jb
      rw [HR.out.b] at KT1
      replace KT1 := keep KT1
      clear KT
      go_wp2_with (first
        | (go_at_call 13; refine KT2.out.mono ?_
           rintro e w6 ⟨A2, m2, c2, l2, G6, rfl, hm2, hv2, hr2, ho2, hj6, hl6⟩
           obtain rfl : m2 = i - (g + 1) := by
             have h1 := congrArg List.length (hr2.trans (HD.out a).2.1)
             rw [List.length_map, List.length_map, List.length_range'] at h1
             rw [hm2.1, h1]
           have H6 := keep (And.intro hm2 (And.intro hv2 (And.intro (hr2.trans (HD.out a).2.1) (And.intro hj6.be (show G6.b = G0.b from hl6.b.trans EB5.out)))))
           have KH := Held_JB hj6
           rw [(HD.out a).2.2, hl6.b.trans EB5.out] at KH
           replace KH := keep KH
           clear hm2 hv2 hr2 ho2 hj6 hl6)
        | (go_at_call 13; refine KT1.out.mono ?_
           rintro e w4 ⟨A1, m1, c1, l1, G4, rfl, hm1, hv1, hr1, ho1, hj4, hl4⟩
           obtain rfl : g = m1 := by
             have h1 := congrArg List.length (hr1.trans (HD.out a).1)
             rw [List.length_map, List.length_map, List.length_range] at h1
             rw [hm1.1, h1]
           have hla := below_lay w4 (.cells #[.int .u16 0, .int .u16 (g : Int)] 55)
           have hO4 : ¬ G4.O w4.heap.size := fun hc => Nat.lt_irrefl _ (hj4.jg.ja.olt _ hc)
           have KF := Forward_JB (hj4.step hla) (n := a) HAR.out.1 HAR.out.2 (A := some ⟨w4.heap.size, 0, none⟩) (m := 1) (c := 1) (l := [(0, (g : Int))]) ⟨rfl, Nat.le_refl _, SR.row (heap_alloc_new w4 _), fun x hx => by rw [List.mem_singleton.1 hx]; exact ⟨Int.le_refl _, (show (0 : Int) < 65536 by decide), by show (0 : Int) ≤ g; omega, by show (g : Int) < 65536; have := HK.out; omega⟩⟩ (fun _ b e => by injection e with e; rw [← e]; exact hO4) (by decide)
           rw [hl4.b.trans EB.out] at KF
           replace KF := keep KF
           have EB4 := keep (hl4.b.trans EB.out)
           clear hm1 hv1 hr1 ho1 hj4 hl4 hla hO4)
        | (go_at_call 11; refine KF.out.mono ?_
           rintro e w5 ⟨rfl, G5, hj5, hl5⟩
           have KT2 := Take_JB hj5
           rw [hl5.b.trans EB4.out] at KT2
           replace KT2 := keep KT2
           have EB5 := keep (hl5.b.trans EB4.out)
           clear hj5 hl5))
      have HM := keep (show i - (g + 1) ≤ 40 ∧ g ≤ 40 from by have := HK.out; omega)
      clear hki hki2
      generalize i - (g + 1) = M at *
      go_loopw [14] (fun iv wr => ∃ (t : Nat), iv = .int .i64 (t : Int) ∧ t ≤ M ∧ wr = w6) (fun iv _ => M - (intOf iv).toNat)
      case atStart => exact ⟨0, rfl, Nat.zero_le _, rfl⟩
      case round =>
        obtain ⟨t, rfl, ht, rfl⟩ := hrel
        have hwt : IntKind.i64.wrap ((t : Int) + 1) = (t : Int) + 1 := wrap_small (by omega) (by have := HM.out; omega)
        by_cases hlt2 : t < M
        · have hlt3 : (t : Int) < (M : Int) := by omega
          obtain ⟨g2, og, gd, od, cd, rfl, hg2, c3, hgd, h0⟩ := elem_one (s := 0) (d := b8 (((g + 1 + t : Nat) : Int))) (i := t) H6.out.1 H6.out.2.1 H6.out.2.2.1 (by
            rw [List.getElem?_map, List.getElem?_range' hlt2]
            simp [dOf])
          have hb8 : (((b8 (((g + 1 + t : Nat) : Int))).toNat : Nat) : Int) = (g : Int) + 1 + (t : Int) := by
            rw [b8_of _ (by omega) (by have := HM.out; omega)]
            omega
          rw [hb8] at h0
          have hws1 : IntKind.i64.wrap ((g : Int) + 1) = (g : Int) + 1 := wrap_small (by omega) (by have := HM.out; omega)
          have hws2 : IntKind.i64.wrap ((g : Int) + 1 + (t : Int)) = (g : Int) + 1 + (t : Int) := wrap_small (by omega) (by have := HM.out; omega)
          have hw8 : IntKind.u8.wrap ((g : Int) + 1 + (t : Int)) = (g : Int) + 1 + (t : Int) := by simp [IntKind.wrap, IntKind.signed, IntKind.bits]; have := HM.out; omega
          have LT2 := keep hlt2
          clear hb8 hlt2 ht
          go_wp2
          go_roundw
          case rel => exact ⟨t + 1, by go_num, LT2.out, trivial⟩
          case measure => (have := LT2.out; simp [intOf]; omega)
        · obtain rfl : t = M := by omega
          have hlt3 : ¬ (t : Int) < (t : Int) := by omega
          clear hlt2
          go_wp2_with (go_at_call 14; refine KH.out.mono ?_; rintro e w8 ⟨rfl, rfl⟩)
          go_ret
          exact ⟨rfl, up hb1.out H6.out.2.2.2.1⟩
end Go.Proofs.Ythpcblbciidmeaa
