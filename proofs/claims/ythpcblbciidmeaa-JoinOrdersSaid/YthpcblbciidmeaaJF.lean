/- Whether one piece follows another; the ends of a run are noted. -/
import Derived.Test.YthpcblbciidmeaaJE
import Derived.Test.YthpcblbciidmeaaPj4
import Derived.Deep.QuietTactic
import Derived.BigQuiet
namespace Go.Proofs.Ythpcblbciidmeaa
open Go.RowKit Go.Maps
set_option linter.unusedVariables false

theorem zero_pp (w : World) : (zeroValue 76).run Try.prog w = .ok (.pointer none) w := by kernel_rfl
theorem pgV_some {pb : Int → Option Nat} {n : Int} {p : Nat} (h : pb n = some p) : pgV pb n = some (.pointer (some ⟨p, 0, none⟩)) := by unfold pgV; rw [h]; rfl
theorem pgV_none {pb : Int → Option Nat} {n : Int} (h : pb n = none) : pgV pb n = none := by unfold pgV; rw [h]; rfl
/-- What a join's block says of its pieces, and their map. -/
theorem rel_map {w : World} {G : Gh} {j : Jn} {o : Int} (h : JA w G j o) (W : World) (h1 : W.heap[G.b]? = w.heap[G.b]?) (h2 : W.heap[G.k]? = w.heap[G.k]?) :
    W.cell? ⟨G.b, 0, none⟩ = some (.map (some G.k)) ∧
      ∀ n, 0 ≤ n → n < 4294967296 → (Instr.lookup 60 (.map (some G.k)) (.int .u32 n) false).run Try.prog W = .ok ((pgV G.pb n).getD (.pointer none)) W :=
  ⟨(World.cell?_of_block (a := ⟨G.b, 0, none⟩) h1).trans h.c0, fun n n0 n1 => (h.pa.map.same h2).look Try.underlying26 Try.underlying60 (zero_pp _) (wf32 n0 n1)⟩
/-- Those of number n and of the next one are there, and the next one follows. -/
def tog (l : List Ch) (n : Int) : Bool := l.any fun x => decide (x.a = n) && l.any fun y => fol x y
theorem tog_iff {l : List Ch} {n : Int} : tog l n = true ↔ ∃ x ∈ l, x.a = n ∧ ∃ y ∈ l, Fol x y := by
  unfold tog
  rw [List.any_eq_true]
  constructor
  · rintro ⟨x, hx, h⟩
    obtain ⟨h1, h2⟩ := Bool.and_eq_true_iff.1 h
    obtain ⟨y, hy, h3⟩ := List.any_eq_true.1 h2
    exact ⟨x, hx, of_decide_eq_true h1, y, hy, fol_iff.1 h3⟩
  · rintro ⟨x, hx, h1, y, hy, h3⟩
    exact ⟨x, hx, Bool.and_eq_true_iff.2 ⟨decide_eq_true h1, List.any_eq_true.2 ⟨y, hy, fol_iff.2 h3⟩⟩⟩
theorem PieceAt.at_ {w : World} {F : Nat → Prop} {p : Nat} {x : CX} {f : Int} (h : PieceAt w F p x f) : At12 w p 0 x ∧ w.cell? ⟨p, 12, none⟩ = some (.int .u32 f) ∧ w.frozen? ⟨p, 12, none⟩ = false := by
  have key : ∀ i v, (x.cells ++ [Value.int .u32 f]).toArray[i]? = some v → w.cell? ⟨p, i, none⟩ = some v := fun i v hv => by
    rw [cell_of_row _ _ _ _ _ _ h.blk]
    exact hv
  exact ⟨⟨key 0 _ rfl, key 1 _ rfl, key 2 _ rfl, key 3 _ rfl, key 4 _ rfl, key 5 _ rfl, key 6 _ rfl, key 7 _ rfl, key 8 _ rfl, key 9 _ rfl, key 10 _ rfl, key 11 _ rfl⟩, key 12 _ rfl, by simp [World.frozen?, h.blk]⟩
theorem tog_nil {l : List Ch} {n : Int} (h : ∀ x ∈ l, x.a ≠ n) : tog l n = false := by
  cases ht : tog l n with
  | false => rfl
  | true =>
    obtain ⟨x, hx, e, _⟩ := tog_iff.1 ht
    exact absurd e (h x hx)
theorem tog_no {l : List Ch} {n : Int} (h : ∀ y ∈ l, y.a ≠ (n + 1) % 4294967296) : tog l n = false := by
  cases ht : tog l n with
  | false => rfl
  | true =>
    obtain ⟨x, hx, e, y, hy, hf⟩ := tog_iff.1 ht
    exact absurd (by rw [hf.a, e]) (h y hy)
theorem tog_is {l : List Ch} (hk : KeysC l) {n : Int} {x y : Ch} (hx : x ∈ l) (hy : y ∈ l) (ex : x.a = n) (ey : y.a = (n + 1) % 4294967296) : tog l n = fol x y := by
  rw [Bool.eq_iff_iff, tog_iff]
  constructor
  · rintro ⟨u, hu, eu, v, hv, hf⟩
    have h1 := hk.one hu hx (eu.trans ex.symm)
    subst h1
    have h2 := hk.one hv hy (by rw [hf.a, eu, ey])
    subst h2
    exact fol_iff.2 hf
  · exact fun h => ⟨x, hx, ex, y, hy, fol_iff.1 h⟩
set_option maxRecDepth 1000000 in
set_option maxHeartbeats 4000000 in
theorem together_any {w : World} {G : Gh} {j : Jn} {o : Int} (h : JA w G j o) (hk : KeysC j.ch) {n : Int} (n0 : 0 ≤ n) (n1 : n < 4294967296) :
    Calls Try.prog 27 #[.pointer (some ⟨G.b, 0, none⟩), .int .u32 n] w fun e w' => e = .returned (.bool (tog j.ch n)) ∧ Below w.heap.size w w' := by
  obtain ⟨m, hm⟩ : ∃ m, IntKind.u32.wrap (n + 1) = m := ⟨_, rfl⟩
  have em : m = (n + 1) % 4294967296 := by rw [← hm, wrap_u32]
  have m0 : 0 ≤ m ∧ m < 4294967296 := by omega
  have HR := rel_map h
  have c0 := (HR w rfl rfl).1
  have L1 := fun W h1 h2 => (HR W h1 h2).2 n n0 n1
  have L2 := fun W h1 h2 => (HR W h1 h2).2 m m0.1 m0.2
  have hb := h.olt _ h.ob
  have hkl := h.olt _ h.pa.ok
  cases hn : G.pb n with
  | none =>
    have ht : tog j.ch n = false := tog_nil fun x hx e => by
      obtain ⟨p, hp, _⟩ := h.pa.has x hx
      rw [e, hn] at hp
      cases hp
    rw [pgV_none hn] at L1
    rw [ht]
    obtain ⟨q, hq⟩ : ∃ q, (pgV G.pb m).getD (.pointer none) = .pointer q := by
      cases hm' : G.pb m with
      | none => exact ⟨_, by rw [pgV_none hm']; rfl⟩
      | some p => exact ⟨_, by rw [pgV_some hm']; rfl⟩
    rw [hq] at L2
    dsimp only [Option.getD] at L1 L2
    have HS := keep fun W h1 h2 => And.intro (HR W h1 h2).1 (And.intro (L1 W h1 h2) (L2 W h1 h2))
    clear h hk HR L1 L2 hn ht hq em m0 n0 n1
    obtain ⟨b, k, sb, N, v, pb, pc, far, wm, gs, rs, O, F⟩ := G
    dsimp only at *
    go_enter Try.func27, Try.ntmps27
    go_wp2
    go_region_held3 (fun w' => w'.cell? ⟨b, 0, none⟩ = some (.map (some k)) ∧ (Instr.lookup 60 (.map (some k)) (.int .u32 n) false).run Try.prog w' = .ok (.pointer none) w' ∧ (Instr.lookup 60 (.map (some k)) (.int .u32 m) false).run Try.prog w' = .ok (.pointer q) w')
      (first | exact HS.out _ rfl rfl) (first | fail)
    all_goals go_wp2
    all_goals go_quiet (fail)
    all_goals go_wp2
    all_goals (go_ret; exact ⟨rfl, below_drewN (Below.refl _ w).drew _⟩)
  | some p =>
    rw [pgV_some hn] at L1
    obtain ⟨hO, hP, hPl, hPa⟩ := h.pa.op n p hn
    cases hm' : G.pb m with
    | none =>
      have ht : tog j.ch n = false := tog_no fun y hy e => by
        obtain ⟨p, hp, _⟩ := h.pa.has y hy
        rw [e, ← em, hm'] at hp
        cases hp
      rw [pgV_none hm'] at L2
      rw [ht]
      dsimp only [Option.getD] at L1 L2
      have HS := keep fun W h1 h2 => And.intro (HR W h1 h2).1 (And.intro (L1 W h1 h2) (L2 W h1 h2))
      clear h hk HR L1 L2 hn hm' ht em m0 n0 n1 hO hP hPl hPa
      obtain ⟨b, k, sb, N, v, pb, pc, far, wm, gs, rs, O, F⟩ := G
      dsimp only at *
      go_enter Try.func27, Try.ntmps27
      go_wp2
      go_region_held3 (fun w' => w'.cell? ⟨b, 0, none⟩ = some (.map (some k)) ∧ (Instr.lookup 60 (.map (some k)) (.int .u32 n) false).run Try.prog w' = .ok (.pointer (some ⟨p, 0, none⟩)) w' ∧ (Instr.lookup 60 (.map (some k)) (.int .u32 m) false).run Try.prog w' = .ok (.pointer none) w')
        (first | exact HS.out _ rfl rfl) (first | fail)
      all_goals go_wp2
      all_goals go_quiet (fail)
      all_goals go_wp2
      all_goals (go_ret; exact ⟨rfl, below_drewN (Below.refl _ w).drew _⟩)
    | some q =>
      obtain ⟨hO', hQ, hQl, hQa⟩ := h.pa.op m q hm'
      rw [pgV_some hm'] at L2
      have ht := tog_is hk hPl hQl hPa (hQa.trans em)
      rw [ht]
      dsimp only [Option.getD] at L1 L2
      have HS := keep fun W h1 h2 => And.intro (HR W h1 h2).1 (And.intro (L1 W h1 h2) (L2 W h1 h2))
      have KF := keep fun w2 => Follows_any (G.pc n) (G.pc m) hP.cv.cb hQ.cv.cb w2
      have AP := hP.at_.1
      have AQ := hQ.at_.1
      have hp9 := h.olt _ hO
      have hq9 := h.olt _ hO'
      clear h hk HR L1 L2 hn hm' ht em m0 n0 n1 hO hP hPl hPa hO' hQ hQl hQa
      generalize G.pc n = x at *
      generalize G.pc m = y at *
      obtain ⟨b, k, sb, N, v, pb, pc, far, wm, gs, rs, O, F⟩ := G
      obtain ⟨xk, xf, xa, xb, xo, xs, xp, ⟨x1, x2, x3⟩, ⟨x4, x5, x6⟩, ⟨x7, x8, x9⟩, ⟨x10, x11, x12⟩, ⟨x13, x14, x15⟩, xps, xbs⟩ := x
      obtain ⟨yk, yf, ya, yb, yo, ys, yp, ⟨y1, y2, y3⟩, ⟨y4, y5, y6⟩, ⟨y7, y8, y9⟩, ⟨y10, y11, y12⟩, ⟨y13, y14, y15⟩, yps, ybs⟩ := y
      dsimp only at *
      have HAP := keep AP
      have HAQ := keep AQ
      dsimp only [At12, Nat.zero_add] at AP AQ
      dsimp only [CX.cells] at KF
      go_enter Try.func27, Try.ntmps27
      go_wp2
      go_region_held3 (fun w' => w'.cell? ⟨b, 0, none⟩ = some (.map (some k)) ∧ (Instr.lookup 60 (.map (some k)) (.int .u32 n) false).run Try.prog w' = .ok (.pointer (some ⟨p, 0, none⟩)) w' ∧ (Instr.lookup 60 (.map (some k)) (.int .u32 m) false).run Try.prog w' = .ok (.pointer (some ⟨q, 0, none⟩)) w')
        (first | exact HS.out _ rfl rfl) (first | fail)
      all_goals go_wp2
      all_goals
        go_region_held3 (fun w' => (w'.cell? ⟨p, 0, none⟩ = some (.int .u8 xk) ∧ w'.cell? ⟨p, 1, none⟩ = some (.int .u8 xf) ∧ w'.cell? ⟨p, 2, none⟩ = some (.int .u32 xa) ∧ w'.cell? ⟨p, 3, none⟩ = some (.int .u32 xb) ∧ w'.cell? ⟨p, 4, none⟩ = some (.int .u16 xo) ∧ w'.cell? ⟨p, 5, none⟩ = some (.int .u16 xs) ∧ w'.cell? ⟨p, 6, none⟩ = some (.int .u32 xp) ∧ w'.cell? ⟨p, 7, none⟩ = some (.slice x1 x2 x3) ∧ w'.cell? ⟨p, 8, none⟩ = some (.slice x4 x5 x6) ∧ w'.cell? ⟨p, 9, none⟩ = some (.slice x7 x8 x9) ∧ w'.cell? ⟨p, 10, none⟩ = some (.slice x10 x11 x12) ∧ w'.cell? ⟨p, 11, none⟩ = some (.slice x13 x14 x15)) ∧ w'.cell? ⟨q, 0, none⟩ = some (.int .u8 yk) ∧ w'.cell? ⟨q, 1, none⟩ = some (.int .u8 yf) ∧ w'.cell? ⟨q, 2, none⟩ = some (.int .u32 ya) ∧ w'.cell? ⟨q, 3, none⟩ = some (.int .u32 yb) ∧ w'.cell? ⟨q, 4, none⟩ = some (.int .u16 yo) ∧ w'.cell? ⟨q, 5, none⟩ = some (.int .u16 ys) ∧ w'.cell? ⟨q, 6, none⟩ = some (.int .u32 yp) ∧ w'.cell? ⟨q, 7, none⟩ = some (.slice y1 y2 y3) ∧ w'.cell? ⟨q, 8, none⟩ = some (.slice y4 y5 y6) ∧ w'.cell? ⟨q, 9, none⟩ = some (.slice y7 y8 y9) ∧ w'.cell? ⟨q, 10, none⟩ = some (.slice y10 y11 y12) ∧ w'.cell? ⟨q, 11, none⟩ = some (.slice y13 y14 y15))
          (first | exact ⟨AP, AQ⟩ | exact q5)
          (first
            | (go_at_call 37; refine (KF.out _).mono ?_; rintro e w5 ⟨rfl, hb5⟩
               have hb5' := ((Below.refl w.heap.size w).drew.drew).trans hb5
               have a5 := At12.step HAP.out hb5' hp9
               have b5 := At12.step HAQ.out hb5' hq9
               dsimp only [At12, Nat.zero_add] at a5 b5
               have q5 := And.intro a5 b5
               have B5 := keep hb5'
               clear hb5 hb5' a5 b5))
      all_goals go_wp2
      all_goals (go_ret; exact ⟨rfl, B5.out⟩)
end Go.Proofs.Ythpcblbciidmeaa
