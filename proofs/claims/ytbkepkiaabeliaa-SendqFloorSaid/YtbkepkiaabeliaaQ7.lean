/- Package sendq's sum, over any iterator that goes through places. -/
import Derived.Test.YtbkepkiaabeliaaQ6
import Derived.IntWalk
namespace Go.Proofs.Ytbkepkiaabeliaa
open Go.RowKit
attribute [local go_sem] Oper.semAt_some
set_option linter.unusedVariables false

/-- The octets of those of the first places that are told. -/
def sumF (f : Nat → Option Nat) : Nat → Nat
  | 0 => 0
  | k + 1 => sumF f k + (f k).getD 0
theorem sumF_le (f : Nat → Option Nat) (hb : ∀ i n, f i = some n → n ≤ 1000000) : ∀ k, sumF f k ≤ k * 1000000
  | 0 => by simp [sumF]
  | k + 1 => by
    rw [sumF, Nat.add_mul, Nat.one_mul]
    refine Nat.add_le_add (sumF_le f hb k) ?_
    cases h : f k with
    | none => exact Nat.zero_le _
    | some n => exact hb k n h
structure SumJ (w : World) (s : Nat) (A : World) : Prop where
  below : Below w.heap.size w A
  tb : A.heap[w.heap.size]? = some (.cells #[.func (.func 48) #[] #[]] 100 (0, 0))
  nb : A.heap[w.heap.size + 1]? = some (.cells #[.int .i64 (s : Int)] 3 (0, 0))
theorem SumJ.st {w : World} {s : Nat} {A B : World} {N : Nat} (h : SumJ w s A) (k : StN N A B) (hN : w.heap.size ≤ N) : SumJ w s B := ⟨k.below h.below hN, k.cells h.tb, k.cells h.nb⟩
set_option maxRecDepth 100000 in
set_option maxHeartbeats 2000000 in
theorem sum_any (gf : Nat) (lb : Array Value) (eg : ∀ args w, (callFunc gf args).run Try.prog w = .ok (.enter gf args) w) (N : Nat) (ps : List Nat) (X Own : Nat → World → Prop) (f : Nat → Option Nat) (w : World)
    (hit : ∀ w1, SeqIx Fence.wide 4 Try.prog gf lb N (encP ps) X Own (fun _ _ => True) w1)
    (hXs : ∀ i A B M, StN M A B → X i A → X i B)
    (hX : ∀ i A, i < N → Below w.heap.size w A → (X i A ↔ (f i).isSome = true))
    (hown : ∀ i A, Below w.heap.size w A → Own i A)
    (hlen : ∀ i A n, i < N → Below w.heap.size w A → f i = some n → ∃ a c, A.cell? ⟨ps.getD i 0, 11, none⟩ = some (.slice a n c))
    (hb : ∀ i n, f i = some n → n ≤ 1000000) (hN : N ≤ 1024) :
    Calls Try.prog 56 #[.func (.func gf) #[] lb, .func (.func 48) #[] #[]] w fun e w' => e = .returned (.int .i64 ((sumF f N : Nat) : Int)) ∧ Below w.heap.size w w' := by
  have hmix : Try.prog.follows .mixedOrders = true := by kernel_rfl
  have F1 : Fence.wide.fn 48 := trivial
  have F2 : (Fence.wide.inRound 0).fn 48 := trivial
  have HIT := keep hit
  have HXS := keep hXs
  have HX := keep hX
  have HOW := keep hown
  have HL := keep hlen
  have HB := keep hb
  have HN := keep hN
  clear hit hXs hX hown hlen hb hN
  refine (callsIn_wide (n := 5)).1 ?_
  refine callsIn_of_wp_marks Try.func56 rfl trivial ?_ rfl
  simp only [Try.ntmps56, List.size_toArray, List.length_cons, List.length_nil, Nat.reduceAdd, Nat.reduceSub, Array.replicate_succ, Array.replicate_zero, List.push_toArray, List.append_toArray, List.nil_append, List.cons_append]
  gi_wp2
  obtain ⟨W0, hW0⟩ : ∃ W0, (w.alloc (.cells #[.func (.func 48) #[] #[]] 100)).alloc (.cells #[.int .i64 0] 3) = W0 := ⟨_, rfl⟩
  have J0 : SumJ w 0 W0 := by
    rw [← hW0]
    exact ⟨up (below_lay w _) (below_lay _ _), below_new (heap_new_at rfl), heap_new_at (by simp)⟩
  have hs0 : w.heap.size ≤ W0.heap.size := J0.below.size
  rw [hW0]
  clear hW0
  refine rangeFunc_ix (n := 5) rfl (by omega) (gf := gf) (lb := lb) rfl trivial eg (N := N) (enc := encP ps) (fun _ => rfl)
    X Own (fun _ _ => True) (fun i => SumJ w (sumF f i)) (fun _ _ => False) (HIT.out _)
    (fun i A B st h => h.st st hs0) (fun _ _ _ _ h => h) (fun i A B st h => HXS.out i A B _ st h) (fun _ _ _ _ _ _ _ _ _ _ _ _ _ _ => trivial)
    (fun i A h => HOW.out i A h.below)
    (fun i A hi h hx => by
      have hn : f i = none := by
        cases hf : f i with
        | none => rfl
        | some n => exact absurd ((HX.out i A hi h.below).2 (by rw [hf]; rfl)) hx
      show SumJ w (sumF f i + (f i).getD 0) A
      rw [hn]
      exact h)
    J0 ?round ?done (fun _ _ _ _ h _ => h.elim)
  case round =>
    rintro l i A hl hi hJ hx
    have hsome := (HX.out i A hi hJ.below).1 hx
    obtain ⟨n, hn⟩ := Option.isSome_iff_exists.1 hsome
    have HNN := keep hn
    obtain ⟨p, hp⟩ : ∃ p, ps.getD i 0 = p := ⟨_, rfl⟩
    simp only [Array.zip, encP]
    rw [hp]
    have HP := keep hp
    have HI := keep hi
    clear hJ hx hsome hn hp hi
    gi_wp2
    refine ⟨by first | rfl | trivial, fun A2 hJ2 hx2 => ?_⟩
    obtain ⟨a, c, hc⟩ := HL.out i A2 n HI.out hJ2.below HNN.out
    rw [HP.out] at hc
    have hcd : A2.drew.cell? ⟨p, 11, none⟩ = some (.slice a n c) := hc
    have KO := keep (octets_at p a n c A2.drew hcd)
    have ct : A2.cell? ⟨w.heap.size, 0, none⟩ = some (.func (.func 48) #[] #[]) := by rw [cell_of_row _ _ _ _ _ _ hJ2.tb]; rfl
    have cn : A2.cell? ⟨w.heap.size + 1, 0, none⟩ = some (.int .i64 ((sumF f i : Nat) : Int)) := by rw [cell_of_row _ _ _ _ _ _ hJ2.nb]; rfl
    have fn' : A2.frozen? ⟨w.heap.size + 1, 0, none⟩ = false := by simp [World.frozen?, hJ2.nb]
    have hbd : IntKind.i64.wrap (((sumF f i : Nat) : Int) + (n : Int)) = ((sumF f (i + 1) : Nat) : Int) := by
      have h1 := sumF_le f HB.out (i + 1)
      have h2 : sumF f (i + 1) = sumF f i + n := by rw [sumF, HNN.out]; rfl
      have h3 : (i + 1) * 1000000 ≤ 1024 * 1000000 := Nat.mul_le_mul_right _ (by have := HN.out; have := HI.out; omega)
      rw [h2] at h1 ⊢
      rw [Int.natCast_add]
      exact IntWalk.i64_in _ (by omega)
    have HJ2 := keep hJ2
    clear hJ2 hx2 hc hcd
    generalize sumF f (i + 1) = s' at *
    generalize sumF f i = s at *
    first | (gi_wp2; gi_region_with_o (gi_at_call 48; refine (CallsIn.inRound l (callsIn_wide.2 KO.out)).mono ?_; rintro e w' ⟨rfl, rfl⟩)) | fail
    all_goals gi_wp2
    all_goals
      refine ⟨((KeepsOthers.drew A2).trans (KeepsOthers.setCell _ _ _)).from _, trivial, (HJ2.out.below.drew).setCell (p := ⟨w.heap.size + 1, 0, none⟩) (Nat.le_succ _) _, ?_, ?_⟩
      · exact (Below.heap_setCell A2.drew ⟨w.heap.size + 1, 0, none⟩ _ w.heap.size (by simp)).trans HJ2.out.tb
      · exact heap_setCell_same A2.drew (w.heap.size + 1) 0 _ _ _ HJ2.out.nb
  case done =>
    intro D A hD hJ hDd
    have cn : A.cell? ⟨w.heap.size + 1, 0, none⟩ = some (.int .i64 ((sumF f N : Nat) : Int)) := by rw [cell_of_row _ _ _ _ _ _ hJ.nb]; rfl
    have HJ := keep hJ
    clear hJ
    gi_wp2
    have k1 := StN.putObj (N := w.heap.size) (.deferred none) hDd rfl (by omega)
    refine ⟨by simp, .inl ⟨_, _, rfl, run_takeDeferred hDd, ?_⟩⟩
    exact ⟨_, results_tmp rfl _ _ _, rfl, k1.below HJ.out.below (Nat.le_refl _)⟩
end Go.Proofs.Ytbkepkiaabeliaa
