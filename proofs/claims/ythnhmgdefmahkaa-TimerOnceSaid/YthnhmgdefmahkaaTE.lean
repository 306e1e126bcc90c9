/- The library's sorting of timers. -/
import Derived.Test.YthnhmgdefmahkaaTShelf
import Derived.Test.YthnhmgdefmahkaaTA
import Derived.Test.YthnhmgdefmahkaaTB
import Derived.Test.YthnhmgdefmahkaaTR
namespace Go.Proofs.Ythnhmgdefmahkaa
open Go.RowKit Go.Sort Go.Proofs
set_option linter.unusedVariables false

/-- A timer's two cells. -/
def encE (x : Int × Int) : List Value := [.int .i64 x.1, .int .i64 x.2]

theorem ltOf_ordI (x y : Int × Int) : ltOf ordI x y = bef x y := ordI_lt x y
theorem swoE : SWO (ltOf ordI) where
  irrefl x := by rw [ltOf_ordI, bef_no]; omega
  trans x y z h1 h2 := by rw [ltOf_ordI] at *; exact bef_trans h1 h2
  ntrans x y z h1 h2 := by rw [ltOf_ordI] at *; rw [bef_no] at *; omega

theorem flat_flatK (d : List (Int × Int)) (j : Nat) (hj : j < d.length * 2) : (flat d)[j]? = some (flatK encE 2 d.toArray)[j]! := by
  have hi : j / 2 < d.length := by omega
  have hg := flat_get d (j / 2) d[j / 2] (List.getElem?_eq_getElem hi)
  rw [get_flatK _ _ _ _ (by simpa using hj)]
  have e1 : d.toArray[j / 2]! = d[j / 2] := by rw [getElem!_pos d.toArray (j / 2) (by simpa using hi)]; simp
  rw [e1]
  rcases Nat.mod_two_eq_zero_or_one j with h0 | h0
  · have e2 : (flat d)[j]? = (flat d)[j / 2 * 2]? := by congr 1; omega
    rw [h0, e2, hg.1]
    rfl
  · have e2 : (flat d)[j]? = (flat d)[j / 2 * 2 + 1]? := by congr 1; omega
    rw [h0, e2, hg.2]
    rfl

theorem cmpLaysE (g size : Nat) (w : World) : CmpLays Try.prog 22 #[] encE 2 ordI g 0 size w :=
  fun _ _ _ _ x y => order_any x y _

theorem part_sort (w : World) (g n : Nat) (d : Array (Int × Int)) (os : Array Obj) : Part (fun k => k = g) w (sortWorldK encE 2 w g 0 n d os) := by
  refine ⟨rfl, rfl, rfl, by unfold sortWorldK; rw [size_grow, size_putRowK]; exact Nat.le_add_right _ _, fun k hk hn => ?_⟩
  unfold sortWorldK
  rw [heap_grow_old _ _ (by rw [size_putRowK]; exact hk)]
  unfold putRowK putRow mapBlock
  simp only [Array.getElem?_modify]
  rw [if_neg (fun e => hn e.symm)]
  rfl

set_option maxHeartbeats 1000000 in
theorem Sort_row (g cap : Nat) (t : TypeId) (cur : Array Value) (d : List (Int × Int)) (w : World) (hg : w.heap[g]? = some (.cells cur t (0, 0))) (ht : cur.toList.take (d.length * 2) = flat d) (hsz : d.length ≤ 1000000) :
    Calls Try.prog 21 #[.slice (some ⟨g, 0, none⟩) d.length cap, .func (.func 22) #[] #[]] w fun e w' =>
      e = .returned (.tuple #[]) ∧ ∃ d', d'.Perm d ∧ d'.Pairwise (fun p q => bef q p = false) ∧ SR w' (some ⟨g, 0, none⟩) (flat d') ∧ Part (fun k => k = g) w w' := by
  have eg : ∀ args w, (callFunc 22 args).run Try.prog w = .ok (.enter 22 args) w := enters_of Try.func22 (by kernel_rfl) rfl
  have hlt : g < w.heap.size := (Array.getElem?_eq_some_iff.1 hg).1
  have hH : HoldsK encE 2 w g 0 d.toArray := fun j hj => by
    have hj' : j < d.length * 2 := by simpa using hj
    refine ⟨?_, by simp [World.frozen?, hg]⟩
    rw [Nat.zero_add, cell_of_row w g j cur t _ hg]
    have h1 := flat_flatK d j hj'
    rw [← ht, List.getElem?_take, if_pos hj'] at h1
    simpa using h1
  have hcon := AnyQ.slices_SortFunc sortE 2 Try.isAgg56 Try.sizeOf56 encE (fun _ => rfl) (fun x v hv => by simp [encE] at hv; rcases hv with rfl | rfl <;> rfl) ordI swoE 22 #[] g 0 cap d.toArray w eg (cmpLaysE g _ w) hH hlt (by simp; omega)
  change Calls Try.prog 21 _ _ _ at hcon
  rw [List.size_toArray] at hcon
  refine hcon.mono ?_
  rintro e w' ⟨rfl, d', n, os, hp, hs, rfl⟩
  have hsize : d'.size = d.length := by have := hp.1; simpa using this
  have hH' := holdsK_sortWorldK_c encE 2 w g 0 d.toArray d' n os hH hlt (by simpa using hsize)
  refine ⟨rfl, d'.toList, ?_, ?_, fun hx => ⟨g, 0, rfl, by have := (part_sort w g n d' os).size; omega, fun j u hu => ?_⟩, part_sort w g n d' os⟩
  · have := hp.2.2
    have e1 : d'.extract 0 d.length = d' := by rw [← hsize]; simp
    have e2 : d.toArray.extract 0 d.length = d.toArray := by simp
    rw [e1, e2] at this
    simpa using this
  · rw [List.pairwise_iff_getElem]
    intro i j hi hj hij
    have hj' : j < d'.size := by simpa using hj
    have hi' : i < d'.size := by simpa using hi
    have := hs i j (Nat.zero_le _) hij (by omega)
    rw [ltOf_ordI, getElem!_pos d' j hj', getElem!_pos d' i hi'] at this
    simpa using this
  · have hj : j < d'.toList.length * 2 := by
      have := (List.getElem?_eq_some_iff.1 hu).1
      rwa [flat_len] at this
    have h1 := flat_flatK d'.toList j hj
    rw [hu] at h1
    injection h1 with h1
    have h2 := (hH' j (by rw [size_flatK]; simpa using hj)).1
    rw [h1]
    simpa using h2
end Go.Proofs.Ythnhmgdefmahkaa
