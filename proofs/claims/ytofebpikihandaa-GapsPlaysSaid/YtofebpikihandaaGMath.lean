/- Received numbers as a list of heights above a floor: plain numbers. -/
import Derived.WalkKit
namespace Go.Proofs.Ytofebpikihandaa
set_option linter.unusedVariables false

/-- The floor d higher, going round. -/
def wr (x : Int) : Int := x % 4294967296
theorem wr_lo (x : Int) : 0 ≤ wr x := by unfold wr; omega
theorem wr_hi (x : Int) : wr x < 4294967296 := by unfold wr; omega
theorem wr_of {x : Int} (h0 : 0 ≤ x) (h1 : x < 4294967296) : wr x = x := by unfold wr; omega
theorem wr_add (x y : Int) : wr (wr x + y) = wr (x + y) := by unfold wr; omega

/-- Rising heights, all above 0. -/
structure Asc (L : List Nat) : Prop where
  up : L.Pairwise (· < ·)
  pos : ∀ h ∈ L, 1 ≤ h

theorem Asc.nil : Asc [] := ⟨List.Pairwise.nil, fun _ h => absurd h List.not_mem_nil⟩
theorem Asc.nodup {L : List Nat} (h : Asc L) : L.Nodup := h.up.imp fun {a b} hab => Nat.ne_of_lt hab
theorem Asc.eq {L M : List Nat} (h : Asc L) (k : Asc M) (e : ∀ x, x ∈ L ↔ x ∈ M) : L = M :=
  ((List.perm_ext_iff_of_nodup h.nodup k.nodup).2 e).eq_of_pairwise (le := (· < ·)) (fun a b _ _ h1 h2 => absurd h1 (Nat.lt_asymm h2)) h.up k.up

/-- What is above d, d lower. -/
def shiftL (d : Nat) (L : List Nat) : List Nat := (L.filter fun h => decide (d < h)).map (· - d)
theorem mem_shiftL {d : Nat} {L : List Nat} {x : Nat} : x ∈ shiftL d L ↔ 1 ≤ x ∧ x + d ∈ L := by
  unfold shiftL
  rw [List.mem_map]
  constructor
  · rintro ⟨y, hy, rfl⟩
    obtain ⟨h1, h2⟩ := List.mem_filter.1 hy
    have h3 : d < y := by simpa using h2
    exact ⟨by omega, by rwa [show y - d + d = y by omega]⟩
  · rintro ⟨h1, h2⟩
    exact ⟨x + d, List.mem_filter.2 ⟨h2, by simp; omega⟩, by omega⟩
theorem Asc.shift {L : List Nat} (h : Asc L) (d : Nat) : Asc (shiftL d L) := by
  refine ⟨?_, fun x hx => (mem_shiftL.1 hx).1⟩
  unfold shiftL
  rw [List.pairwise_map]
  refine (h.up.filter _).imp_of_mem fun {a b} ha hb hab => ?_
  have h1 : d < a := by simpa using (List.mem_filter.1 ha).2
  show a - d < b - d
  omega
theorem len_shiftL (d : Nat) (L : List Nat) : (shiftL d L).length ≤ L.length := by
  unfold shiftL
  rw [List.length_map]
  exact List.length_filter_le _ _
theorem shiftL_zero {L : List Nat} (h : Asc L) : shiftL 0 L = L := (h.shift 0).eq h fun x => by
  rw [mem_shiftL]
  exact ⟨fun k => k.2, fun k => ⟨h.pos x k, k⟩⟩
theorem shiftL_shiftL {L : List Nat} (h : Asc L) (a b : Nat) : shiftL b (shiftL a L) = shiftL (a + b) L :=
  ((h.shift a).shift b).eq (h.shift _) fun x => by
    rw [mem_shiftL, mem_shiftL, mem_shiftL, show x + b + a = x + (a + b) by omega]
    exact ⟨fun k => ⟨k.1, k.2.2⟩, fun k => ⟨k.1, by omega, k.2⟩⟩

/-- One more height at its place. -/
def insN (h : Nat) : List Nat → List Nat
  | [] => [h]
  | x :: r => if h < x then h :: x :: r else if h = x then x :: r else x :: insN h r
theorem mem_insN {h x : Nat} {L : List Nat} : x ∈ insN h L ↔ x = h ∨ x ∈ L := by
  induction L with
  | nil => simp [insN]
  | cons y r ih =>
    unfold insN
    by_cases h1 : h < y
    · rw [if_pos h1]
      simp
    · rw [if_neg h1]
      by_cases h2 : h = y
      · rw [if_pos h2]
        subst h2
        simp
      · rw [if_neg h2]
        simp only [List.mem_cons, ih]
        constructor
        · rintro (rfl | rfl | h3) <;> simp_all
        · rintro (rfl | rfl | h3) <;> simp_all
theorem Asc.ins {L : List Nat} (k : Asc L) {h : Nat} (hp : 1 ≤ h) : Asc (insN h L) := by
  refine ⟨?_, fun x hx => ?_⟩
  · have := k.up
    clear k
    induction L with
    | nil => exact List.pairwise_singleton _ _
    | cons y r ih =>
      obtain ⟨h1, h2⟩ := List.pairwise_cons.1 this
      unfold insN
      by_cases c1 : h < y
      · rw [if_pos c1]
        refine List.pairwise_cons.2 ⟨fun z hz => ?_, this⟩
        rcases List.mem_cons.1 hz with rfl | hz
        · exact c1
        · exact Nat.lt_trans c1 (h1 z hz)
      · rw [if_neg c1]
        by_cases c2 : h = y
        · rw [if_pos c2]
          exact this
        · rw [if_neg c2]
          refine List.pairwise_cons.2 ⟨fun z hz => ?_, ih h2⟩
          rcases mem_insN.1 hz with rfl | hz
          · omega
          · exact h1 z hz
  · rcases mem_insN.1 hx with rfl | hx
    · exact hp
    · exact k.pos x hx
theorem len_insN {h : Nat} {L : List Nat} : (insN h L).length ≤ L.length + 1 := by
  induction L with
  | nil => simp [insN]
  | cons y r ih =>
    unfold insN
    split
    · simp
    · split
      · simp
      · simp
        omega

/-- The floor goes up by u: all up to u are there, and the next one is not. -/
structure Rise (L : List Nat) (u : Nat) : Prop where
  all : ∀ h, 1 ≤ h → h ≤ u → h ∈ L
  no : u + 1 ∉ L
theorem Rise.one {L : List Nat} {u v : Nat} (h : Rise L u) (k : Rise L v) : u = v := by
  rcases Nat.lt_trichotomy u v with h1 | h1 | h1
  · exact absurd (k.all (u + 1) (by omega) (by omega)) h.no
  · exact h1
  · exact absurd (h.all (v + 1) (by omega) (by omega)) k.no
theorem Rise.le {L : List Nat} {u m : Nat} (h : Rise L u) (hm : ∀ x ∈ L, x ≤ m) : u ≤ m := by
  rcases Nat.eq_zero_or_pos u with h0 | h0
  · omega
  · exact hm u (h.all u h0 (Nat.le_refl _))
def riseFrom (L : List Nat) : Nat → Nat → Nat
  | 0, k => k
  | n + 1, k => if L.contains (k + 1) then riseFrom L n (k + 1) else k
theorem riseFrom_spec (L : List Nat) (m : Nat) (hm : ∀ x ∈ L, x ≤ m) : ∀ n k, m < k + n + 1 → (∀ h, 1 ≤ h → h ≤ k → h ∈ L) → Rise L (riseFrom L n k) := by
  intro n
  induction n with
  | zero =>
    intro k hk ha
    show Rise L k
    exact ⟨ha, fun h => by have := hm _ h; omega⟩
  | succ n ih =>
    intro k hk ha
    unfold riseFrom
    by_cases hc : L.contains (k + 1)
    · rw [if_pos hc]
      refine ih (k + 1) (by omega) fun h h1 h2 => ?_
      by_cases he : h = k + 1
      · rw [he]
        simpa using hc
      · exact ha h h1 (by omega)
    · rw [if_neg hc]
      exact ⟨ha, by simpa using hc⟩
theorem rise_ex (L : List Nat) (m : Nat) (hm : ∀ x ∈ L, x ≤ m) : ∃ u, Rise L u := ⟨_, riseFrom_spec L m hm m 0 (by omega) fun h h1 h2 => absurd h1 (by omega)⟩
theorem Rise.shift_two {L : List Nat} {u : Nat} (h : Rise L u) : ∀ x ∈ shiftL u L, 2 ≤ x := fun x hx => by
  obtain ⟨h1, h2⟩ := mem_shiftL.1 hx
  by_cases h3 : x = 1
  · subst h3
    exact absurd (by rwa [Nat.add_comm] at h2) h.no
  · omega
theorem Rise.succ {L : List Nat} (hL : Asc L) (h1 : 1 ∈ L) {u : Nat} (h : Rise (shiftL 1 L) u) : Rise L (u + 1) := by
  refine ⟨fun x hx hu => ?_, fun hc => h.no (mem_shiftL.2 ⟨by omega, hc⟩)⟩
  by_cases hx1 : x = 1
  · rw [hx1]
    exact h1
  · have := (mem_shiftL.1 (h.all (x - 1) (by omega) (by omega))).2
    rwa [show x - 1 + 1 = x by omega] at this
theorem Rise.zero {L : List Nat} (h1 : 1 ∉ L) : Rise L 0 := ⟨fun h a b => absurd a (by omega), h1⟩

/-- One more height behind the runs, the last one first. -/
def pushRun : List (Nat × Nat) → Nat → List (Nat × Nat)
  | [], h => [(h, h)]
  | (a, b) :: r, h => if h = b + 1 then (a, h) :: r else (h, h) :: (a, b) :: r
theorem push_on {a b h : Nat} {r : List (Nat × Nat)} (e : h = b + 1) : pushRun ((a, b) :: r) h = (a, h) :: r := by rw [pushRun, if_pos e]
theorem push_off {a b h : Nat} {r : List (Nat × Nat)} (e : ¬ h = b + 1) : pushRun ((a, b) :: r) h = (h, h) :: (a, b) :: r := by rw [pushRun, if_neg e]
/-- The runs of rising heights: first and last of each; the first 64. -/
def runsR (L : List Nat) : List (Nat × Nat) := L.foldl pushRun []
def runs (L : List Nat) : List (Nat × Nat) := (runsR L).reverse.take 64
theorem runsR_snoc (L : List Nat) (h : Nat) : runsR (L ++ [h]) = pushRun (runsR L) h := by simp [runsR]
theorem push_keeps (L : List Nat) : ∀ (x : Nat × Nat) (r : List (Nat × Nat)), ∃ M, L.foldl pushRun (x :: r) = M ++ r := by
  induction L with
  | nil => exact fun x r => ⟨[x], rfl⟩
  | cons h t ih =>
    rintro ⟨a, b⟩ r
    rw [List.foldl_cons]
    by_cases hb : h = b + 1
    · rw [push_on hb]
      exact ih _ _
    · rw [push_off hb]
      obtain ⟨M, hM⟩ := ih (h, h) ((a, b) :: r)
      exact ⟨M ++ [(a, b)], by rw [hM]; simp⟩
/-- With 64 runs, the last of which ends ahead of h: whatever comes behind is no more told. -/
theorem runs_full (p t : List Nat) (h a b : Nat) (r : List (Nat × Nat)) (hr : runsR p = (a, b) :: r) (hl : r.length = 63) (hb : ¬ h = b + 1) : runs (p ++ h :: t) = (runsR p).reverse := by
  unfold runs runsR
  rw [List.foldl_append, List.foldl_cons]
  have e : pushRun (p.foldl pushRun []) h = (h, h) :: (a, b) :: r := by
    show pushRun (runsR p) h = _
    rw [hr, push_off hb]
  rw [e]
  obtain ⟨M, hM⟩ := push_keeps t (h, h) ((a, b) :: r)
  rw [hM]
  have hr' : List.foldl pushRun [] p = (a, b) :: r := hr
  rw [hr', List.reverse_append, List.take_append_of_le_length (by simp [hl]), List.take_of_length_le (by simp [hl])]
theorem runs_small (L : List Nat) (h : (runsR L).length ≤ 64) : runs L = (runsR L).reverse := by
  unfold runs
  exact List.take_of_length_le (by simpa using h)
theorem runs_len (L : List Nat) : (runs L).length ≤ 64 := by
  unfold runs
  rw [List.length_take]
  omega
end Go.Proofs.Ytofebpikihandaa
