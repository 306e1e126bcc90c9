/- A set of received numbers in memory: a block that holds its floor, a map of the numbers above it, and what was told twice. -/
import Derived.WalkSpells
import Derived.KernelRfl
import Derived.Test.YtofebpikihandaaProg
import Derived.Test.YtofebpikihandaaGMath
import Derived.Test.YtofebpikihandaaSer1
import Derived.Test.YtofebpikihandaaPart
import Derived.Maps.OwnSet
import Derived.Maps.AppendAt
namespace Go.Proofs.Ytofebpikihandaa
open Go.RowKit Go.Maps
set_option linter.unusedVariables false

/-- A number as a key. -/
abbrev K (x : Int) : Lit := .int .u32 x
abbrev Dat := DataW Nat
theorem wf32 {x : Int} (h0 : 0 ≤ x) (h1 : x < 4294967296) : (K x).wf = true := by
  simp [Lit.wf, IntKind.min, IntKind.max, IntKind.signed, IntKind.bits]
  omega
theorem K_key {x : Int} (h0 : 0 ≤ x) (h1 : x < 4294967296) : keyOf Try.prog 22 (.int .u32 x) = some (K x) := keyOf_int_mk Try.underlying22 (wf32 h0 h1)
theorem keyed : Keyed Try.prog 22 := int_keyed Try.underlying22
theorem K_lit (x : Int) : WideAt.IsKeyLit (K x) := by simp [WideAt.IsKeyLit]
theorem K_inj {x y : Int} (h : K x = K y) : x = y := by injection h
theorem K_ne {x y : Int} (h : x ≠ y) : K x ≠ K y := fun e => h (K_inj e)
abbrev UE : Value → Option (Dat × List MemPlace) := unitElem
theorem zero_unit (w : World) : (zeroValue 56).run Try.prog w = .ok (.agg #[]) w := by kernel_rfl

/-- How high n stands above f. -/
def ht (f n : Int) : Nat := (dist32 f n).toNat
theorem ht_lt (f n : Int) : ht f n < 4294967296 := by have := dist32_hi f n; have := dist32_lo f n; unfold ht; omega
theorem ht_int (f n : Int) : ((ht f n : Nat) : Int) = dist32 f n := by have := dist32_lo f n; unfold ht; omega
theorem ht_up (f : Int) (d : Nat) (hd : d < 4294967296) : ht f (wr (f + d)) = d := by unfold ht dist32 dist wr; omega
theorem up_ht {f n : Int} (h0 : 0 ≤ n) (h1 : n < 4294967296) : wr (f + ht f n) = n := by rw [ht_int]; unfold dist32 dist wr; omega
theorem ht_inj {f n m : Int} (n0 : 0 ≤ n) (n1 : n < 4294967296) (m0 : 0 ≤ m) (m1 : m < 4294967296) (h : ht f n = ht f m) : n = m := by rw [← up_ht (f := f) n0 n1, h, up_ht m0 m1]
theorem ht_shift {f n : Int} {d : Nat} (h : d ≤ ht f n) : ht (wr (f + d)) n = ht f n - d := by
  have := ht_int f n
  unfold ht dist32 dist wr at *
  omega
theorem ht_round {f n : Int} {d : Nat} (h : ht f n < d) (hd : d < 4294967296) : ht (wr (f + d)) n = ht f n + 4294967296 - d := by
  have := ht_int f n
  unfold ht dist32 dist wr at *
  omega

/-- The map D holds the numbers at the heights L above f. -/
structure Keys (D : Dat) (f : Int) (L : List Nat) : Prop where
  tidy : Tidy D
  only : ∀ k, has D k = true → ∃ n, k = K n ∧ 0 ≤ n ∧ n < 4294967296
  there : ∀ n, 0 ≤ n → n < 4294967296 → has D (K n) = decide (ht f n ∈ L)

theorem Keys.nil (f : Int) : Keys (.map []) f [] := ⟨tidy_empty, fun k h => (by cases h), fun n _ _ => by simp; rfl⟩
theorem Keys.of_iff {D : Dat} {f f' : Int} {L L' : List Nat} (h : Keys D f L) (e : ∀ n, 0 ≤ n → n < 4294967296 → (ht f n ∈ L ↔ ht f' n ∈ L')) : Keys D f' L' :=
  ⟨h.tidy, h.only, fun n n0 n1 => by rw [h.there n n0 n1]; exact decide_eq_decide.2 (e n n0 n1)⟩
theorem Keys.put {D : Dat} {f : Int} {L : List Nat} (h : Keys D f L) {n : Int} (n0 : 0 ≤ n) (n1 : n < 4294967296) : Keys (D.put (K n) (.agg [])) f (insN (ht f n) L) := by
  refine ⟨h.tidy.put (K_lit n) _, fun k hk => ?_, fun m m0 m1 => ?_⟩
  · by_cases e : k = K n
    · exact ⟨n, e, n0, n1⟩
    · rw [has_put_other e] at hk
      exact h.only k hk
  · by_cases e : m = n
    · subst e
      rw [has_put_same h.tidy.isMap (K_lit m)]
      simp [mem_insN]
    · rw [has_put_other (K_ne e), h.there m m0 m1]
      refine decide_eq_decide.2 ?_
      rw [mem_insN]
      exact ⟨.inr, fun c => c.resolve_left fun c => e (ht_inj m0 m1 n0 n1 c)⟩
/-- The next number goes: the floor is there. -/
theorem Keys.next {D : Dat} {f : Int} {L : List Nat} (h : Keys D f L) (hL : ∀ x ∈ L, 1 ≤ x ∧ x < 4294967296) : Keys (D.del (K (wr (f + 1)))) (wr (f + 1)) (shiftL 1 L) := by
  refine ⟨h.tidy.del _, fun k hk => ?_, fun m m0 m1 => ?_⟩
  · by_cases e : k = K (wr (f + 1))
    · rw [e, has_del_same] at hk
      cases hk
    · rw [has_del_other e] at hk
      exact h.only k hk
  · have e1 : ((1 : Nat) : Int) = 1 := rfl
    by_cases e : m = wr (f + 1)
    · subst e
      rw [has_del_same]
      have : ht (wr (f + 1)) (wr (f + 1)) = 0 := by unfold ht dist32 dist; omega
      rw [this]
      simp [mem_shiftL]
    · rw [has_del_other (K_ne e), h.there m m0 m1]
      refine decide_eq_decide.2 ?_
      rw [mem_shiftL]
      have hlt := ht_lt f m
      have hne : ht f m ≠ 1 := fun c => e (by rw [← up_ht (f := f) m0 m1, c, e1])
      by_cases h0 : ht f m = 0
      · have := ht_round (f := f) (n := m) (d := 1) (by omega) (by omega)
        rw [e1] at this
        rw [this, h0]
        constructor
        · intro c
          have := (hL 0 c).1
          omega
        · rintro ⟨_, c⟩
          have := (hL _ c).2
          omega
      · have := ht_shift (f := f) (n := m) (d := 1) (by omega)
        rw [e1] at this
        rw [this, show ht f m - 1 + 1 = ht f m by omega]
        exact ⟨fun c => ⟨by omega, c⟩, fun c => c.2⟩
theorem Keys.size {D : Dat} {f : Int} {L : List Nat} (h : Keys D f L) {w : World} {k n : Nat} (hown : w.ownsMap Try.prog 22 UE k n D) (hn : L.Nodup) (hL : ∀ x ∈ L, x < 4294967296) : Maps.size D = L.length := by
  obtain ⟨es, rfl, hp, hk⟩ := hown.entries keyed
  have hm : ∀ k, has (.map es : Dat) k = true ↔ ∃ p ∈ es, p.1 = k := fun k => by
    rw [has_eq, List.any_eq_true]
    constructor
    · rintro ⟨p, hp1, hp2⟩
      exact ⟨p, hp1, WideAt.sameKey_eq hp2⟩
    · rintro ⟨p, hp1, rfl⟩
      exact ⟨p, hp1, WideAt.sameKey_self (hk p hp1)⟩
  have h1 : (es.map (·.1)).Nodup := by
    unfold List.Nodup
    rw [List.pairwise_map]
    exact hp
  have h2 : (L.map fun (x : Nat) => K (wr (f + (x : Int)))).Nodup := by
    unfold List.Nodup
    rw [List.pairwise_map]
    refine hn.imp_of_mem fun {a b} ha hb hab e => hab ?_
    have := K_inj e
    rw [← ht_up f a (hL a ha), ← ht_up f b (hL b hb), this]
  have h3 := (List.perm_ext_iff_of_nodup h1 h2).2 fun x => by
    rw [List.mem_map, List.mem_map]
    constructor
    · rintro ⟨p, hp1, rfl⟩
      have hh := (hm p.1).2 ⟨p, hp1, rfl⟩
      obtain ⟨m, hm1, m0, m1⟩ := h.only _ hh
      rw [hm1] at hh ⊢
      rw [h.there m m0 m1] at hh
      exact ⟨ht f m, by simpa using hh, by rw [up_ht m0 m1]⟩
    · rintro ⟨x, hx, rfl⟩
      have hh := h.there (wr (f + x)) (wr_lo _) (wr_hi _)
      rw [ht_up f x (hL x hx)] at hh
      exact (hm _).1 (by rw [hh]; simpa using hx)
  have := h3.length_eq
  simpa [Maps.size] using this

theorem ownsMap_tight {w : World} {b n : Nat} {D : Dat} (h : w.ownsMap Try.prog 22 UE b n D) : w.ownsMap Try.prog 22 UE b (Maps.size D) D := by
  obtain ⟨es, clock, hb, F, hs, hD⟩ := h
  refine ⟨es, clock, hb, F, ?_, hD⟩
  rw [hD]
  simp [Maps.size, length_sorted]

/-- What may stand in a set: rising heights, none above 1024. -/
structure Fit (L : List Nat) : Prop where
  asc : Asc L
  top : ∀ h ∈ L, h ≤ 1024
theorem Fit.nil : Fit [] := ⟨Asc.nil, fun _ h => absurd h List.not_mem_nil⟩
theorem Fit.lt {L : List Nat} (h : Fit L) : ∀ x ∈ L, x < 4294967296 := fun x hx => by have := h.top x hx; omega
theorem Fit.both {L : List Nat} (h : Fit L) : ∀ x ∈ L, 1 ≤ x ∧ x < 4294967296 := fun x hx => ⟨h.asc.pos x hx, h.lt x hx⟩
theorem Fit.shift {L : List Nat} (h : Fit L) (d : Nat) : Fit (shiftL d L) := ⟨h.asc.shift d, fun x hx => by have := h.top _ (mem_shiftL.1 hx).2; omega⟩
theorem Fit.ins {L : List Nat} (h : Fit L) {x : Nat} (h1 : 1 ≤ x) (h2 : x ≤ 1024) : Fit (insN x L) := ⟨h.asc.ins h1, fun y hy => by
  rcases mem_insN.1 hy with rfl | hy
  · exact h2
  · exact h.top y hy⟩
theorem asc_len' : ∀ (L : List Nat) (lo m : Nat), L.Pairwise (· < ·) → (∀ x ∈ L, lo < x) → (∀ x ∈ L, x ≤ m) → lo ≤ m → L.length + lo ≤ m
  | [], lo, m, _, _, _, h => by simpa using h
  | x :: r, lo, m, hp, hl, hm, h => by
    obtain ⟨h1, h2⟩ := List.pairwise_cons.1 hp
    have h3 := hl x (by simp)
    have h4 := hm x (by simp)
    have := asc_len' r x m h2 h1 (fun y hy => hm y (by simp [hy])) h4
    simp only [List.length_cons]
    omega
theorem asc_len {L : List Nat} (h : Asc L) (m : Nat) (hm : ∀ x ∈ L, x ≤ m) : L.length ≤ m := by
  have := asc_len' L 0 m h.up (fun x hx => h.pos x hx) hm (Nat.zero_le _)
  omega
theorem Fit.len {L : List Nat} (h : Fit L) : L.length ≤ 1024 := asc_len h.asc 1024 h.top

/-- The map in block k holds the numbers at the heights L above f. -/
def MapAt (w : World) (k : Nat) (f : Int) (L : List Nat) : Prop := Fit L ∧ ∃ D : Dat, w.ownsMap Try.prog 22 UE k L.length D ∧ Keys D f L
theorem MapAt.of {w : World} {k n : Nat} {D : Dat} {f : Int} {L : List Nat} (h : w.ownsMap Try.prog 22 UE k n D) (hf : Fit L) (hk : Keys D f L) : MapAt w k f L :=
  ⟨hf, D, by have := ownsMap_tight h; rwa [hk.size h hf.asc.nodup hf.lt] at this, hk⟩
theorem MapAt.lt {w : World} {k : Nat} {f : Int} {L : List Nat} (h : MapAt w k f L) : k < w.heap.size := by
  obtain ⟨_, D, hD, _⟩ := h
  exact hD.lt
theorem MapAt.kept {S : Nat → Prop} {w w' : World} {k : Nat} {f : Int} {L : List Nat} (h : MapAt w k f L) (hp : Part S w w') (hk : ¬ S k) : MapAt w' k f L := by
  have hlt := h.lt
  obtain ⟨h1, D, ⟨es, clock, hb, r⟩, hs⟩ := h
  exact ⟨h1, D, ⟨es, clock, (hp.block k hlt hk).trans hb, r⟩, hs⟩

/-- Numbers of 32 bits, as cells. -/
def u32s (T : List Int) : List Value := T.map (.int .u32)
theorem u32s_len (T : List Int) : (u32s T).length = T.length := by simp [u32s]
theorem u32s_one (T : List Int) : ∀ u ∈ u32s T, u.oneCell' = true := by
  intro u hu
  obtain ⟨_, _, rfl⟩ := List.mem_map.1 hu
  rfl

/-- The block b is a set: its floor is f, its map lies in block k, v is what was told twice. -/
structure SetAt (w : World) (b k : Nat) (v : Value) (f : Int) (L : List Nat) (T : List Int) : Prop where
  blk : w.heap[b]? = some (.cells #[.int .u32 f, .map (some k), v] 52 (0, 0))
  map : MapAt w k f L
  row : w.ownsRow 0 22 1 v T.length (u32s T)
  lo : 0 ≤ f
  hi : f < 4294967296
  few : T.length ≤ 64
/-- The blocks of a set. -/
def Ow (b k : Nat) (v : Value) (i : Nat) : Prop := i = b ∨ i = k ∨ v.ownBlock = some i

theorem SetAt.lt {w : World} {b k : Nat} {v : Value} {f : Int} {L : List Nat} {T : List Int} (h : SetAt w b k v f L T) : b < w.heap.size := (Array.getElem?_eq_some_iff.1 h.blk).1
theorem SetAt.ne {w : World} {b k : Nat} {v : Value} {f : Int} {L : List Nat} {T : List Int} (h : SetAt w b k v f L T) : k ≠ b := by
  rintro rfl
  obtain ⟨_, D, ⟨es, clock, hb, _⟩, _⟩ := h.map
  rw [h.blk] at hb
  cases hb
theorem own_cells {w : World} {base : Nat} {e : TypeId} {size : Nat} {v : Value} {n : Nat} {xs : List Value} (h : w.ownsRow base e size v n xs) {g : Nat} (hg : v.ownBlock = some g) : ∃ cur fr, w.heap[g]? = some (.cells cur e fr) := by
  rcases h.2 with ⟨rfl, _⟩ | ⟨g', cap, cur, rfl, _, hgg, _⟩
  · simp [Value.ownBlock] at hg
  · simp [Value.ownBlock] at hg
    subst hg
    exact ⟨cur, _, hgg⟩
theorem SetAt.row_ne {w : World} {b k : Nat} {v : Value} {f : Int} {L : List Nat} {T : List Int} (h : SetAt w b k v f L T) {g : Nat} (hg : v.ownBlock = some g) : g ≠ b ∧ g ≠ k ∧ g < w.heap.size := by
  obtain ⟨cur, fr, hc⟩ := own_cells h.row hg
  refine ⟨?_, ?_, (Array.getElem?_eq_some_iff.1 hc).1⟩
  · rintro rfl
    rw [h.blk] at hc
    simp at hc
  · rintro rfl
    obtain ⟨_, D, ⟨es, clock, hb, _⟩, _⟩ := h.map
    rw [hb] at hc
    cases hc
theorem SetAt.ow_lt {w : World} {b k : Nat} {v : Value} {f : Int} {L : List Nat} {T : List Int} (h : SetAt w b k v f L T) {i : Nat} (hi : Ow b k v i) : i < w.heap.size := by
  rcases hi with rfl | rfl | hi
  · exact h.lt
  · exact h.map.lt
  · exact (h.row_ne hi).2.2
theorem SetAt.kept {S : Nat → Prop} {w w' : World} {b k : Nat} {v : Value} {f : Int} {L : List Nat} {T : List Int} (h : SetAt w b k v f L T) (hp : Part S w w') (hk : ∀ i, Ow b k v i → ¬ S i) : SetAt w' b k v f L T :=
  ⟨(hp.block b h.lt (hk b (.inl rfl))).trans h.blk, h.map.kept hp (hk k (.inr (.inl rfl))), hp.own h.row fun g hg => hk g (.inr (.inr hg)), h.lo, h.hi, h.few⟩
theorem SetAt.step {w w' : World} {b k : Nat} {v : Value} {f : Int} {L : List Nat} {T : List Int} (h : SetAt w b k v f L T) (hp : Below w.heap.size w w') : SetAt w' b k v f L T := h.kept (Part.of_below (fun _ => False) hp) fun _ _ hc => hc
theorem SetAt.c0 {w : World} {b k : Nat} {v : Value} {f : Int} {L : List Nat} {T : List Int} (h : SetAt w b k v f L T) : w.cell? ⟨b, 0, none⟩ = some (.int .u32 f) := by
  rw [cell_of_row w b 0 _ _ _ h.blk]
  rfl
theorem SetAt.c1 {w : World} {b k : Nat} {v : Value} {f : Int} {L : List Nat} {T : List Int} (h : SetAt w b k v f L T) : w.cell? ⟨b, 1, none⟩ = some (.map (some k)) := by
  rw [cell_of_row w b 1 _ _ _ h.blk]
  rfl
theorem SetAt.c2 {w : World} {b k : Nat} {v : Value} {f : Int} {L : List Nat} {T : List Int} (h : SetAt w b k v f L T) : w.cell? ⟨b, 2, none⟩ = some v := by
  rw [cell_of_row w b 2 _ _ _ h.blk]
  rfl
theorem SetAt.fz {w : World} {b k : Nat} {v : Value} {f : Int} {L : List Nat} {T : List Int} (h : SetAt w b k v f L T) (j : Nat) : w.frozen? ⟨b, j, none⟩ = false := by simp [World.frozen?, h.blk]

theorem zero_at (w : World) : (zeroValue 52).run Try.prog w = .ok (.agg #[.int .u32 0, .map none, .slice none 0 0]) w := by kernel_rfl

theorem New_any (n : Int) (n0 : 0 ≤ n) (n1 : n < 4294967296) (w : World) :
    Calls Try.prog 6 #[.int .u32 n] w fun e w' => ∃ b k, e = .returned (.pointer (some ⟨b, 0, none⟩)) ∧ SetAt w' b k (.slice none 0 0) (wr (n - 1)) [] [] ∧ w.heap.size ≤ b ∧ w.heap.size ≤ k ∧ Below w.heap.size w w' := by
  have e1 : Hid ((n - 1) % 4294967296 = wr (n - 1)) := rfl
  have h0 := zero_at
  have hmm := @run_makeMap Try.prog
  go_enter Try.func6, Try.ntmps6
  go_wp2_with fail
  go_ret
  have hb := heap_alloc_new (w.alloc (.map #[] 0)) (.cells #[.int .u32 ((n - 1) % 4294967296), .map (some w.heap.size), .slice none 0 0] 52)
  have hs : (w.alloc (.map #[] 0)).heap.size = w.heap.size + 1 := by simp
  rw [hs] at hb
  refine ⟨w.heap.size + 1, w.heap.size, rfl, ⟨hb, ?_, World.ownsRow_nil _ _ _ _, wr_lo _, wr_hi _, by decide⟩, by omega, Nat.le_refl _, (below_lay w _).alloc (by omega) _⟩
  exact MapAt.of ((World.ownsMap_made w Try.prog 22 UE).alloc _) Fit.nil (Keys.nil _)
end Go.Proofs.Ytofebpikihandaa
