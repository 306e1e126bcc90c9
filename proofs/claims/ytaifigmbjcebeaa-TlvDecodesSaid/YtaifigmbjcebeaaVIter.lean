/- tlv.read: what its iterator hands on, for every loop body that keeps readers and octets as they were. -/
import Derived.Test.YtaifigmbjcebeaaVRead
import Derived.Test.YtaifigmbjcebeaaRange
import Derived.Shelf.RegionOpen
import Derived.OwnWalkIn
import Derived.TacticsInMore
import Derived.LoopNIn
import Derived.LoopIn
namespace Go.Proofs.Ytaifigmbjcebeaa
open Go.RowKit
attribute [local go_sem] Oper.semAt_some
set_option linter.unusedVariables false

/-- Readers and octets are as they were. -/
structure Kept (A B : World) : Prop where
  size : A.heap.size ≤ B.heap.size
  rd : ∀ (k : Nat) cs fr, A.heap[k]? = some (.cells cs 73 fr) → B.heap[k]? = some (.cells cs 73 fr)
  u8 : ∀ (k : Nat) cs fr, A.heap[k]? = some (.cells cs 5 fr) → B.heap[k]? = some (.cells cs 5 fr)
theorem Kept.refl (A : World) : Kept A A := ⟨Nat.le_refl _, fun _ _ _ h => h, fun _ _ _ h => h⟩
theorem Kept.trans {A B C : World} (h : Kept A B) (k : Kept B C) : Kept A C := ⟨Nat.le_trans h.size k.size, fun i cs fr hi => k.rd i cs fr (h.rd i cs fr hi), fun i cs fr hi => k.u8 i cs fr (h.u8 i cs fr hi)⟩
theorem Kept.ty {A B : World} (h : Kept A B) {x : Option Addr} (hx : TY A x) : TY B x := fun a e => by
  obtain ⟨cs, hc⟩ := hx a e
  exact ⟨cs, h.u8 _ _ _ hc⟩
theorem Kept.bs {A B : World} (h : Kept A B) {x : Option Addr} {n c : Nat} {bs : List UInt8} (hx : TY A x) (hb : BS A x n c bs) : BS B x n c bs := by
  refine ⟨hb.1, hb.2.1, fun hne => ?_⟩
  obtain ⟨b, o, e, hlt, hc⟩ := hb.2.2 hne
  obtain ⟨cs, hcs⟩ := hx _ e
  refine ⟨b, o, e, Nat.lt_of_lt_of_le hlt h.size, fun j u hu => ?_⟩
  exact (World.cell?_of_block (w := A) (a := ⟨b, o + j, none⟩) ((h.u8 _ _ _ hcs).trans hcs.symm)).trans (hc j u hu)
theorem Kept.rdt {A B : World} (h : Kept A B) {g n c : Nat} {x : Option Addr} {bs : List UInt8} (hr : RDT A g x n c bs) : RDT B g x n c bs :=
  ⟨⟨h.rd _ _ _ hr.1.1, h.bs hr.2 hr.1.2⟩, h.ty hr.2⟩

/-- A step of the iterator's: new blocks, and a reader from base on. -/
def Steps (base : Nat) (A B : World) : Prop := ∃ row, A.grownBy B row ∧ ∀ r, row = some r → base ≤ r ∧ ∃ cs fr, A.heap[r]? = some (.cells cs 73 fr)
theorem Steps.of_grown {base g n c : Nat} {A B : World} {x : Option Addr} {bs : List UInt8} (hg : A.grownBy B (some g)) (hr : RD A g x n c bs) (hb : base ≤ g) : Steps base A B :=
  ⟨some g, hg, fun r e => by cases e; exact ⟨hb, _, _, hr.1⟩⟩
theorem Steps.of_below {base : Nat} {A B : World} (hg : Below A.heap.size A B) : Steps base A B :=
  ⟨none, ⟨hg.os, hg.tape, hg.output, hg.size, fun i hi _ => hg.block i hi⟩, fun r e => by cases e⟩

/-- What is handed on: a parameter as it lies, and an error's number. -/
abbrev Item := PX × Nat
abbrev encI (y : Item) : Array Value := #[.agg #[.int .u16 y.1.1, .slice y.1.2.1 y.1.2.2.1 y.1.2.2.2.1], .int .i64 (y.2 : Int)]
def AtHand (bs : List UInt8) (xs : List Item) (y : Item) (W : World) : Prop := xs.length ≤ 32 ∧ ((y.2 = 0 ∧ VP W y.1 ∧ TY W y.1.2.1) ∨ (0 < y.2 ∧ decL 32 bs = .error y.2))
def appE (l : List Pm) : Except Nat (List Pm) → Except Nat (List Pm)
  | .ok m => .ok (l ++ m)
  | .error e => .error e
theorem appE_cons (l : List Pm) (p : Pm) (r : Except Nat (List Pm)) : appE l (consE p r) = appE (l ++ [p]) r := by cases r <;> simp [appE, consE]
theorem appE_nil (r : Except Nat (List Pm)) : appE [] r = r := by cases r <;> rfl
/-- All came: if none was an error, these are the parameters. -/
def AllCame (bs : List UInt8) (xs : List Item) : Prop := (∀ y ∈ xs, y.2 = 0) → decL 32 bs = .ok (xs.map fun y => pm y.1)

theorem read_any (A : Option Addr) (n c : Nat) (w : World) :
    Calls Try.prog 30 #[.slice A n c] w fun e w' => e = .returned (.func (.func 34) #[] #[.pointer (some ⟨w.heap.size, 0, none⟩)]) ∧ w' = w.alloc (.cells #[.slice A n c] 26) := by
  go_enter Try.func30, Try.ntmps30
  go_wp2
  go_ret
  exact ⟨rfl, rfl⟩

set_option maxRecDepth 100000 in
set_option maxHeartbeats 1000000 in
theorem read1_in (base l Bb : Nat) (A : Option Addr) (n c : Nat) (bs : List UInt8) (hn : n ≤ 100000) (K Kx : List Item → World → Prop) (W : World) (hbase : base ≤ W.heap.size) (hBb : W.cell? ⟨Bb, 0, none⟩ = some (.slice A n c)) (hbs : BS W A n c bs)
    (hK : ∀ xs A B, K xs A → Steps base A B → K xs B) (hKx : ∀ xs A B, Kx xs A → Steps base A B → Kx xs B)
    (hY : ∀ xs x W1, K xs W1 → AtHand bs xs x W1 → YieldAt Fence.wide (2 - 1) Try.prog l (encI x) W1 fun e W' => (e = .returned (.bool true) ∧ K (xs ++ [x]) W' ∧ Kept W1 W') ∨ (e = .returned (.bool false) ∧ Kx (xs ++ [x]) W'))
    (h0 : K [] W) :
    CallsIn Fence.wide 2 Try.prog 34 #[.func (.yield l) #[] #[], .pointer (some ⟨Bb, 0, none⟩)] W fun e W' => (∃ v, e = .returned v) ∧ ((∃ xs, AllCame bs xs ∧ K xs W') ∨ (∃ xs, True ∧ Kx xs W')) := by
  have KN := keep (new_any A n c bs W hbs (by omega))
  have HLB := keep hbs.len
  clear hbs
  have F1 : Fence.wide.fn 35 := trivial
  have F2 : Fence.wide.fn 36 := trivial
  have F3 : Fence.wide.fn 37 := trivial
  refine callsIn_of_wp Try.func34 rfl trivial ?_ rfl
  simp only [Try.ntmps34, List.size_toArray, List.length_cons, List.length_nil, Nat.reduceAdd, Nat.reduceSub, Array.replicate_succ, Array.replicate_zero, List.push_toArray, List.append_toArray, List.nil_append, List.cons_append]
  gi_wp2_with (gi_at_call 35; refine (callsIn_wide.2 KN.out).mono ?_; rintro e w1 ⟨g, A1, n1, c1, rfl, hr1, hg1, hb1, ht1⟩; have HS1 := keep hb1; have HR1 := keep (show RDT w1 g A1 n1 c1 bs from ⟨hr1, ht1⟩); clear KN hr1 hb1 ht1)
  gi_loopw [4] (fun i wr => ∃ (k : Nat) (xs : List Item) (A' : Option Addr) (m c' : Nat) (rest : List UInt8), i = .int .i64 (k : Int) ∧ k ≤ 32 ∧ xs.length = k ∧ Hid (RDT wr g A' m c' rest) ∧ m ≤ n ∧ Hid (K xs wr) ∧ Hid (∀ y ∈ xs, y.2 = 0) ∧ Hid (decL 32 bs = appE (xs.map fun y => pm y.1) (decL (32 - k) rest)))
    (fun i wr => 33 - (intOf i).toNat)
  case atStart =>
    refine ⟨0, [], A1, n1, c1, bs, rfl, by omega, rfl, HR1, ?_, hK _ _ _ h0 (Steps.of_below HS1.out), keep (by simp), keep ?_⟩
    · have := HR1.out.1.2.len
      have := HLB.out
      omega
    · rw [List.map_nil, appE_nil]
  case round =>
    obtain ⟨k, xs, A', m, c', rest, rfl, hk, hxl, HR, hm, HK, HZ, HD⟩ := hrel
    have HXL := keep hxl
    clear hxl
    have KL := keep (left_any g A' m c' rest wr HR.out.1)
    have HM := keep HR.out.1.2.len
    by_cases hm0 : m = 0
    · subst hm0
      have hrest : rest = [] := List.eq_nil_of_length_eq_zero HM.out.symm
      have HAll : Hid (AllCame bs xs) := fun _ => by rw [HD.out, hrest, decL_nil]; simp [appE]
      clear hrest
      gi_wp2_with (gi_at_call 36; refine (callsIn_wide.2 KL.out).mono ?_; rintro e w2 ⟨rfl, rfl⟩)
      go_end0
      exact ⟨⟨_, rfl⟩, .inl ⟨xs, HAll.out, HK.out⟩⟩
    · have hne : rest ≠ [] := by intro h; have := HM.out; rw [h] at this; simp at this; omega
      have hgb : base ≤ g := Nat.le_trans hbase hg1
      by_cases hk32 : k = 32
      · subst hk32
        have hE : decL 32 bs = .error 10 := by rw [HD.out]; simp [decL, hne, appE]
        obtain ⟨fn, tmps, assign, body, hy, hR⟩ := hY xs ((0, none, 0, 0, []), 10) wr HK.out ⟨by have := HXL.out; omega, .inr ⟨by decide, hE⟩⟩
        replace hy : (Instr.yield l #[.agg #[.int .u16 0, .slice none 0 0], .int .i64 10]).run Try.prog wr = .ok (.round l fn tmps assign body) wr := hy
        have HR2 := keep hR
        clear hR hE hne
        gi_wp2_with (gi_at_call 36; refine (callsIn_wide.2 KL.out).mono ?_; rintro e w2 ⟨rfl, rfl⟩)
        refine HR2.out.mono ?_
        rintro e W3 (⟨rfl, hJ3, hk3⟩ | ⟨rfl, hJx3⟩)
        · gi_wp2
          refine bodyPost_ret (results_none rfl _ _ _) rfl ?_
          exact ⟨⟨_, rfl⟩, .inl ⟨_, fun h => absurd (h _ (List.mem_append_right _ (List.mem_singleton_self _))) (by decide), hJ3⟩⟩
        · gi_wp2
          refine bodyPost_ret (results_none rfl _ _ _) rfl ?_
          exact ⟨⟨_, rfl⟩, .inr ⟨_, trivial, hJx3⟩⟩
      · have hk1 : k < 32 := by omega
        have HK32 := keep hk32
        have KO := keep (readOne_any g A' m c' rest wr HR.out (by omega))
        have hne32 : ((k : Int) == 32) = false := by simp; omega
        have HNE := keep hne
        have e32 : 32 - k = 32 - (k + 1) + 1 := by omega
        rw [e32] at HD
        clear hne hk32 e32
        gi_wp2_with (gi_at_call 36; refine (callsIn_wide.2 KL.out).mono ?_; rintro e w2 ⟨rfl, rfl⟩)
        refine (callsIn_wide.2 KO.out).mono ?_
        rintro e w2 ⟨A2, m2, c2, ds, hr2, hg2, ⟨x, ho, hx, rfl⟩ | ⟨⟨xk, xa, xn, xc, xv⟩, ho, hv, ht, he⟩⟩
        · have hE : decL 32 bs = .error x := by rw [HD.out, decL_err HNE.out ho]; rfl
          have l2 := below_lay w2 (.cells #[.int .u16 0, .slice none 0 0] 44)
          have hgr := grown_trans hg2 (grown_of_below g l2)
          have hK2 := hK _ _ _ HK.out (Steps.of_grown hgr HR.out.1 hgb)
          obtain ⟨fn, tmps, assign, body, hy, hR⟩ := hY xs ((0, none, 0, 0, []), x) _ hK2 ⟨by have := HXL.out; omega, .inr ⟨hx, hE⟩⟩
          replace hy : (Instr.yield l #[.agg #[.int .u16 0, .slice none 0 0], .int .i64 (x : Int)]).run Try.prog (w2.alloc (.cells #[.int .u16 0, .slice none 0 0] 44)) = .ok (.round l fn tmps assign body) (w2.alloc (.cells #[.int .u16 0, .slice none 0 0] 44)) := hy
          have HR2 := keep hR
          clear hR hE hK2 l2 hgr hr2 hg2 KO KL ho
          have hx' : ((x : Int) == 0) = false := by simp; omega
          gi_wp2
          refine HR2.out.mono ?_
          rintro e W3 (⟨rfl, hJ3, hk3⟩ | ⟨rfl, hJx3⟩)
          · gi_wp2
            refine bodyPost_ret (results_none rfl _ _ _) rfl ?_
            exact ⟨⟨_, rfl⟩, .inl ⟨_, fun h => absurd (h _ (List.mem_append_right _ (List.mem_singleton_self _))) (by simp only; omega), hJ3⟩⟩
          · gi_wp2
            refine bodyPost_ret (results_none rfl _ _ _) rfl ?_
            exact ⟨⟨_, rfl⟩, .inr ⟨_, trivial, hJx3⟩⟩
        · obtain rfl : e = .returned (.tuple #[.agg #[.int .u16 xk, .slice xa xn xc], .int .i64 0]) := he
          have hE : decL 32 bs = appE ((xs ++ [((xk, xa, xn, xc, xv), 0)]).map fun y : Item => pm y.1) (decL (32 - (k + 1)) ds) := by
            rw [HD.out, decL_cons HNE.out ho, appE_cons, List.map_append]
            rfl
          have l2 := below_lay w2 (.cells #[.int .u16 xk, .slice xa xn xc] 44)
          have hgr := grown_trans hg2 (grown_of_below g l2)
          have hK2 := hK _ _ _ HK.out (Steps.of_grown hgr HR.out.1 hgb)
          obtain ⟨fn, tmps, assign, body, hy, hR⟩ := hY xs ((xk, xa, xn, xc, xv), 0) _ hK2 ⟨by have := HXL.out; omega, .inl ⟨rfl, hv.step l2, ht.step l2⟩⟩
          replace hy : (Instr.yield l #[.agg #[.int .u16 xk, .slice xa xn xc], .int .i64 0]).run Try.prog (w2.alloc (.cells #[.int .u16 xk, .slice xa xn xc] 44)) = .ok (.round l fn tmps assign body) (w2.alloc (.cells #[.int .u16 xk, .slice xa xn xc] 44)) := hy
          have HR2 := keep hR
          have HE2 := keep hE
          have HRD := keep (hr2.step l2)
          have HM2 := keep (show m2 ≤ n by
            have h1 := hr2.1.2.len
            obtain ⟨h2, _⟩ := oneL_ok ho
            have h3 := congrArg List.length h2
            rw [List.length_append] at h3
            have := HM.out
            omega)
          clear hR hE hK2 l2 hgr hr2 hg2 KO KL ho hv ht HD
          gi_wp2
          refine HR2.out.mono ?_
          rintro e W3 (⟨rfl, hJ3, hk3⟩ | ⟨rfl, hJx3⟩)
          · have HJ3 := keep hJ3
            have HRD3 := keep (hk3.rdt HRD.out)
            clear hJ3 hk3
            gi_wp2
            go_roundw
            case rel =>
              refine ⟨k + 1, _, A2, m2, c2, ds, by go_num, by omega, by rw [List.length_append, HXL.out]; rfl, HRD3, HM2.out, HJ3, keep fun y hy => ?_, HE2⟩
              rcases List.mem_append.1 hy with hy | hy
              · exact HZ.out y hy
              · rw [List.mem_singleton.1 hy]
            case measure => simp [intOf]; omega
          · gi_wp2
            refine bodyPost_ret (results_none rfl _ _ _) rfl ?_
            exact ⟨⟨_, rfl⟩, .inr ⟨_, trivial, hJx3⟩⟩
end Go.Proofs.Ytaifigmbjcebeaa
