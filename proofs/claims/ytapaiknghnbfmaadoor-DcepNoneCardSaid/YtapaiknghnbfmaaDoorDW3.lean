/- The walk of DcepNone. -/
import Derived.Test.YtapaiknghnbfmaaDoorDW2
namespace Go.Proofs.YtapaiknghnbfmaaDoor
open Go.RowKit
set_option linter.unusedVariables false

/-- An event. -/
structure EV where
  wh : Int
  s : Int
  o : OV
  t : Bool
  d : Option Addr × Nat × Nat
def EV.cells (e : EV) : List Value := [.int .i64 e.wh, .int .u16 e.s, .int .u8 e.o.k, .int .u16 e.o.p, .int .u32 e.o.l, .string e.o.la, .string e.o.pr, .bool e.t, .slice e.d.1 e.d.2.1 e.d.2.2]
def eZ : EV := ⟨0, 0, oZ, false, (none, 0, 0)⟩
theorem Ev_size : (Tryd.prog.info? 75).map (·.size) = some 9 := by kernel_rfl
def EB (w : World) (g : Nat) (e : EV) : Prop := w.heap[g]? = some (.cells e.cells.toArray 75 (0, 0))
theorem ret_ev2 {fn : Func} {p u v : Tmp} (hr : fn.results = #[.cell p 75, .tmp u, .tmp v]) (tmps : Array Value) (w : World) (g : Nat) (o : EV) (hp : tmps.getD p undef = .pointer (some ⟨g, 0, none⟩)) (h : EB w g o) :
    (results fn tmps).run Tryd.prog w = .ok (.tuple #[.agg o.cells.toArray, tmps.getD u undef, tmps.getD v undef]) w := by
  have hp' : tmps[p]?.getD undef = .pointer (some ⟨g, 0, none⟩) := by simpa using hp
  have := run_loadVar_row w g _ 75 o.cells.toArray (0, 0) _ h Tryd.underlying75 rfl Ev_size
  simp [results, hr, hp', asAddr, this]
set_option maxHeartbeats 2000000 in
theorem Hear_nil (m : MX) (w : World) : Calls Tryd.prog 32 #[.pointer none, .agg m.cells.toArray] w fun e w' => e = .returned (.tuple #[.agg eZ.cells.toArray, .slice none 0 0, .int .i64 1]) ∧ Below w.heap.size w w' := by
  have l1 := keep (up (below_lay w (.cells m.cells.toArray 54)) (below_lay _ (.cells eZ.cells.toArray 75)))
  have r1 := heap_alloc_new (w.alloc (.cells m.cells.toArray 54)) (.cells eZ.cells.toArray 75)
  rw [show (w.alloc (.cells m.cells.toArray 54)).heap.size = w.heap.size + 1 by simp] at r1
  have r1 := keep r1
  obtain ⟨s, u, p, ⟨a, n, c⟩, bs⟩ := m
  dsimp only [MX.cells] at *
  go_enter Tryd.func32, Tryd.ntmps32
  go_wp2_with (go_at_call 51; refine (find_nil _).mono ?_; rintro e w' ⟨rfl, rfl⟩)
  exact bodyPost_ret (ret_ev2 rfl _ _ (w.heap.size + 1) eZ rfl r1.out) rfl ⟨rfl, l1.out⟩
theorem Find_nil (s : ByteArray) (w : World) : Calls Tryd.prog 28 #[.pointer none, .string s] w fun e w' => e = .returned (.tuple #[.int .u16 0, .bool false]) ∧ Below w.heap.size w w' := by
  have l1 := keep (below_lay w (.cells #[.string s] 9))
  go_enter Tryd.func28, Tryd.ntmps28
  go_wp2
  go_ret2
  exact ⟨rfl, l1.out⟩
/-- A box that holds a message. -/
structure MB (W : World) (g : Nat) (m : MX) : Prop where
  c0 : W.cell? ⟨g, 0, none⟩ = some (.int .u16 m.st)
  c1 : W.cell? ⟨g, 1, none⟩ = some (.bool m.un)
  c2 : W.cell? ⟨g, 2, none⟩ = some (.int .u32 m.pp)
  c3 : W.cell? ⟨g, 3, none⟩ = some (.slice m.da.1 m.da.2.1 m.da.2.2)
theorem MB.laid (W : World) (m : MX) (t : TypeId) : MB (W.alloc (.cells m.cells.toArray t)) W.heap.size m := by
  refine ⟨?_, ?_, ?_, ?_⟩ <;> (rw [cell_of_row _ _ _ _ _ _ (heap_alloc_new W _)]; rfl)
theorem MB.step {W W' : World} {g : Nat} {m : MX} (h : MB W g m) (hg : g < W.heap.size) (hb : Below W.heap.size W W') : MB W' g m := by
  have e : ∀ i, W'.cell? ⟨g, i, none⟩ = W.cell? ⟨g, i, none⟩ := fun i => hb.cell hg
  exact ⟨(e 0).trans h.c0, (e 1).trans h.c1, (e 2).trans h.c2, (e 3).trans h.c3⟩
set_option maxHeartbeats 8000000 in
theorem dcepNone_walk (o : OV) (m : MX) (w : World) (ho : OW o) (hm : MV w m) (hT : Tabs w) :
    Calls Tryd.prog 9 #[.agg o.cells.toArray, .agg m.cells.toArray] w fun e w' => e = .returned (.bool true) ∧ Below w.heap.size w w' := by
  have l1 := up (below_lay w (.cells o.cells.toArray 25)) (below_lay _ (.cells m.cells.toArray 54))
  have O1 := OB.laid w o 25
  have LT1 : w.heap.size < (w.alloc (.cells o.cells.toArray 25)).heap.size := by simp
  have M1 := MB.laid (w.alloc (.cells o.cells.toArray 25)) m 54
  rw [show (w.alloc (.cells o.cells.toArray 25)).heap.size = w.heap.size + 1 by simp] at M1
  have LT2 : w.heap.size + 1 < ((w.alloc (.cells o.cells.toArray 25)).alloc (.cells m.cells.toArray 54)).heap.size := by simp
  have O2 := O1.step LT1 (below_lay _ (.cells m.cells.toArray 54))
  have PO := keep (fun W hb => O2.step (W' := W) (Nat.lt_of_succ_lt LT2) hb)
  have PM := keep (fun W hb => M1.step (W' := W) LT2 hb)
  have K0 := keep (awake_any _ (hT.step l1))
  have KA := keep (fun W => Ask_nil (W := W) o)
  have KH := keep (fun W => Hear_nil m W)
  have KO := keep (fun W (s : Int) => Opening_nil (W := W) s)
  have KK := keep (fun W => alike_yes oZ W)
  have l1 := keep l1
  have hla := ho.la
  have hpr := ho.pr
  have hmn := hm.bs.cap
  unfold maxLen at hla hpr
  clear O1 O2 M1 LT1 LT2 ho hm hT
  obtain ⟨k, p, l, la, pr⟩ := o
  obtain ⟨ms, mu, mp, ⟨ma, mn, mc⟩, mbs⟩ := m
  dsimp only [OV.cells, MX.cells, eZ, EV.cells, oZ] at *
  by_cases h1 : 1000 < la.size
  · have i1 : (1000 : Int) < (la.size : Int) := by omega
    go_enter Tryd.func9, Tryd.ntmps9
    go_wp2_with (go_at_call 11; refine K0.out.mono ?_; rintro e w1 ⟨rfl, hb1⟩; have B1 := keep hb1; obtain ⟨d10, d11, d12, d13, d14⟩ := (PO.out _ B1.out); obtain ⟨m10, m11, m12, m13⟩ := (PM.out _ B1.out); dsimp only at d10 d11 d12 d13 d14 m10 m11 m12 m13; clear hb1)
    go_ret
    exact ⟨rfl, up l1.out B1.out⟩
  have i1 : ¬ ((1000 : Int) < (la.size : Int)) := by omega
  by_cases h2 : 1000 < pr.size
  · have i2 : (1000 : Int) < (pr.size : Int) := by omega
    go_enter Tryd.func9, Tryd.ntmps9
    go_wp2_with (go_at_call 11; refine K0.out.mono ?_; rintro e w1 ⟨rfl, hb1⟩; have B1 := keep hb1; obtain ⟨d10, d11, d12, d13, d14⟩ := (PO.out _ B1.out); obtain ⟨m10, m11, m12, m13⟩ := (PM.out _ B1.out); dsimp only at d10 d11 d12 d13 d14 m10 m11 m12 m13; clear hb1)
    go_ret
    exact ⟨rfl, up l1.out B1.out⟩
  have i2 : ¬ ((1000 : Int) < (pr.size : Int)) := by omega
  by_cases h3 : 1000 < mn
  · have i3 : (1000 : Int) < (mn : Int) := by omega
    go_enter Tryd.func9, Tryd.ntmps9
    go_wp2_with (go_at_call 11; refine K0.out.mono ?_; rintro e w1 ⟨rfl, hb1⟩; have B1 := keep hb1; obtain ⟨d10, d11, d12, d13, d14⟩ := (PO.out _ B1.out); obtain ⟨m10, m11, m12, m13⟩ := (PM.out _ B1.out); dsimp only at d10 d11 d12 d13 d14 m10 m11 m12 m13; clear hb1)
    go_ret
    exact ⟨rfl, up l1.out B1.out⟩
  · have i3 : ¬ ((1000 : Int) < (mn : Int)) := by omega
    go_enter Tryd.func9, Tryd.ntmps9
    go_wp2_with (first
      | (go_at_call 11; refine K0.out.mono ?_; rintro e w1 ⟨rfl, hb1⟩; have B1 := keep hb1; obtain ⟨d10, d11, d12, d13, d14⟩ := (PO.out _ B1.out); obtain ⟨m10, m11, m12, m13⟩ := (PM.out _ B1.out); dsimp only at d10 d11 d12 d13 d14 m10 m11 m12 m13; clear hb1)
      | (go_at_call 30; refine (KA.out _).mono ?_; rintro e w2 ⟨rfl, hb2⟩; have B2 := keep (B1.out.trans (hb2.mono B1.out.size)); obtain ⟨d20, d21, d22, d23, d24⟩ := (PO.out _ B2.out); obtain ⟨m20, m21, m22, m23⟩ := (PM.out _ B2.out); dsimp only at d20 d21 d22 d23 d24 m20 m21 m22 m23; clear hb2)
      | (go_at_call 32; refine (KH.out _).mono ?_; rintro e w3 ⟨rfl, hb3⟩
         have B3 := keep ((B2.out.trans (hb3.mono B2.out.size)).alloc (B2.out.trans (hb3.mono B2.out.size)).size (.cells #[.int .i64 0, .int .u16 0, .int .u8 0, .int .u16 0, .int .u32 0, .string ⟨#[]⟩, .string ⟨#[]⟩, .bool false, .slice none 0 0] 75))
         have E3 := keep (show (w3.alloc (.cells #[.int .i64 0, .int .u16 0, .int .u8 0, .int .u16 0, .int .u32 0, .string ⟨#[]⟩, .string ⟨#[]⟩, .bool false, .slice none 0 0] 75)).cell? ⟨w3.heap.size, 0, none⟩ = some (.int .i64 0) from by rw [cell_of_row _ _ _ _ _ _ (heap_alloc_new w3 _)]; rfl)
         have LE3 := keep (show w3.heap.size < (w3.alloc (.cells #[.int .i64 0, .int .u16 0, .int .u8 0, .int .u16 0, .int .u32 0, .string ⟨#[]⟩, .string ⟨#[]⟩, .bool false, .slice none 0 0] 75)).heap.size by simp)
         obtain ⟨d30, d31, d32, d33, d34⟩ := (PO.out _ B3.out); obtain ⟨m30, m31, m32, m33⟩ := (PM.out _ B3.out); dsimp only at d30 d31 d32 d33 d34 m30 m31 m32 m33
         clear hb3)
      | (go_at_call 33; refine (Freed_nil _).mono ?_; rintro e w' ⟨rfl, rfl⟩)
      | (go_at_call 28; refine (Find_nil _ _).mono ?_; rintro e w4 ⟨rfl, hb4⟩; have B4 := keep (B3.out.trans (hb4.mono B3.out.size)); have e4 := (hb4.cell (p := ⟨w3.heap.size, 0, none⟩) LE3.out).trans E3.out; obtain ⟨d40, d41, d42, d43, d44⟩ := (PO.out _ B4.out); obtain ⟨m40, m41, m42, m43⟩ := (PM.out _ B4.out); dsimp only at d40 d41 d42 d43 d44 m40 m41 m42 m43; clear hb4)
      | (go_at_call 34; refine (Close_nil _).mono ?_; rintro e w' ⟨rfl, rfl⟩)
      | (go_at_call 35; refine (Gone_nil _).mono ?_; rintro e w' ⟨rfl, rfl⟩)
      | (go_at_call 26; refine (State_nil _).mono ?_; rintro e w' ⟨rfl, rfl⟩)
      | (go_at_call 27; refine (KO.out _ _).mono ?_; rintro e w5 ⟨rfl, hb5⟩; have B5 := keep (B4.out.trans (hb5.mono B4.out.size)); clear hb5)
      | (go_at_call 18; refine (KK.out _).mono ?_; rintro e w6 ⟨rfl, hb6⟩; have B6 := keep (B5.out.trans (hb6.mono B5.out.size)); clear hb6))
    go_ret
    exact ⟨rfl, up l1.out B6.out⟩
end Go.Proofs.YtapaiknghnbfmaaDoor
