/- Package dcep: Encode. -/
import Derived.Test.YtapaiknghnbfmaaDoorD2
import Derived.Test.YtapaiknghnbfmaaDoorAppS
import Derived.Test.YtapaiknghnbfmaaDoorAppK
import Derived.Deep.RegionHeld3
namespace Go.Proofs.YtapaiknghnbfmaaDoor
open Go.RowKit Go.Lib
set_option linter.unusedVariables false

section
variable {P : Program} {w : World} {ops : Array Oper} {o : Oper} {a : Act} {Q : Exit → Act → World → Prop} {K : Act → World → Prop} {E : Prop}
/-- append(b, s...) as a step of a region that draws its order. -/
theorem step_append_str (hgd : o.guard = none) (sl x : Operand) (t u : TypeId)
    (ho : o.op = .call { callee := .builtin .append, args := #[sl, x], argTypes := #[t, u] })
    (base : Nat) (e : TypeId) (i : TypeInfo) (ht : P.underlying t = some (.slice e)) (hu : P.underlying u = some .string) (hi : P.info? e = some i) (hz : i.zero = some (.int .u8 0))
    (hsize : i.size = 1) (hby : i.bytes = 1)
    (v : Value) (n : Nat) (xs : List Value) (hs : a.eval sl = v) (hown : w.ownsRow base e 1 v n xs) (s : ByteArray) (hx : a.eval x = .string s)
    (h63 : n + s.size ≤ maxLen) (hbytes : n + s.size ≤ 140737488355328) (hbase : base ≤ w.heap.size)
    (h : ∀ A' c' w', Hid (w'.ownsRow base e 1 (.slice A' (n + s.size) c') (n + s.size) (xs ++ Lib.strCells s)) → Below base w w' → K (a.put o.dst (.slice A' (n + s.size) c')) w') : if Region.wanted o (yielded ops a.tmps) = true then Oper.wp P o a w K Q else E := by
  have hw : Region.wanted o (yielded ops a.tmps) = true := by simp [Region.wanted, hgd]
  rw [if_pos hw]
  obtain ⟨v', w', hr, h2, h3, h4⟩ := run_append_own_string (P := P) w base t u o.type e i ht hu hi hz hsize hby v n xs hown s h63 hbytes hbase
  obtain ⟨A', c', rfl, _⟩ := own_shape h2
  unfold Oper.wp execOp
  simp only [ho, resolve, invoke, builtin, Sem.run_bind, Sem.run_pure, Result.andThen_ok, List.map_toArray, List.map_cons, List.map_nil, hs, hx, hr]
  exact h A' c' w' (show _ from h2) ((Below.refl base w).grown h3 hbase fun k hk => (hown.lt k hk).1)
end
/-- What stands ahead of the texts. -/
def headB (o : OV) (n m : Int) : List UInt8 := ((((([] ++ [b8 3]) ++ [b8 o.k]) ++ [b8 (o.p / 256), b8 o.p]) ++ [b8 (o.l / 16777216), b8 (o.l / 65536), b8 (o.l / 256), b8 o.l]) ++ [b8 (n / 256), b8 n]) ++ [b8 (m / 256), b8 m]
theorem headB_len (o : OV) (n m : Int) : (headB o n m).length = 12 := rfl
def encB (o : OV) : List UInt8 := headB o o.la.size o.pr.size ++ o.la.data.toList ++ o.pr.data.toList
def encE (o : OV) : Int := if wrongB o = true then 1 else if 256 < o.la.size ∨ 256 < o.pr.size then 10 else 0
def encD (o : OV) : List UInt8 := if encE o = 0 then encB o else []
theorem encE_wrong {o : OV} (h : wrongB o = true) : encE o = 1 ∧ encD o = [] := by
  have h1 : encE o = 1 := by unfold encE; rw [if_pos h]
  refine ⟨h1, ?_⟩
  unfold encD
  rw [h1]
  rfl
theorem encE_large {o : OV} (h : wrongB o = false) (h2 : 256 < o.la.size ∨ 256 < o.pr.size) : encE o = 10 ∧ encD o = [] := by
  have h1 : encE o = 10 := by unfold encE; rw [h, if_neg (by simp), if_pos h2]
  refine ⟨h1, ?_⟩
  unfold encD
  rw [h1]
  rfl
theorem encE_ok {o : OV} (h : wrongB o = false) (h2 : o.la.size ≤ 256 ∧ o.pr.size ≤ 256) : encE o = 0 ∧ encD o = encB o := by
  have h1 : encE o = 0 := by unfold encE; rw [h, if_neg (by simp), if_neg (by omega)]
  refine ⟨h1, ?_⟩
  unfold encD
  rw [h1]
  rfl
/-- What is at A, if there is something, lies in no block below N. -/
def Fr (N : Nat) (A : Option Addr) : Prop := ∀ a, A = some a → N ≤ a.block
theorem Fr.no (N : Nat) : Fr N none := fun _ h => by cases h
theorem Fr.mono {N M : Nat} {A : Option Addr} (h : Fr N A) (hM : M ≤ N) : Fr M A := fun a e => Nat.le_trans hM (h a e)
theorem Fr.own {w : World} {base n c size : Nat} {e : TypeId} {A : Option Addr} {xs : List Value} (h : w.ownsRow base e size (.slice A n c) n xs) : Fr base A := by
  rcases h.2 with ⟨hv, _⟩ | ⟨g, cap, cur, hv, hb, _⟩
  · injection hv with hA
    subst hA
    exact Fr.no _
  · injection hv with hA
    subst hA
    rintro a ⟨⟩
    exact hb
def RetF (w : World) (bs : List UInt8) (f : Value → Value) (e : Ending) (w' : World) : Prop := ∃ A n c, e = .returned (f (.slice A n c)) ∧ BS w' A n c bs ∧ Below w.heap.size w w' ∧ Fr w.heap.size A
def EncP (o : OV) (w : World) (e : Ending) (w' : World) : Prop := RetF w (encD o) (fun v => .tuple #[v, .int .i64 (encE o)]) e w'
set_option maxHeartbeats 4000000 in
theorem encode_no (o : OV) (ho : o.Ok) (w : World) (hT : Tabs w) (h : wrongB o = true ∨ 256 < o.la.size ∨ 256 < o.pr.size) : Calls Tryd.prog 12 #[.agg o.cells.toArray] w (EncP o w) := by
  have hl := below_lay w (.cells o.cells.toArray 25)
  have hob := OB.laid w o 25
  have KW := wrong_any o ho _ (hT.step hl)
  have HL := keep hl
  have HO := keep hob
  have hlt : w.heap.size < (w.alloc (.cells o.cells.toArray 25)).heap.size := by simp
  have HLT := keep hlt
  clear hlt hl
  cases hw : wrongB o
  · rw [hw] at KW
    have KW := keep KW
    have h2 : 256 < o.la.size ∨ 256 < o.pr.size := by
      rcases h with h | h
      · rw [hw] at h; cases h
      · exact h
    obtain ⟨e1, e2⟩ := encE_large hw h2
    unfold EncP
    rw [e1, e2]
    clear e1 e2 hw h hT
    obtain ⟨k, p, l, la, pr⟩ := o
    dsimp only [OV.cells] at *
    obtain ⟨c0, c1, c2, c3, c4⟩ := hob
    dsimp only at c0 c1 c2 c3 c4
    by_cases h3 : 256 < la.size
    · have h3z : decide ((256 : Int) < (la.size : Int)) = true := decide_eq_true (by omega)
      go_enter Tryd.func12, Tryd.ntmps12
      go_wp2_with (first
        | (go_at_call 36; refine KW.out.mono ?_; rintro e w1 ⟨rfl, hb1⟩; have q := HO.out.step HLT.out hb1; obtain ⟨d0, d1, d2, d3, d4⟩ := q; dsimp only at d0 d1 d2 d3 d4; replace hb1 := keep (up HL.out hb1))
        | (go_at_call 37; refine (tooLong_any _ _).mono ?_; rintro e w2 ⟨rfl, rfl⟩))
      go_ret2
      exact ⟨_, _, _, rfl, BS.nil _, hb1.out, Fr.no _⟩
    · have h4 : 256 < pr.size := by omega
      have h3z : decide ((256 : Int) < (la.size : Int)) = false := decide_eq_false (by omega)
      have h4z : decide ((256 : Int) < (pr.size : Int)) = true := decide_eq_true (by omega)
      go_enter Tryd.func12, Tryd.ntmps12
      go_wp2_with (first
        | (go_at_call 36; refine KW.out.mono ?_; rintro e w1 ⟨rfl, hb1⟩; have q := HO.out.step HLT.out hb1; obtain ⟨d0, d1, d2, d3, d4⟩ := q; dsimp only at d0 d1 d2 d3 d4; replace hb1 := keep (up HL.out hb1))
        | (go_at_call 37; refine (tooLong_any _ _).mono ?_; rintro e w2 ⟨rfl, rfl⟩))
      go_ret2
      exact ⟨_, _, _, rfl, BS.nil _, hb1.out, Fr.no _⟩
  · rw [hw] at KW
    have KW := keep KW
    obtain ⟨e1, e2⟩ := encE_wrong hw
    unfold EncP
    rw [e1, e2]
    clear e1 e2 hw h hT
    obtain ⟨k, p, l, la, pr⟩ := o
    dsimp only [OV.cells] at *
    obtain ⟨c0, c1, c2, c3, c4⟩ := hob
    dsimp only at c0 c1 c2 c3 c4
    go_enter Tryd.func12, Tryd.ntmps12
    go_wp2_with (go_at_call 36; refine KW.out.mono ?_; rintro e w1 ⟨rfl, hb1⟩; replace hb1 := keep (up HL.out hb1))
    go_ret2
    exact ⟨_, _, _, rfl, BS.nil _, hb1.out, Fr.no _⟩
theorem strCells_bc (s : ByteArray) : Lib.strCells s = bc s.data.toList := by simp [Lib.strCells, bc]
theorem wrap16 (n : Nat) (h : n ≤ 256) : IntKind.u16.wrap (n : Int) = (n : Int) := by
  show (n : Int) % 65536 = n
  omega
set_option maxHeartbeats 8000000 in
theorem encode_ok (o : OV) (ho : o.Ok) (w : World) (hT : Tabs w) (hw : wrongB o = false) (h2 : o.la.size ≤ 256 ∧ o.pr.size ≤ 256) : Calls Tryd.prog 12 #[.agg o.cells.toArray] w (EncP o w) := by
  have hl := below_lay w (.cells o.cells.toArray 25)
  have hob := OB.laid w o 25
  have KW := wrong_any o ho _ (hT.step hl)
  have HL := keep hl
  have hlt : w.heap.size < (w.alloc (.cells o.cells.toArray 25)).heap.size := by simp
  have HO := keep (fun W hb => hob.step (W' := W) hlt hb)
  clear hl
  rw [hw] at KW
  have KW := keep KW
  obtain ⟨e1, e2⟩ := encE_ok hw h2
  unfold EncP
  rw [e1, e2]
  have HB : encB o = headB o o.la.size o.pr.size ++ o.la.data.toList ++ o.pr.data.toList := rfl
  rw [HB]
  clear e1 e2 hw hT HB
  obtain ⟨i0, hi0, hz0, hz1, hz2⟩ := info_parts u8_info
  have OKo := keep ho
  obtain ⟨k, p, l, la, pr⟩ := o
  dsimp only [OV.cells, headB] at *
  obtain ⟨N0, hN0⟩ : ∃ N0, (w.alloc (.cells #[.int .u8 k, .int .u16 p, .int .u32 l, .string la, .string pr] 25)).heap.size = N0 := ⟨_, rfl⟩
  have HCV := keep (show ∀ W, Below (w.alloc (.cells #[.int .u8 k, .int .u16 p, .int .u32 l, .string la, .string pr] 25)).heap.size (w.alloc (.cells #[.int .u8 k, .int .u16 p, .int .u32 l, .string la, .string pr] 25)) W → Below N0 (w.alloc (.cells #[.int .u8 k, .int .u16 p, .int .u32 l, .string la, .string pr] 25)) W from fun W h => by rw [← hN0]; exact h)
  have HLE := keep (show ∀ W, Below N0 (w.alloc (.cells #[.int .u8 k, .int .u16 p, .int .u32 l, .string la, .string pr] 25)) W → N0 ≤ W.heap.size from fun W h => by rw [← hN0]; exact h.size)
  rw [hN0] at HO hlt
  have HLT := keep hlt
  have HN0 := keep hN0
  clear hN0 hlt
  obtain ⟨c0, c1, c2, c3, c4⟩ := hob
  dsimp only at c0 c1 c2 c3 c4 h2
  have H2 := keep h2
  have h3z : decide ((256 : Int) < (la.size : Int)) = false := decide_eq_false (by omega)
  have h4z : decide ((256 : Int) < (pr.size : Int)) = false := decide_eq_false (by omega)
  have w3 := wrap16 la.size h2.1
  have w4 := wrap16 pr.size h2.2
  go_enter Tryd.func12, Tryd.ntmps12
  go_wp2_with (first
    | (go_at_call 36; refine KW.out.mono ?_; rintro e w1 ⟨rfl, hb1⟩; replace hb1 := HCV.out _ hb1; have d := HO.out _ hb1; have d3 := d.c3; have d4 := d.c4; dsimp only at d3 d4; clear d; have B1 := keep hb1)
    | (go_at_call 37; refine (tooLong_any _ _).mono ?_; rintro e w2 ⟨rfl, rfl⟩))
  have B1d := keep (hb1.drew)
  have r5 := (HO.out _ B1d.out).c0
  dsimp only at r5
  go_region_held3 (fun w' => w'.cell? ⟨w.heap.size, 0, none⟩ = some (.int .u8 k))
    (first | exact r5 | exact r6 | exact r7)
    (first
    | (go_at_call 38; refine (put8_any _ _ _ _ k OKo.out.k.1 OKo.out.k.2 _ s1.out (by have := s1.out.len; simp at this; omega)).mono ?_; rintro e w2 ⟨A2, n2, c2, rfl, s2, hb2, o2⟩; have B3 := keep (B2.out.trans (hb2.mono (HLE.out _ B2.out))); have r7 := (HO.out _ B3.out).c0; dsimp only at r7; replace s2 := keep s2)
    | (go_at_call 38; refine (put8_any none 0 0 [] 3 (by decide) (by decide) _ (BS.nil _) (by decide)).mono ?_; rintro e w1' ⟨A1, n1, c1', rfl, s1, hb1', o1⟩; have B2 := keep (B1d.out.trans (hb1'.mono (HLE.out _ B1d.out))); have r6 := (HO.out _ B2.out).c0; dsimp only at r6; replace s1 := keep s1))
  clear hb1' hb2 r5 r6 r7
  go_wp2_with fail
  have B3d := keep (B3.out.drew)
  replace s2 := keep (s2.out.step (Below.refl _ _).drew)
  have r20 := And.intro (HO.out _ B3d.out).c1 (HO.out _ B3d.out).c2
  dsimp only at r20
  go_region_held3 (fun w' => w'.cell? ⟨w.heap.size, 1, none⟩ = some (.int .u16 p) ∧ w'.cell? ⟨w.heap.size, 2, none⟩ = some (.int .u32 l))
    (first | exact r20 | exact r3 | exact r4)
    (first
    | (go_at_call 39; refine (put32_any _ _ _ _ l OKo.out.l.1 OKo.out.l.2 _ s3.out (by have := s3.out.len; simp at this; omega)).mono ?_; rintro e w4 ⟨A4, n4, c4, rfl, s4, hb4, o4⟩; have B5 := keep (B4.out.trans (hb4.mono (HLE.out _ B4.out))); have r4 := (And.intro (HO.out _ B5.out).c1 (HO.out _ B5.out).c2); dsimp only at r4; replace s4 := keep s4; replace o4 := keep (own_mono o4.out (HLE.out _ B4.out)))
    | (go_at_call 40; refine (put16_any _ _ _ _ p OKo.out.p.1 OKo.out.p.2 _ s2.out (by have := s2.out.len; simp at this; omega)).mono ?_; rintro e w3 ⟨A3, n3, c3, rfl, s3, hb3, o3⟩; have B4 := keep (B3d.out.trans (hb3.mono (HLE.out _ B3d.out))); have r3 := (And.intro (HO.out _ B4.out).c1 (HO.out _ B4.out).c2); dsimp only at r3; replace s3 := keep s3; replace o3 := keep (own_mono o3.out (HLE.out _ B3d.out))))
  clear hb3 hb4 r20 r3 r4
  go_wp2_with fail
  have B5d := keep (B5.out.drew)
  replace s4 := keep (s4.out.step (Below.refl _ _).drew)
  have r50 := And.intro (HO.out _ B5d.out).c3 (HO.out _ B5d.out).c4
  dsimp only at r50
  go_region_held3 (fun w' => w'.cell? ⟨w.heap.size, 3, none⟩ = some (.string la) ∧ w'.cell? ⟨w.heap.size, 4, none⟩ = some (.string pr))
    (first | exact r50 | exact r5 | exact r6)
    (first
    | (go_at_call 40; refine (put16_any _ _ _ _ (pr.size : Int) (by omega) (by have := H2.out; omega) _ s5.out (by have := s5.out.len; simp at this; omega)).mono ?_; rintro e w6 ⟨A6, n6, c6, rfl, s6, hb6, o6⟩; have B7 := keep (B6.out.trans (hb6.mono (HLE.out _ B6.out))); have r6 := (And.intro (HO.out _ B7.out).c3 (HO.out _ B7.out).c4); dsimp only at r6; replace s6 := keep s6; replace o6 := keep (own_mono o6.out (HLE.out _ B6.out)))
    | (go_at_call 40; refine (put16_any _ _ _ _ (la.size : Int) (by omega) (by have := H2.out; omega) _ s4.out (by have := s4.out.len; simp at this; omega)).mono ?_; rintro e w5 ⟨A5, n5, c5, rfl, s5, hb5, o5⟩; have B6 := keep (B5d.out.trans (hb5.mono (HLE.out _ B5d.out))); have r5 := (And.intro (HO.out _ B6.out).c3 (HO.out _ B6.out).c4); dsimp only at r5; replace s5 := keep s5; replace o5 := keep (own_mono o5.out (HLE.out _ B5d.out))))
  clear hb5 hb6 r50 r5 r6
  have HS := keep (show n6 = 12 from by have := s6.out.len; simpa using this)
  have O6 := keep (show w6.drew.ownsRow N0 5 1 (.slice A6 n6 c6) n6 (bc (headB ⟨k, p, l, la, pr⟩ la.size pr.size)) from o6.out.drew)
  have B7d := keep (B7.out.drew)
  have r60 := And.intro (HO.out _ B7d.out).c3 (HO.out _ B7d.out).c4
  dsimp only at r60
  go_wp2_with fail
  go_region_held3 (fun w' => w'.cell? ⟨w.heap.size, 3, none⟩ = some (.string la) ∧ w'.cell? ⟨w.heap.size, 4, none⟩ = some (.string pr))
    (first | exact r60 | exact r7 | exact r8)
    (first
    | (refine step_append_str (by rfl) (.tmp 44) (.tmp 46) 27 9 (by rfl) N0 5 i0 Tryd.underlying27 Tryd.underlying9 hi0 hz0 hz1 hz2 _ _ _ (by rfl) o7.out pr (by rfl) (by have h8 := HS.out; have h9 := H2.out; unfold maxLen; omega) (by have h8 := HS.out; have h9 := H2.out; omega) (by have h8 := (HLE.out _ B8.out); have h9 := HN0.out; omega) ?_; intro A8 c8 w8 o8 hb8; have B9 := keep (B8.out.trans hb8); have r8 := And.intro (HO.out _ B9.out).c3 (HO.out _ B9.out).c4; dsimp only at r8)
    | (refine step_append_str (by rfl) (.tmp 41) (.tmp 43) 27 9 (by rfl) N0 5 i0 Tryd.underlying27 Tryd.underlying9 hi0 hz0 hz1 hz2 _ _ _ (by rfl) O6.out la (by rfl) (by have h8 := HS.out; have h9 := H2.out; unfold maxLen; omega) (by have h8 := HS.out; have h9 := H2.out; omega) (HLE.out _ B7d.out) ?_; intro A7 c7 w7 o7 hb7; have B8 := keep (B7d.out.trans hb7); have r7 := And.intro (HO.out _ B8.out).c3 (HO.out _ B8.out).c4; dsimp only at r7))
  go_wp2_with fail
  go_ret2
  refine ⟨A8, _, c8, rfl, ?_, ?_, (Fr.own o8.out).mono (Nat.le_of_lt HLT.out)⟩
  · have h1 := o8.out
    rw [strCells_bc, strCells_bc, ← bc_append, ← bc_append] at h1
    exact BS.of_own h1
  · exact HL.out.trans (B9.out.mono (by have := HL.out.size; have h9 := HN0.out; omega))
end Go.Proofs.YtapaiknghnbfmaaDoor
