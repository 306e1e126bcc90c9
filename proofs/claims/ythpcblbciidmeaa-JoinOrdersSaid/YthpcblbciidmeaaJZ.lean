/- The document's example holds: awake answers true. -/
import Derived.Test.YthpcblbciidmeaaJY
namespace Go.Proofs.Ythpcblbciidmeaa
open Go.RowKit Go.Maps
set_option linter.unusedVariables false

theorem Held_JB {w0 w : World} {G : Gh} {j : Jn} (h : JB w0 w G j) : Calls Try.prog 14 #[.pointer (some ⟨G.b, 0, none⟩)] w fun e w' => e = .returned (.int .i64 (j.oct : Int)) ∧ w = w' := Held_any h.jg.ja
abbrev aw1 : Jn := ⟨2, fun _ => 0, [], [(1, pm 0 [b8 9])], []⟩
theorem aw_one : comes (newJ 2) (pm 0 [b8 9]) 1 = aw1 := rfl
theorem aw_two : ∃ f, comes aw1 (pm 0 [b8 8]) 0 = ⟨2, f, [], [], [pm 0 [b8 8], pm 0 [b8 9]]⟩ := ⟨_, rfl⟩
/-- The first of some messages of one octet. -/
theorem first_one {w : World} {A : Option Addr} {m c : Nat} {l : List MX} {F : Nat → Prop} {s : Int} {d : UInt8} {r : List Msg} (hm : MSl w A m c l) (hv : ∀ x ∈ l, MV w x ∧ InF F x.da.1) (hr : l.map MX.msg = pm s [d] :: r) :
    ∃ g og gd od cd, A = some ⟨g, og, none⟩ ∧ g < w.heap.size ∧ w.cell? ⟨g, og + 3, none⟩ = some (.slice (some ⟨gd, od, none⟩) 1 cd) ∧ gd < w.heap.size ∧ w.cell? ⟨gd, od, none⟩ = some (.int .u8 (d.toNat : Int)) ∧ m = r.length + 1 := by
  have hl := congrArg List.length hr
  rw [List.length_map, List.length_cons] at hl
  obtain ⟨g, og, x, rfl, hg, ⟨_, _, _, c3⟩, hx⟩ := hm.at_ (j := 0) (by have := hm.1; omega)
  have hxm : x.msg = pm s [d] := by
    have := congrArg (fun z => z[0]?) hr
    simpa [hx] using this
  have hb := (hv x (List.mem_of_getElem? hx)).1.bs
  have hbs : x.bs = [d] := congrArg Msg.da hxm
  rw [hbs] at hb
  have hlen := hb.len
  have hlen : x.da.2.1 = 1 := hlen
  obtain ⟨gd, od, e, hgd, hcd⟩ := hb.br.sr (by simp [bc])
  have h0 := hcd 0 _ rfl
  rw [hlen, e] at c3
  refine ⟨g, og, gd, od, x.da.2.2, rfl, hg, by simpa using c3, hgd, by simpa using h0, by rw [hm.1, hl]⟩
set_option maxRecDepth 1000000 in
set_option maxHeartbeats 4000000 in
theorem awake_any (w : World) : Calls Try.prog 8 #[] w fun e w' => e = .returned (.bool true) ∧ Below w.heap.size w w' := by
  obtain ⟨f2, ef2⟩ := aw_two
  have EF := keep ef2
  clear ef2
  go_enter Try.func8, Try.ntmps8
  go_wp2_with (first
    | (go_at_call 9; refine (New_JB (Below.refl _ w) 2).mono ?_; rintro e w1 ⟨G0, rfl, hj0, _, _⟩; replace hj0 := keep hj0)
    | (go_at_call_of 17 (Value.int IntKind.u32 6); refine (piece_any _ (a := 6) (s := 0) (k := 1) (fl := 3) (d := 9) (by decide) (by decide) (by decide) (by decide) (by decide)).mono ?_
       rintro e w2 ⟨rfl, hx2, hb2, _⟩
       have KA := Add_JB (hj0.out.step hb2) hx2 rfl
       replace KA := keep KA
       clear hx2 hb2
       dsimp only [oneC, CX.cells])
    | (go_at_call_of 17 (Value.int IntKind.u32 5); refine (piece_any _ (a := 5) (s := 0) (k := 0) (fl := 3) (d := 8) (by decide) (by decide) (by decide) (by decide) (by decide)).mono ?_
       rintro e w5 ⟨rfl, hx5, hb5, _⟩
       have KA2 := Add_JB (hj2.out.step hb5) hx5 rfl
       rw [EB2.out] at KA2
       replace KA2 := keep KA2
       clear hx5 hb5
       dsimp only [oneC, CX.cells])
    | (go_at_call_of 10 (Value.int IntKind.u32 5); refine KA2.out.mono ?_
       rintro e w6 ⟨rfl, G3, hj3, hl3⟩
       have KT2 := Take_JB hj3
       have KH1 := Held_JB hj3
       have eb3 : G3.b = G0.b := hl3.b.trans EB2.out
       rw [eb3] at KT2 KH1
       replace KT2 := keep KT2
       replace KH1 := keep KH1
       have EB3 := keep eb3
       clear hj3 hl3 eb3)
    | (go_at_call_of 10 (Value.int IntKind.u32 6); refine KA.out.mono ?_
       rintro e w3 ⟨rfl, G1, hj1, hl1⟩
       have KT1 := Take_JB hj1
       rw [hl1.b] at KT1
       replace KT1 := keep KT1
       have EB1 := keep hl1.b
       clear hj1 hl1)
    | (go_at_call 13; refine KT2.out.mono ?_
       rintro e w7 ⟨A2, m2, c2, l2, G4, rfl, hm2, hv2, hr2, ho2, hj4, hl4⟩
       have hr2' : l2.map MX.msg = pm 0 [b8 8] :: [pm 0 [b8 9]] := hr2.trans (by rw [show takeJ (comes (newJ 2) (pm 0 [b8 9]) 1) = aw1 from rfl, EF.out])
       obtain ⟨g, og, gd, od, cd, rfl, hg, h3, hgd, h0, rfl⟩ := first_one hm2 hv2 hr2'
       have KH2 := Held_JB hj4
       rw [hl4.b.trans EB3.out] at KH2
       have e0 : ((takeJ (comes (takeJ (comes (newJ 2) (pm 0 [b8 9]) 1)) (pm 0 [b8 8]) 0)).oct : Int) = 0 := by rw [show takeJ (comes (newJ 2) (pm 0 [b8 9]) 1) = aw1 from rfl, EF.out]; rfl
       rw [e0] at KH2
       replace KH2 := keep KH2
       have HL4 := keep hj4.be
       have h0 : w7.cell? ⟨gd, od, none⟩ = some (.int .u8 8) := h0
       clear hm2 hv2 hr2 hr2' ho2 hj4 hl4 e0)
    | (go_at_call 13; refine KT1.out.mono ?_
       rintro e w4 ⟨A1, m1, c1, l1, G2, rfl, hm1, hv1, hr1, ho1, hj2, hl2⟩
       have hl1 : l1 = [] := List.map_eq_nil_iff.1 (hr1.trans (by rw [aw_one]))
       obtain rfl : m1 = 0 := by rw [hm1.1, hl1]; rfl
       have EB2 := keep (hl2.b.trans EB1.out)
       replace hj2 := keep hj2
       clear hm1 hv1 hr1 ho1 hl2 hl1)
    | (go_at_call 14; refine KH2.out.mono ?_; rintro e w8 ⟨rfl, rfl⟩)
    | (go_at_call 14; refine KH1.out.mono ?_
       have e2 : ((comes (takeJ (comes (newJ 2) (pm 0 [b8 9]) 1)) (pm 0 [b8 8]) 0).oct : Int) = 2 := by rw [show takeJ (comes (newJ 2) (pm 0 [b8 9]) 1) = aw1 from rfl, EF.out]; rfl
       rw [e2]
       rintro e w9 ⟨rfl, rfl⟩
       clear e2))
  go_ret
  exact ⟨rfl, HL4.out⟩
end Go.Proofs.Ythpcblbciidmeaa
