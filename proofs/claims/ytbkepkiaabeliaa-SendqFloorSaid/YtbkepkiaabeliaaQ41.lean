/- State, expired, Expire. -/
import Derived.Test.YtbkepkiaabeliaaQ39
namespace Go.Proofs.Ytbkepkiaabeliaa
open Go.RowKit Go.Maps
attribute [local go_sem] Oper.semAt_some
set_option linter.unusedVariables false

/-! ### State -/
def stI (q : Qm) (n : Int) : Option En := if stp q n = 0 then none else q.es[stp q n - 1]?
def stOut (x : Option En) : Value := match x with | some e => .tuple #[.int .i64 e.st, .bool true] | none => .tuple #[.int .i64 0, .bool false]
theorem State_any {w : World} {G : Gq} {q : Qm} (h : QA w G q) (n : Int) :
    Calls Try.prog 21 #[.pointer (some ⟨G.b, 0, none⟩), .int .u32 n] w fun e w' => e = .returned (stOut (stI q n)) ∧ ∃ k, w' = w.drewN k := by
  have K := keep (upTo_any h n)
  have hle := stp_le q n
  have hl := h.le
  by_cases h0 : stp q n = 0
  · have hO : stI q n = none := by unfold stI; rw [if_pos h0]
    rw [hO]
    rw [h0] at K
    clear h hle hO hl h0
    go_enter Try.func21, Try.ntmps21
    go_wp2_with (go_at_call 50; refine K.out.mono ?_; rintro e w' ⟨⟨A, c, rfl, _, _⟩, k, rfl⟩)
    go_ret2
    exact ⟨rfl, _, rfl⟩
  · obtain ⟨p, hp⟩ : ∃ p, stp q n = p + 1 := ⟨stp q n - 1, by omega⟩
    have hpl : p < q.es.length := by omega
    have he : q.es[p]? = some q.es[p] := List.getElem?_eq_getElem hpl
    have hO : stI q n = some q.es[p] := by unfold stI; rw [if_neg h0, hp, Nat.add_sub_cancel, he]
    rw [hO]
    obtain ⟨b, o, eA, hb, hc⟩ := h.ptr he
    have c13 := (h.en _ (List.mem_of_getElem? he)).1.c12.2.1
    rw [hp] at K
    generalize q.es[p] = x at *
    have HC := keep (And.intro hc c13)
    have hps : ((p + 1 : Nat) : Int) - 1 = (p : Int) := by omega
    have hp1 : ((p + 1 : Nat) : Int) ≤ 1024 := by omega
    have hp2 : (1 : Int) ≤ ((p + 1 : Nat) : Int) := by omega
    have hp0 : (0 : Int) ≤ (p : Int) := by omega
    obtain ⟨m, hm⟩ : ∃ m, p + 1 = m := ⟨_, rfl⟩
    rw [hm] at K hps hp1 hp2
    have hpm : (p : Int) < (m : Int) := by omega
    have HM := keep hm
    clear h hle hO hl h0 hp hpl he hc c13 hm
    go_enter Try.func21, Try.ntmps21
    go_wp2_with (go_at_call 50; refine K.out.mono ?_; rintro e w' ⟨⟨A, c, rfl, _, hA⟩, k, rfl⟩
                 obtain rfl := (hA (by have := HM.out; omega)).trans eA
                 have hc1 : (w.drewN k).cell? ⟨b, o + p, none⟩ = some (.pointer (some ⟨x.p, 0, none⟩)) := HC.out.1
                 have hc2 : (w.drewN k).cell? ⟨x.p, 13, none⟩ = some (.int .i64 x.st) := HC.out.2
                 clear hA)
    go_ret2
    exact ⟨rfl, _, rfl⟩
/-! ### Expire -/
/-- Is an entry that is open a reason to give up its message? -/
def expB (now : Int) (e : En) (g : Mg) : Bool := (decide (0 ≤ g.un) && decide (g.un < now)) || (decide (0 ≤ g.tr) && (e.st == 2) && decide (g.tr < e.sn))
set_option maxHeartbeats 8000000 in
theorem expired_at (p m : Nat) (now : Int) (st sn un tr : Int) (w : World) (u1 u2 t1 t2 t3 : Bool) (hu1 : decide (0 ≤ un) = u1) (hu2 : decide (un < now) = u2) (ht1 : decide (0 ≤ tr) = t1) (ht2 : (st == 2) = t2) (ht3 : decide (tr < sn) = t3) (c12 : w.cell? ⟨p, 12, none⟩ = some (.pointer (some ⟨m, 0, none⟩))) (c13 : w.cell? ⟨p, 13, none⟩ = some (.int .i64 st)) (c14 : w.cell? ⟨p, 14, none⟩ = some (.int .i64 sn)) (m0 : w.cell? ⟨m, 0, none⟩ = some (.int .i64 un)) (m1 : w.cell? ⟨m, 1, none⟩ = some (.int .i64 tr)) :
    Calls Try.prog 59 #[.pointer (some ⟨p, 0, none⟩), .int .i64 now] w fun e w' => e = .returned (.bool ((u1 && u2) || (t1 && t2 && t3))) ∧ ∃ k, w' = w.drewN k := by
  cases u1 <;> cases u2 <;> cases t1 <;> cases t2 <;> cases t3
  all_goals
    go_enter Try.func59, Try.ntmps59
    go_wp2
    go_quiet (fail)
    go_wp2
    go_ret
    exact ⟨rfl, _, rfl⟩
end Go.Proofs.Ytbkepkiaabeliaa
