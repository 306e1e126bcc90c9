/- done, skipping, Forward. -/
import Derived.Test.YtbkepkiaabeliaaQ42
import Derived.Test.YtbkepkiaabeliaaAppK
import Derived.Test.YtbkepkiaabeliaaRegH
namespace Go.Proofs.Ytbkepkiaabeliaa
open Go.RowKit Go.Maps
attribute [local go_sem] Oper.semAt_some
set_option linter.unusedVariables false

/-! ### done -/
/-- How many there are ahead of the first one that is still to come. -/
def dnN (es : List En) : Nat := (es.takeWhile fun e => !openB e).length
theorem dnN_le (es : List En) : dnN es ≤ es.length := (List.takeWhile_sublist _).length_le
theorem tw_self {p : En → Bool} : ∀ {l : List En}, (∀ e ∈ l, p e = true) → l.takeWhile p = l
  | [], _ => rfl
  | e :: r, h => by rw [List.takeWhile_cons_of_pos (h e (List.mem_cons_self ..)), tw_self fun x hx => h x (List.mem_cons_of_mem _ hx)]
theorem dnN_fst {es : List En} {z : Int} (h : FstAt openB es z) : (z = -1 ∧ dnN es = es.length) ∨ z = (dnN es : Int) ∧ dnN es < es.length := by
  rcases h with ⟨rfl, h⟩ | ⟨j, rfl, h1, ⟨e, h2, h3⟩, h4⟩
  · left
    refine ⟨rfl, ?_⟩
    unfold dnN
    rw [tw_self fun e he => List.all_eq_true.1 h e he]
  · right
    have hd : dnN es = j := by
      have e1 : es = es.take j ++ (e :: es.drop (j + 1)) := by
        have h5 : es[j] = e := by
          rw [List.getElem?_eq_getElem h1] at h2
          exact Option.some.inj h2
        rw [← h5, ← List.drop_eq_getElem_cons h1, List.take_append_drop]
      unfold dnN
      rw [e1, List.takeWhile_append_of_pos (fun x hx => by rw [h4 x hx]; rfl), List.takeWhile_cons_of_neg (by rw [h3]; decide), List.append_nil, List.length_take]
      omega
    rw [hd]
    exact ⟨rfl, h1⟩
set_option maxHeartbeats 2000000 in
theorem done_any {w : World} {G : Gq} {q : Qm} (h : QA w G q) :
    Calls Try.prog 61 #[.pointer (some ⟨G.b, 0, none⟩)] w fun e w' => (∃ A c, e = .returned (.slice A (dnN q.es) c) ∧ dnN q.es ≤ c ∧ (dnN q.es ≠ 0 → A = G.s.1)) ∧ w = w' := by
  have HL := keep (list_at G.b _ _ _ w h.b0.1)
  have K := keep (openIndex_any G.s q.es w h.es_ (by rw [h.n]; have := h.le; omega))
  have hn := h.n
  have hc := h.sr.1
  obtain ⟨d, hd⟩ : ∃ d, dnN q.es = d := ⟨_, rfl⟩
  have HD := keep (show ∀ z, FstAt openB q.es z → (z = -1 ∧ d = G.s.2.1) ∨ z = (d : Int) ∧ d < G.s.2.1 from fun z hz => by
    have := dnN_fst hz
    rw [hd, ← hn] at this
    exact this)
  rw [hd]
  clear h hd
  obtain ⟨b, ⟨s1, s2, s3⟩, O, F⟩ := G
  dsimp only at HL K hn hc HD ⊢
  by_cases h1 : d < s2
  · have K2 := K.out.mono (fun e w' hh => show e = .returned (.int .i64 (d : Int)) ∧ w = w' from by
      obtain ⟨⟨z, rfl, hz⟩, rfl⟩ := hh
      rcases HD.out z hz.out with ⟨_, h2⟩ | ⟨rfl, _⟩
      · omega
      · exact ⟨rfl, rfl⟩)
    replace K := keep K2
    have hd0 : (0 : Int) ≤ (d : Int) := by omega
    have hd1 : (d : Int) ≤ (s3 : Int) := by omega
    have HH := keep (show d ≤ s3 by omega)
    clear h1 hn HD K2 hc
    go_enter Try.func61, Try.ntmps61
    go_wp2_with (first
      | (go_at_call 43; refine HL.out.mono ?_; rintro e w' ⟨rfl, rfl⟩)
      | (go_at_call 82; refine K.out.mono ?_; rintro e w1 ⟨rfl, rfl⟩))
    go_ret
    exact ⟨⟨_, _, rfl, HH.out, fun _ => rfl⟩, rfl⟩
  · have K2 := K.out.mono (fun e w' hh => show e = .returned (.int .i64 (-1)) ∧ w = w' ∧ d = s2 from by
      obtain ⟨⟨z, rfl, hz⟩, rfl⟩ := hh
      rcases HD.out z hz.out with ⟨rfl, h2⟩ | ⟨rfl, h2⟩
      · exact ⟨rfl, rfl, h2⟩
      · exact absurd h2 h1)
    replace K := keep K2
    have HC := keep hc
    clear h1 hn HD K2 hc
    go_enter Try.func61, Try.ntmps61
    go_wp2_with (first
      | (go_at_call 43; refine HL.out.mono ?_; rintro e w' ⟨rfl, rfl⟩)
      | (go_at_call 82; refine K.out.mono ?_; rintro e w1 ⟨rfl, rfl, hd⟩; replace hd := keep hd))
    go_ret
    rw [hd.out]
    exact ⟨⟨_, _, rfl, HC.out, fun _ => rfl⟩, rfl⟩
end Go.Proofs.Ytbkepkiaabeliaa
