/- Laws 3: what they share. -/
import Derived.Test.YtnppmemcdcgjhaaHk
import Derived.Test.YtnppmemcdcgjhaaGr
namespace Go.Proofs.Ytnppmemcdcgjhaa
open Go.RowKit
set_option linter.unusedVariables false

theorem TabD.open {w : World} {d : Nat} {v : Value} {ps : List BRow} (h : TabD w d v ps) : ∃ a c, v = .slice a ps.length c := by
  obtain ⟨⟨a, c, hv, -⟩, -⟩ := h
  exact ⟨a, c, hv⟩
theorem valid_tab {ps : List BRow} {c : Nat} (h : ps.length ≤ 12) (hc : ∀ q ∈ ps, q.2.length = c) (h12 : c ≤ 12) : validT (ps.map Prod.snd) = true := by
  refine validT_iff.2 ⟨by simpa using h, fun r hr => ?_⟩
  obtain ⟨q, hq, rfl⟩ := List.mem_map.1 hr
  refine ⟨by rw [hc q hq]; exact h12, ?_⟩
  have h0 : 0 < ps.length := List.length_pos_of_mem hq
  rw [hc q hq, List.getElem?_eq_getElem (by rw [List.length_map]; exact h0), Option.getD_some, List.getElem_map, hc _ (List.getElem_mem h0)]
theorem map_ofNat_inj {a b : List Nat} (h : a.map Int.ofNat = b.map Int.ofNat) : a = b := by
  have := congrArg (List.map Int.toNat) h
  rw [List.map_map, List.map_map] at this
  simpa [Function.comp_def] using this
theorem lexLe_compare {m d : List Nat} (h : LexLe m d) (hl : m.length = d.length) : ¬ compareI (d.map Int.ofNat) (m.map Int.ofNat) < 0 := by
  rcases h with rfl | ⟨k, h1, h2, h3, h4⟩
  · rw [(compareI_zero _ _).2 rfl]; omega
  · have e : compareI (d.map Int.ofNat) (m.map Int.ofNat) = lexI (d.map Int.ofNat) (m.map Int.ofNat) := by
      unfold compareI
      rw [List.length_map, List.length_map, hl]; simp
    have e1 : orderI ((d.map Int.ofNat)[k]?.getD 0) ((m.map Int.ofNat)[k]?.getD 0) = 1 := by
      rw [getD_map, getD_map]
      unfold orderI
      rw [if_neg (by omega), if_pos (by omega)]
    rw [e, lexI_at _ _ k (by simpa using h2) (by simpa using h1) (by rw [← List.map_take, ← List.map_take, h3]; exact (lexI_zero _ _).2 rfl) (by rw [e1]; decide), e1]
    decide
theorem PMI.nu {T : List (List Bool)} {xs : List Int} {n : Nat} (h : PMI T xs) (hn : Nu T n) : n = T.length := by
  obtain ⟨m, -, hm⟩ := h
  exact hm.nu hn

end Go.Proofs.Ytnppmemcdcgjhaa
