/- Ascending lists of words. -/
import Derived.Test.YtgdnlibklopdiaaCf
namespace Go.Proofs.Ytgdnlibklopdiaa
open Go.RowKit
set_option linter.unusedVariables false

/-- A list put into an ascending list, if it is not there. -/
def putL : List (List Int) → List Int → List (List Int)
  | [], r => [r]
  | x :: xs, r => if compareI x r < 0 then x :: putL xs r else if x = r then x :: xs else r :: x :: xs
def ascL (rs : List (List Int)) : List (List Int) := rs.foldl putL []
def Asc (rs : List (List Int)) : Prop := rs.Pairwise (fun a b => compareI a b < 0)
theorem putL_mem (r : List Int) : ∀ (l : List (List Int)) (x : List Int), x ∈ putL l r ↔ x ∈ l ∨ x = r
  | [], x => by simp [putL]
  | y :: l, x => by
    have ih := putL_mem r l x
    unfold putL
    split
    · simp [ih, or_assoc]
    · split
      · rename_i h; subst h; simp; exact fun h => .inl h
      · simp only [List.mem_cons]
        constructor
        · rintro (h | h | h)
          · exact .inr h
          · exact .inl (.inl h)
          · exact .inl (.inr h)
        · rintro ((h | h) | h)
          · exact .inr (.inl h)
          · exact .inr (.inr h)
          · exact .inl h
theorem cmp_lt_trans {a b c : List Int} (h : compareI a b < 0) (h' : compareI b c < 0) : compareI a c < 0 := by
  have h3 := cmp_trans a b c (Int.le_of_lt h) (Int.le_of_lt h')
  rcases Int.lt_or_eq_of_le h3 with h4 | h4
  · exact h4
  · have := (compareI_zero _ _).1 h4
    subst this
    have := compareI_neg a b
    omega
theorem putL_asc (r : List Int) : ∀ l : List (List Int), Asc l → Asc (putL l r)
  | [], _ => by simp [putL, Asc]
  | y :: l, h => by
    have h1 := List.pairwise_cons.1 h
    unfold putL
    split
    · rename_i hy
      refine List.pairwise_cons.2 ⟨fun x hx => ?_, putL_asc r l h1.2⟩
      rcases (putL_mem r l x).1 hx with hx | hx
      · exact h1.1 x hx
      · rw [hx]; exact hy
    · rename_i hy
      split
      · exact h
      · rename_i hne
        have hr : compareI r y < 0 := by
          have := compareI_neg r y
          have h0 := mt (compareI_zero y r).1 hne
          omega
        refine List.pairwise_cons.2 ⟨fun x hx => ?_, h⟩
        rcases List.mem_cons.1 hx with hx | hx
        · rw [hx]; exact hr
        · exact cmp_lt_trans hr (h1.1 x hx)
theorem foldl_put (rs : List (List Int)) : ∀ l, Asc l → Asc (rs.foldl putL l) ∧ ∀ x, x ∈ rs.foldl putL l ↔ x ∈ l ∨ x ∈ rs := by
  induction rs with
  | nil => intro l h; exact ⟨h, by simp⟩
  | cons r rs ih =>
    intro l h
    obtain ⟨h1, h2⟩ := ih (putL l r) (putL_asc r l h)
    refine ⟨h1, fun x => ?_⟩
    rw [List.foldl_cons, h2, putL_mem, List.mem_cons, or_assoc]
theorem ascL_asc (rs : List (List Int)) : Asc (ascL rs) := (foldl_put rs [] List.Pairwise.nil).1
theorem ascL_mem (rs : List (List Int)) (x : List Int) : x ∈ ascL rs ↔ x ∈ rs := by
  have := (foldl_put rs [] List.Pairwise.nil).2 x
  simpa [ascL] using this
theorem asc_unique : ∀ a b : List (List Int), Asc a → Asc b → (∀ x, x ∈ a ↔ x ∈ b) → a = b
  | [], [], _, _, _ => rfl
  | [], y :: b, _, _, h => by have := (h y).2 (by simp); simp at this
  | x :: a, [], _, _, h => by have := (h x).1 (by simp); simp at this
  | x :: a, y :: b, ha, hb, h => by
    have ha' := List.pairwise_cons.1 ha
    have hb' := List.pairwise_cons.1 hb
    have hxy : x = y := by
      have h1 := (h x).1 (by simp)
      have h2 := (h y).2 (by simp)
      rcases List.mem_cons.1 h1 with h1 | h1
      · exact h1
      · rcases List.mem_cons.1 h2 with h2 | h2
        · exact h2.symm
        · have h3 := ha'.1 y h2
          have h4 := hb'.1 x h1
          have := compareI_neg x y
          omega
    subst hxy
    congr 1
    refine asc_unique a b ha'.2 hb'.2 fun z => ?_
    have hz := h z
    simp only [List.mem_cons] at hz
    constructor
    · intro h1
      rcases hz.1 (.inr h1) with h2 | h2
      · subst h2
        have := ha'.1 z h1
        rw [(compareI_zero z z).2 rfl] at this
        omega
      · exact h2
    · intro h1
      rcases hz.2 (.inr h1) with h2 | h2
      · subst h2
        have := hb'.1 z h1
        rw [(compareI_zero z z).2 rfl] at this
        omega
      · exact h2

/-- Of sorted rows, equal neighbours once: ascending, and the same lists. -/
theorem cpt_asc (ps : List Row) (hs : ps.Pairwise (fun p q => compareI p.2 q.2 ≤ 0)) : ∀ m, m ≤ ps.length → Asc ((cpt ps m).map Prod.snd) ∧ (∀ r, r ∈ (cpt ps m).map Prod.snd ↔ r ∈ (ps.take m).map Prod.snd)
  | 0, _ => by simp [cpt, Asc]
  | m + 1, hm => by
    obtain ⟨ih1, ih2⟩ := cpt_asc ps hs m (by omega)
    have hlt : m < ps.length := by omega
    have hle : ∀ r ∈ (ps.take m).map Prod.snd, compareI r (ps[m]).2 ≤ 0 := by
      intro r hr
      obtain ⟨q, hq, rfl⟩ := List.mem_map.1 hr
      obtain ⟨i, hi, rfl⟩ := List.getElem_of_mem hq
      have hi' : i < m := by simp at hi; omega
      rw [List.getElem_take]
      exact List.pairwise_iff_getElem.1 hs i m (by omega) hlt hi'
    rw [take_snocR ps m hlt, getD_lt hlt]
    unfold cpt
    rw [getD_lt hlt]
    split
    · rename_i hk
      have hlast : ∀ r ∈ (cpt ps m).map Prod.snd, compareI r (ps[m]).2 < 0 := by
        intro r hr
        have h1 := hle r ((ih2 r).1 hr)
        rcases Int.lt_or_eq_of_le h1 with h2 | h2
        · exact h2
        · exfalso
          have h3 := (compareI_zero _ _).1 h2
          rcases hk with hk | hk
          · subst hk; simp [cpt] at hr
          · apply hk
            have hm1 : m - 1 < ps.length := by omega
            rcases Nat.eq_zero_or_pos m with h0 | h0
            · subst h0; simp [cpt] at hr
            rw [getD_lt hm1]
            have hr' := (ih2 r).1 hr
            obtain ⟨q, hq, rfl⟩ := List.mem_map.1 hr'
            obtain ⟨i, hi, rfl⟩ := List.getElem_of_mem hq
            have hi' : i < m := by simp at hi; omega
            rw [List.getElem_take] at h3
            have h4 : compareI (ps[i]).2 (ps[m - 1]).2 ≤ 0 := by
              rcases Nat.lt_or_ge i (m - 1) with h5 | h5
              · exact List.pairwise_iff_getElem.1 hs i (m - 1) (by omega) hm1 h5
              · have : i = m - 1 := by omega
                subst this
                rw [(compareI_zero _ _).2 rfl]; omega
            have h6 : compareI (ps[m - 1]).2 (ps[m]).2 ≤ 0 := List.pairwise_iff_getElem.1 hs (m - 1) m hm1 hlt (by omega)
            rw [h3] at h4
            have h7 := compareI_neg (ps[m]).2 (ps[m - 1]).2
            exact ((compareI_zero _ _).1 (show compareI (ps[m]).2 (ps[m - 1]).2 = 0 by omega))
      refine ⟨?_, fun r => ?_⟩
      · rw [List.map_append]
        refine List.pairwise_append.2 ⟨ih1, by simp, fun a ha b hb => ?_⟩
        simp at hb
        rw [hb]
        exact hlast a ha
      · rw [List.map_append, List.map_append, List.mem_append, List.mem_append, ih2 r]
    · rename_i hk
      refine ⟨ih1, fun r => ?_⟩
      rw [List.map_append, List.mem_append, ih2 r]
      constructor
      · exact fun h => .inl h
      · intro h
        rcases h with h | h
        · exact h
        · simp at h
          rw [h]
          simp only [not_or, ne_eq, Decidable.not_not] at hk
          rw [hk.2, getD_lt (show m - 1 < ps.length by omega)]
          refine List.mem_map.2 ⟨ps[m - 1], ?_, rfl⟩
          exact List.mem_take_iff_getElem.2 ⟨m - 1, by omega, rfl⟩

/-- Slices of slices that a call makes out of one of its caller's own. -/
def AscP (base : Nat) (v : Value) (rs : List (List Int)) (w : World) (e : Ending) (w' : World) : Prop :=
  ∃ v' qs, e = .returned v' ∧ OwnP w' base v' qs ∧ qs.map Prod.snd = ascL rs ∧ w.grownBy w' v.ownBlock ∧ ∀ g, v'.ownBlock = some g → v.ownBlock = some g

end Go.Proofs.Ytgdnlibklopdiaa
