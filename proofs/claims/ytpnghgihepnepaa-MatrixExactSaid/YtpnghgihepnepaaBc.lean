/- Every small matrix can be reduced without overflow. -/
import Derived.Test.YtpnghgihepnepaaBb
import Derived.Test.YtpnghgihepnepaaNj
namespace Go.Proofs.Ytpnghgihepnepaa
open Go.RowKit
set_option linter.unusedVariables false
theorem fb5 {p : Nat} (h : p ≤ 5) : fb 16 p ≤ 125829120 := by
  obtain rfl | rfl | rfl | rfl | rfl | rfl : p = 0 ∨ p = 1 ∨ p = 2 ∨ p = 3 ∨ p = 4 ∨ p = 5 := by omega
  all_goals decide
theorem fb6 {p : Nat} (h : p ≤ 6) : fb 16 p ≤ 12079595520 := by
  by_cases e : p = 6
  · subst e; decide
  · have := fb5 (show p ≤ 5 by omega); omega
theorem mul_abs {a b : Int} {A B : Nat} (ha : a.natAbs ≤ A) (hb : b.natAbs ≤ B) (h : A * B ≤ 4000000000000000000) : -4000000000000000000 ≤ a * b ∧ a * b ≤ 4000000000000000000 := by
  have := Nat.mul_le_mul ha hb
  rw [← Int.natAbs_mul] at this
  omega
theorem BInv.lge {M : List (List Int)} {m k : Nat} {s : RSt} {os : List (List Int)} {c : Nat → Nat} (h : BInv M m k s os c) : ∀ l, l < s.2.1.length → l ≤ c l
  | 0, _ => Nat.zero_le _
  | l + 1, hl => by
    have := h.lge l (by omega)
    have := h.asc l (l + 1) (by omega) hl
    omega
theorem BInv.pk {M : List (List Int)} {m k : Nat} {s : RSt} {os : List (List Int)} {c : Nat → Nat} (h : BInv M m k s os c) : s.2.1.length ≤ k := by
  by_cases e : s.2.1.length = 0
  · omega
  · have h1 := h.lge (s.2.1.length - 1) (by omega)
    have h2 := h.ck (s.2.1.length - 1) (by omega)
    omega
theorem BInv.ovb {M : List (List Int)} {m k : Nat} {s : RSt} {os : List (List Int)} {c : Nat → Nat} (h : BInv M m k s os c) {B : Nat} (hM : ∀ r ∈ M, ∀ x ∈ r, x.natAbs ≤ B) : ∀ i j, (ov os i j).natAbs ≤ B := by
  intro i j
  unfold ov
  cases hi : os[i]? with
  | none => simp
  | some r =>
    have hr : r ∈ M := (h.mem r).1 (List.mem_of_getElem? hi)
    show ((r[j]?).getD 0).natAbs ≤ B
    cases hj : r[j]? with
    | none => simp
    | some x => exact hM r hr x (List.mem_of_getElem? hj)
theorem BInv.low_bd {M : List (List Int)} {m k : Nat} {s : RSt} {os : List (List Int)} {c : Nat → Nat} (h : BInv M m k s os c) (hM : ∀ r ∈ M, ∀ x ∈ r, x.natAbs ≤ 16) {l j : Nat} (hl : l < s.2.1.length) (hj : j < m) : (ent s.1 l j).natAbs ≤ fb 16 s.2.1.length := by
  rw [h.low l hl j hj]; exact X_bd (h.ovb hM) _ _ _ _
theorem BInv.high_bd {M : List (List Int)} {m k : Nat} {s : RSt} {os : List (List Int)} {c : Nat → Nat} (h : BInv M m k s os c) (hM : ∀ r ∈ M, ∀ x ∈ r, x.natAbs ≤ 16) {i j : Nat} (h1 : s.2.1.length ≤ i) (h2 : i < os.length) (hj : j < m) : (ent s.1 i j).natAbs ≤ fb 16 (s.2.1.length + 1) := by
  rw [h.high i h1 h2 j hj]; exact Y_bd (h.ovb hM) _ _ _ _
theorem BInv.fit {M : List (List Int)} {m k : Nat} {s : RSt} {os : List (List Int)} {c : Nat → Nat} (h : BInv M m k s os c) (hk : k < m) (hM : ∀ r ∈ M, ∀ x ∈ r, x.natAbs ≤ 16) (h6 : M.length ≤ 6 ∨ m ≤ 6) : FitS k s := by
  intro t hh i hi hip
  obtain ⟨ps, pv, f⟩ := s
  have hpk := h.pk
  have hlb := fun l j hl hj => h.low_bd hM (l := l) (j := j) hl hj
  have hhb := fun i j h1 h2 hj => h.high_bd hM (i := i) (j := j) h1 h2 hj
  have hz := h.zero
  have hln := h.ln
  have hlen := h.len
  have hw := h.wide
  dsimp only at *
  generalize hp : pv.length = p at *
  obtain ⟨e1, e2, e3⟩ := findHit_some hh
  have hpp : p < ps.length := by omega
  have ht : t < ps.length := by omega
  have htop : topOf k t (ps, pv, f) = ps[t].2 := top_is (k := 0) (by omega) ht
  rw [htop]
  have hil : i < ps.length := by rw [swapT_len] at hi; exact hi
  have hrow : (swapT ps p t)[i] = (swapT ps p t)[i]?.getD rowN := by rw [List.getElem?_eq_getElem hi]; rfl
  rw [hrow, swapT_at hpp ht]
  intro j hj
  have tb : ∀ j, j < m → (ps[t].2[j]?.getD 0).natAbs ≤ fb 16 (p + 1) := fun j hj => by rw [← ent_row ht]; exact hhb t j e1 (by omega) hj
  by_cases hlow : i < p
  · rw [if_neg (by omega), if_neg (by omega)] at hj ⊢
    have hjm : j < m := by rw [List.getElem?_eq_getElem hil] at hj; have := hw _ (List.getElem_mem hil); simp at hj; omega
    have f5 := fb5 (show p ≤ 5 by omega)
    have f6 := fb6 (show p + 1 ≤ 6 by omega)
    refine .inr ⟨mul_abs (A := 125829120) (B := 12079595520) (Nat.le_trans (hlb i j hlow hjm) f5) (Nat.le_trans (tb k hk) f6) (by decide), mul_abs (A := 125829120) (B := 12079595520) (Nat.le_trans (hlb i k hlow hk) f5) (Nat.le_trans (tb j hjm) f6) (by decide)⟩
  · obtain ⟨u, hu1, hu2, hu3⟩ : ∃ u, p ≤ u ∧ u < ps.length ∧ (if i = t then ps[p]?.getD rowN else if i = p then ps[t]?.getD rowN else ps[i]?.getD rowN) = ps[u]?.getD rowN := by
      by_cases h1 : i = t
      · exact ⟨p, Nat.le_refl _, hpp, by rw [if_pos h1]⟩
      · exact ⟨i, by omega, hil, by rw [if_neg h1, if_neg hip]⟩
    rw [hu3] at hj ⊢
    have hjm : j < m := by rw [List.getElem?_eq_getElem hu2] at hj; have := hw _ (List.getElem_mem hu2); simp at hj; omega
    by_cases h5 : p + 1 ≤ 5
    · have f5 := fb5 h5
      refine .inr ⟨mul_abs (A := 125829120) (B := 125829120) (Nat.le_trans (hhb u j hu1 (by omega) hjm) f5) (Nat.le_trans (tb k hk) f5) (by decide), mul_abs (A := 125829120) (B := 125829120) (Nat.le_trans (hhb u k hu1 (by omega) hk) f5) (Nat.le_trans (tb j hjm) f5) (by decide)⟩
    · by_cases hjk : j = k
      · exact .inl hjk
      · refine .inr ?_
        have z1 := hz u hu1 (by omega) j (by omega)
        have z2 := hz t e1 (by omega) j (by omega)
        rw [ent_row ht] at z2
        unfold ent at z1
        rw [z1, z2]; simp
theorem BInv.end_bd {M : List (List Int)} {m : Nat} {s : RSt} {os : List (List Int)} {c : Nat → Nat} (h : BInv M m m s os c) (hM : ∀ r ∈ M, ∀ x ∈ r, x.natAbs ≤ 16) (h6 : M.length ≤ 6 ∨ m ≤ 6) :
    s.2.2.natAbs ≤ 12079595520 ∧ ∀ q ∈ s.1, ∀ x ∈ q.2, x.natAbs ≤ 12079595520 := by
  have hp6 : s.2.1.length ≤ 6 := by have := h.pk; have := h.ple; have := h.ln; omega
  refine ⟨by rw [h.fac]; exact Nat.le_trans (D_bd (h.ovb hM) _ _) (fb6 hp6), fun q hq x hx => ?_⟩
  obtain ⟨i, hi, rfl⟩ := List.getElem_of_mem hq
  obtain ⟨j, hj, rfl⟩ := List.getElem_of_mem hx
  have hjm : j < m := by have := h.wide _ (List.getElem_mem hi); omega
  have e : s.1[i].2[j] = ent s.1 i j := by rw [ent_row hi, List.getElem?_eq_getElem hj]; rfl
  rw [e]
  by_cases hl : i < s.2.1.length
  · exact Nat.le_trans (h.low_bd hM hl hjm) (fb6 hp6)
  · rw [h.zero i (by omega) (by have := h.len; omega) j hjm]; decide
def Ent16 (ps : List Row) : Prop := ∀ q ∈ ps, ∀ x ∈ q.2, -16 ≤ x ∧ x ≤ 16
/-- Every small matrix can be reduced. -/
theorem redFit_any {ps : List Row} {m : Nat} (hm : ∀ q ∈ ps, q.2.length = m) (hb : ∀ q ∈ ps, ∀ x ∈ q.2, -16 ≤ x ∧ x ≤ 16) (h6 : ps.length ≤ 6 ∨ m ≤ 6) : RedFit ps m := by
  intro qs hq
  have hM : ∀ r ∈ ps.map Prod.snd, ∀ x ∈ r, x.natAbs ≤ 16 := fun r hr x hx => by
    obtain ⟨q, hq, rfl⟩ := List.mem_map.1 hr
    have := hb q hq x hx
    omega
  have hW : ∀ r ∈ ps.map Prod.snd, r.length = m := fun r hr => by
    obtain ⟨q, hq, rfl⟩ := List.mem_map.1 hr
    exact hm q hq
  have h6' : (ps.map Prod.snd).length ≤ 6 ∨ m ≤ 6 := by rw [List.length_map]; exact h6
  obtain ⟨os, c, h⟩ := BInv.all hq hW m (Nat.le_refl _)
  have he := h.end_bd hM h6'
  refine ⟨fun k hk => ?_, by have := he.1; omega, fun q hq' x hx => by have := he.2 q hq' x hx; omega⟩
  obtain ⟨os', c', h'⟩ := BInv.all hq hW k (by omega)
  exact h'.fit hk hM h6'
end Go.Proofs.Ytpnghgihepnepaa
