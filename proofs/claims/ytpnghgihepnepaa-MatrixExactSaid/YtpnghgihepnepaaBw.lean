/- What the reference's elimination meets at each step: rows that are primitive and short, products that fit. -/
import Derived.Test.YtpnghgihepnepaaBu
namespace Go.Proofs.Ytpnghgihepnepaa
open Go.RowKit
set_option linter.unusedVariables false

theorem BInv.mid_bd {M : List (List Int)} {m k : Nat} {s : RSt} {os : List (List Int)} {c : Nat → Nat} (h : BInv M m k s os c) (hk : k < m) (hM : ∀ r ∈ M, ∀ x ∈ r, x.natAbs ≤ 16) (h6 : M.length ≤ 6 ∨ m ≤ 6) (t j : Nat) : (ent s.1 t j).natAbs ≤ 12079595520 := by
  have hpk := h.pk
  have hln := h.ln
  have hple := h.ple
  by_cases hj : j < m
  · by_cases ht : t < os.length
    · by_cases hl : t < s.2.1.length
      · exact Nat.le_trans (h.low_bd hM hl hj) (fb6 (by omega))
      · exact Nat.le_trans (h.high_bd hM (by omega) ht hj) (fb6 (by omega))
    · unfold ent
      rw [List.getElem?_eq_none (l := s.1) (i := t) (by have := h.len; omega)]
      show (([] : List Int)[j]?.getD 0).natAbs ≤ _
      simp
  · unfold ent
    by_cases ht : t < s.1.length
    · rw [List.getElem?_eq_getElem ht]
      have hw := h.wide _ (List.getElem_mem ht)
      show ((s.1[t]).2[j]?.getD 0).natAbs ≤ _
      rw [List.getElem?_eq_none (by omega)]
      simp
    · rw [List.getElem?_eq_none (l := s.1) (i := t) (by omega)]
      show (([] : List Int)[j]?.getD 0).natAbs ≤ _
      simp

/-- The rows while a column is eliminated: the first i are done. -/
def halfR (c p : Nat) (T : List Int) (L : List (List Int)) (i : Nat) : List (List Int) := L.mapIdx (fun t row => if t = p then T else if t < i then relim c T row else row)
theorem halfR_len (c p : Nat) (T : List Int) (L : List (List Int)) (i : Nat) : (halfR c p T L i).length = L.length := by unfold halfR; rw [List.length_mapIdx]
theorem halfR_at {c p : Nat} {T : List Int} {L : List (List Int)} {i t : Nat} (h : t < L.length) : (halfR c p T L i)[t]?.getD [] = if t = p then T else if t < i then relim c T (L[t]?.getD []) else L[t]?.getD [] := by
  unfold halfR
  rw [List.getElem?_mapIdx, List.getElem?_eq_getElem h]; rfl
theorem ext_getD {A B : List (List Int)} (hl : A.length = B.length) (h : ∀ t : Nat, t < A.length → A[t]?.getD [] = B[t]?.getD []) : A = B := by
  apply List.ext_getElem hl
  intro t h1 h2
  have := h t h1
  rw [List.getElem?_eq_getElem h1, List.getElem?_eq_getElem h2] at this
  exact this
theorem getD_set {A : List (List Int)} {k t : Nat} (x : List Int) (hk : k < A.length) : (A.set k x)[t]?.getD [] = if t = k then x else A[t]?.getD [] := by
  rw [List.getElem?_set]
  by_cases e : t = k
  · rw [if_pos e.symm, if_pos e, if_pos hk]; rfl
  · rw [if_neg (fun h => e h.symm), if_neg e]
theorem halfR_start {c p : Nat} {T : List Int} {L : List (List Int)} (hp : p < L.length) : L.set p T = halfR c p T L 0 := by
  refine ext_getD (by rw [List.length_set, halfR_len]) (fun t ht => ?_)
  rw [List.length_set] at ht
  rw [getD_set T hp, halfR_at ht, if_neg (Nat.not_lt_zero t)]
theorem halfR_next {c p : Nat} {T : List Int} {L : List (List Int)} {i : Nat} (hi : i < L.length) (hip : i ≠ p) : (halfR c p T L i).set i (relim c T (L[i]?.getD [])) = halfR c p T L (i + 1) := by
  refine ext_getD (by rw [List.length_set, halfR_len, halfR_len]) (fun t ht => ?_)
  rw [List.length_set, halfR_len] at ht
  rw [getD_set _ (by rw [halfR_len]; exact hi), halfR_at ht, halfR_at ht]
  by_cases e : t = i
  · subst e
    rw [if_pos rfl, if_neg hip, if_pos (Nat.lt_succ_self t)]
  · rw [if_neg e]
    by_cases e2 : t = p
    · rw [if_pos e2, if_pos e2]
    · rw [if_neg e2, if_neg e2]
      by_cases e3 : t < i
      · rw [if_pos e3, if_pos (by omega)]
      · rw [if_neg e3, if_neg (by omega)]
theorem halfR_skip {c p : Nat} {T : List Int} {L : List (List Int)} : halfR c p T L p = halfR c p T L (p + 1) := by
  refine ext_getD (by rw [halfR_len, halfR_len]) (fun t ht => ?_)
  rw [halfR_len] at ht
  rw [halfR_at ht, halfR_at ht]
  by_cases e2 : t = p
  · rw [if_pos e2, if_pos e2]
  · rw [if_neg e2, if_neg e2]
    by_cases e3 : t < p
    · rw [if_pos e3, if_pos (by omega)]
    · rw [if_neg e3, if_neg (by omega)]
theorem halfR_zero {c p : Nat} {T : List Int} {L : List (List Int)} {i : Nat} (h0 : (L[i]?.getD [])[c]?.getD 0 = 0) : halfR c p T L i = halfR c p T L (i + 1) := by
  refine ext_getD (by rw [halfR_len, halfR_len]) (fun t ht => ?_)
  rw [halfR_len] at ht
  rw [halfR_at ht, halfR_at ht]
  by_cases e2 : t = p
  · rw [if_pos e2, if_pos e2]
  · rw [if_neg e2, if_neg e2]
    by_cases e : t = i
    · subst e
      rw [if_neg (Nat.lt_irrefl t), if_pos (Nat.lt_succ_self t)]
      unfold relim
      rw [if_pos h0]
    · by_cases e3 : t < i
      · rw [if_pos e3, if_pos (by omega)]
      · rw [if_neg e3, if_neg (by omega)]
theorem halfR_full (c p : Nat) (T : List Int) (L : List (List Int)) : halfR c p T L L.length = L.mapIdx (fun t row => if t = p then T else relim c T row) := by
  refine ext_getD (by rw [halfR_len, List.length_mapIdx]) (fun t ht => ?_)
  rw [halfR_len] at ht
  rw [halfR_at ht, if_pos ht, List.getElem?_mapIdx, List.getElem?_eq_getElem ht]; rfl
theorem lstep_hit {R : List (List Int)} {P : List Int} {k i : Nat} (h : lfind R k (R.length - P.length) P.length = some i) :
    lstep k (R, P) = (halfR k P.length (ltop k ((swapO R P.length i)[P.length]?.getD [])) (swapO R P.length i) (swapO R P.length i).length, P ++ [(k : Int)]) := by
  rw [halfR_full]
  unfold lstep
  dsimp only
  rw [h]
theorem lstep_none {R : List (List Int)} {P : List Int} {k : Nat} (h : lfind R k (R.length - P.length) P.length = none) : lstep k (R, P) = (R, P) := by
  unfold lstep
  dsimp only
  rw [h]
/-- What is known of the rows when a column is eliminated. -/
structure StepF (m k p : Nat) (T : List Int) (L : List (List Int)) : Prop where
  top : ∃ Bt f, PropR T Bt ∧ ∀ t, t < L.length → t ≠ p → ∃ B, PropR (L[t]?.getD []) B ∧ FitE (Bt[k]?.getD 0) f k Bt B
  pos : 0 < T[k]?.getD 0
  wt : T.length = m
  wl : ∀ t, t < L.length → (L[t]?.getD []).length = m
  bt : ∀ j : Nat, (T[j]?.getD 0).natAbs ≤ 12079595520
  bl : ∀ t j : Nat, ((L[t]?.getD [])[j]?.getD 0).natAbs ≤ 12079595520
theorem rel_bd {M : List (List Int)} {m k : Nat} {l : LSt} {s : RSt} {os : List (List Int)} {c : Nat → Nat} (h : RelR m l s) (hB : BInv M m k s os c) (hk : k < m) (hM : ∀ r ∈ M, ∀ x ∈ r, x.natAbs ≤ 16) (h6 : M.length ≤ 6 ∨ m ≤ 6) (t j : Nat) :
    ((l.1[t]?.getD [])[j]?.getD 0).natAbs ≤ 12079595520 := by
  by_cases ht : t < s.1.length
  · exact Nat.le_trans ((h.row t ht).bd j) (hB.mid_bd hk hM h6 t j)
  · rw [List.getElem?_eq_none (l := l.1) (i := t) (by have := h.len; omega)]
    show (([] : List Int)[j]?.getD 0).natAbs ≤ _
    simp
theorem rel_wide {M : List (List Int)} {m k : Nat} {l : LSt} {s : RSt} {os : List (List Int)} {c : Nat → Nat} (h : RelR m l s) (hB : BInv M m k s os c) (t : Nat) (ht : t < l.1.length) : (l.1[t]?.getD []).length = m := by
  have ht' : t < s.1.length := by have := h.len; omega
  rw [(h.row t ht').len, List.getElem?_eq_getElem ht']
  exact hB.wide _ (List.getElem_mem ht')
theorem lfind_some {R : List (List Int)} {c : Nat} : ∀ {n i k}, lfind R c n i = some k → i ≤ k ∧ k < i + n ∧ (R[k]?.getD [])[c]?.getD 0 ≠ 0
  | 0, i, k, h => by unfold lfind at h; cases h
  | n + 1, i, k, h => by
    unfold lfind at h
    by_cases e : lhit R c i = true
    · rw [if_pos e] at h
      cases h
      unfold lhit at e
      exact ⟨Nat.le_refl _, by omega, by simpa using e⟩
    · rw [if_neg e] at h
      obtain ⟨h1, h2, h3⟩ := lfind_some h
      exact ⟨by omega, by omega, h3⟩
theorem stepF_of {M : List (List Int)} {m k : Nat} {l : LSt} {s : RSt} {os : List (List Int)} {c : Nat → Nat} (h : RelR m l s) (hB : BInv M m k s os c) (hk : k < m) (hM : ∀ r ∈ M, ∀ x ∈ r, x.natAbs ≤ 16) (h6 : M.length ≤ 6 ∨ m ≤ 6) {i : Nat}
    (hf : lfind l.1 k (l.1.length - l.2.length) l.2.length = some i) : l.2.length < l.1.length ∧ l.2.length ≤ i ∧ i < l.1.length ∧ StepF m k l.2.length (ltop k ((swapO l.1 l.2.length i)[l.2.length]?.getD [])) (swapO l.1 l.2.length i) := by
  have hbd := rel_bd h hB hk hM h6
  have hwd := rel_wide h hB
  have hfit := hB.fit hk hM h6
  obtain ⟨R, P⟩ := l
  obtain ⟨ps, pv, f⟩ := s
  obtain ⟨hlen, hpv, hrow, hpos⟩ := h
  dsimp only at hlen hpv hrow hpos hbd hwd hf ⊢
  subst hpv
  have hple : P.length ≤ ps.length := by have := hB.ple; have := hB.len; dsimp only at *; omega
  obtain ⟨a1, a2, a3⟩ := lfind_some hf
  have hpR : P.length < R.length := by omega
  have hiR : i < R.length := by omega
  have hp : P.length < ps.length := by omega
  have hi : i < ps.length := by omega
  have hff : findHit ps k (ps.length - P.length) P.length = some i := by
    rw [← lfind_eq hrow k _ _ (by omega), ← hlen]; exact hf
  have hF := hfit i hff
  dsimp only at hF
  have etop : topOf k i (ps, P, f) = ps[i].2 := top_is (c := k) (k := 0) hp hi
  rw [etop] at hF
  have hT0 : (swapO R P.length i)[P.length]?.getD [] = R[i]?.getD [] := by
    rw [swapO_at hpR hiR]
    by_cases e : P.length = i
    · rw [if_pos e, e]
    · rw [if_neg e, if_pos rfl]
  rw [hT0]
  have hri := hrow i hi
  rw [List.getElem?_eq_getElem hi] at hri
  simp only [Option.getD_some] at hri
  have hL : ps[i].2[k]?.getD 0 ≠ 0 := fun e => a3 ((hri.zero k).2 e)
  obtain ⟨hT, hTp⟩ := ltop_prop hri hL
  have hsl : (swapT ps P.length i).length = ps.length := swapT_len _ _ _
  have hol : (swapO R P.length i).length = R.length := by unfold swapO; simp
  have hsat : ∀ t, (swapO R P.length i)[t]?.getD [] = if t = i then R[P.length]?.getD [] else if t = P.length then R[i]?.getD [] else R[t]?.getD [] := fun t => swapO_at hpR hiR t
  refine ⟨hpR, a1, hiR, ⟨ps[i].2, f, hT, fun t ht htp => ?_⟩, hTp, ?_, fun t ht => ?_, fun j => ?_, fun t j => ?_⟩
  · have htl : t < ps.length := by omega
    have htl2 : t < (swapT ps P.length i).length := by omega
    refine ⟨(swapT ps P.length i)[t].2, ?_, hF t htl2 htp⟩
    have e1 : (swapT ps P.length i)[t] = (swapT ps P.length i)[t]?.getD rowN := by rw [List.getElem?_eq_getElem htl2]; rfl
    rw [e1, hsat, swapT_at hp hi]
    by_cases e : t = i
    · rw [if_pos e, if_pos e]; exact hrow _ hp
    · rw [if_neg e, if_neg e, if_neg htp, if_neg htp]; exact hrow _ htl
  · rw [hT.len, ← hri.len]; exact hwd i hiR
  · rw [hsat]
    split
    · exact hwd _ hpR
    · split
      · exact hwd _ hiR
      · exact hwd _ (by omega)
  · have h1 := hT.bd j
    have h2 : (ps[i].2[j]?.getD 0).natAbs ≤ 12079595520 := by
      have := hB.mid_bd hk hM h6 i j
      dsimp only at this
      rw [ent_row hi] at this
      exact this
    exact Nat.le_trans h1 h2
  · rw [hsat]
    split
    · exact hbd _ _
    · split
      · exact hbd _ _
      · exact hbd _ _
/-- One row of an elimination: what the machine reckons is plain, and fits. -/
theorem StepF.row {m k p : Nat} {T : List Int} {L : List (List Int)} (h : StepF m k p T L) {t : Nat} (ht : t < L.length) (htp : t ≠ p) (h0 : (L[t]?.getD [])[k]?.getD 0 ≠ 0) {g : Nat} (hg : g = Nat.gcd (T[k]?.getD 0).natAbs ((L[t]?.getD [])[k]?.getD 0).natAbs) :
    (∀ j, j < m → IntKind.i64.wrap (IntKind.i64.wrap ((L[t]?.getD [])[j]?.getD 0 * (T[k]?.getD 0).tdiv g) - IntKind.i64.wrap (((L[t]?.getD [])[k]?.getD 0).tdiv g * T[j]?.getD 0)) = (L[t]?.getD [])[j]?.getD 0 * (T[k]?.getD 0).tdiv g - ((L[t]?.getD [])[k]?.getD 0).tdiv g * T[j]?.getD 0) ∧
    (∀ x ∈ comboL ((T[k]?.getD 0).tdiv g) (((L[t]?.getD [])[k]?.getD 0).tdiv g) (L[t]?.getD []) T, x.natAbs ≤ 9223372036854775807) ∧
    relim k T (L[t]?.getD []) = primL (comboL ((T[k]?.getD 0).tdiv g) (((L[t]?.getD [])[k]?.getD 0).tdiv g) (L[t]?.getD []) T) ∧ 1 ≤ g := by
  obtain ⟨Bt, f, hT, hrows⟩ := h.top
  obtain ⟨B, hR, hF⟩ := hrows t ht htp
  have hwl := h.wl t ht
  have hwt := h.wt
  generalize L[t]?.getD [] = R at *
  have hBl : B.length = m := by rw [← hR.len]; exact hwl
  have hg1 : 1 ≤ g := by
    rw [hg]; exact Nat.gcd_pos_of_pos_right _ (by omega)
  refine ⟨fun j hj => sub_wrap hT hR hF (by omega) hg h0, fun x hx => ?_, ?_, hg1⟩
  · obtain ⟨j, hj, rfl⟩ := List.getElem_of_mem hx
    have hjl : j < R.length := by unfold comboL at hj; rw [List.length_zipWith] at hj; omega
    have e1 : (comboL ((T[k]?.getD 0).tdiv g) ((R[k]?.getD 0).tdiv g) R T)[j] = (comboL ((T[k]?.getD 0).tdiv g) ((R[k]?.getD 0).tdiv g) R T)[j]?.getD 0 := by rw [List.getElem?_eq_getElem hj]; rfl
    rw [e1, comboL_at (by omega)]
    by_cases hjk : j = k
    · subst hjk
      obtain ⟨g', hg'0, hg', e2, e3⟩ := gcd_parts (T[j]?.getD 0) (R[j]?.getD 0) h0
      have e4 : (g : Int) = g' := by rw [hg', hg]
      rw [e4]
      have e5 : R[j]?.getD 0 * (T[j]?.getD 0).tdiv g' - (R[j]?.getD 0).tdiv g' * T[j]?.getD 0 = 0 := by
        generalize (T[j]?.getD 0).tdiv g' = a at *
        generalize (R[j]?.getD 0).tdiv g' = b at *
        rw [← e2, ← e3]
        have : b * g' * a = b * (a * g') := by rw [Int.mul_assoc, Int.mul_comm g' a]
        omega
      rw [e5]; decide
    · have := combo_fit hT hR hF (by omega) hjk g
      omega
  · unfold relim
    rw [if_neg h0, hg]
end Go.Proofs.Ytpnghgihepnepaa
