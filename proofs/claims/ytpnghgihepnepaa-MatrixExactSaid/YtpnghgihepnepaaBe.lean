/- Ranks: of matrices with the same span, of transposed ones. -/
import Derived.Test.YtpnghgihepnepaaBd
namespace Go.Proofs.Ytpnghgihepnepaa
open Go.RowKit
set_option linter.unusedVariables false
open Bar
theorem sumN_swap (F : Nat → Nat → Int) (q : Nat) : ∀ p, sumN p (fun t => sumN q (fun l => F t l)) = sumN q (fun l => sumN p (fun t => F t l))
  | 0 => by
    show (0 : Int) = sumN q (fun _ => 0)
    exact (sumN_zero (fun _ _ => rfl)).symm
  | p + 1 => by
    show sumN q (fun l => F p l) + sumN p (fun t => sumN q (fun l => F t l)) = sumN q (fun l => F p l + sumN p (fun t => F t l))
    rw [sumN_swap F q p]
    have := sumN_lin 1 1 (fun l => F p l) (fun l => sumN p (fun t => F t l)) q
    rw [sumN_congr (f := fun l => F p l + sumN p (fun t => F t l)) (g := fun l => 1 * F p l + 1 * sumN p (fun t => F t l)) (fun l _ => by omega), this]; omega
theorem sumN_mul (k : Int) (f : Nat → Int) (p : Nat) : sumN p (fun l => k * f l) = k * sumN p f := by
  have := sumN_lin k 0 f (fun _ => 0) p
  rw [sumN_congr (g := fun l => k * f l + 0 * 0) (fun l _ => by omega), this]; omega
/-- More unknowns than equations. -/
theorem null_vec {p p' : Nat} (h : p < p') (a : Nat → Nat → Int) : ∃ y : Nat → Int, (∃ l, l < p' ∧ y l ≠ 0) ∧ ∀ t, t < p → sumN p' (fun l => a l t * y l) = 0 := by
  obtain ⟨M, hM⟩ : ∃ M : List (List Int), M = (List.range p).map (fun t => (List.range p').map (fun l => a l t)) := ⟨_, rfl⟩
  have hl : M.length = p := by rw [hM]; simp
  have hW : ∀ r ∈ M, r.length = p' := fun r hr => by
    rw [hM] at hr
    obtain ⟨t, -, rfl⟩ := List.mem_map.1 hr
    simp
  obtain ⟨qs, hqs⟩ : ∃ qs : List Row, qs = M.map (fun r => (rowN.1, r)) := ⟨_, rfl⟩
  have hq : qs.map Prod.snd = M := by
    rw [hqs, List.map_map]
    conv => rhs; rw [← List.map_id M]
    exact List.map_congr_left (fun x _ => rfl)
  obtain ⟨os, c, hB⟩ := BInv.all hq hW p' (Nat.le_refl _)
  have hcnt := ker_count hB
  have hple := hB.ple
  have hln := hB.ln
  cases hk : kerOf (redN (qs, [], 1) p') p' with
  | nil => rw [hk] at hcnt; simp at hcnt; omega
  | cons v vs =>
    have hv := ker_vec hB hW v (by rw [hk]; simp)
    refine ⟨fun l => v[l]?.getD 0, ?_, fun t ht => ?_⟩
    · obtain ⟨j, hj⟩ := hv.some
      refine ⟨j, ?_, hj⟩
      by_cases e : j < v.length
      · rw [hv.len] at e; exact e
      · rw [List.getElem?_eq_none (by omega)] at hj; simp at hj
    · have hr : (List.range p').map (fun l => a l t) ∈ M := by rw [hM]; exact List.mem_map.2 ⟨t, by simpa using ht, rfl⟩
      have h1 := hv.kills _ hr
      have h2 := dot_sum ((List.range p').map (fun l => a l t)) v p' (by simp) (by rw [hv.len]; omega)
      rw [List.take_of_length_le (by simp), List.take_of_length_le (by rw [hv.len]; omega), h1] at h2
      refine Eq.trans (sumN_congr (fun l hl => ?_)) h2.symm
      dsimp only
      congr 1
      rw [List.getElem?_map, List.getElem?_range hl]; rfl
theorem steinitz {p p' : Nat} {v : Nat → Bar.Vec} {c' : Nat → Nat} {d s : Int} (hd : d ≠ 0) (hs : s ≠ 0) (hv : ∀ l, l < p' → ∀ t, t < p' → v l (c' t) = if t = l then d else 0) (g : Nat → Bar.Vec) (a : Nat → Nat → Int)
    (h : ∀ l, l < p' → ∀ t, t < p' → s * v l (c' t) = sumN p (fun i => a l i * g i (c' t))) : p' ≤ p := by
  by_cases hlt : p < p'
  · exfalso
    obtain ⟨y, ⟨t, ht, hyt⟩, hy⟩ := null_vec hlt a
    have h1 : sumN p' (fun l => y l * (s * v l (c' t))) = 0 := by
      rw [sumN_congr (g := fun l => sumN p (fun i => g i (c' t) * (a l i * y l))) (fun l hl => by
        rw [h l hl t ht, ← sumN_mul]
        exact sumN_congr (fun i _ => by grind)), sumN_swap]
      refine sumN_zero (fun i hi => ?_)
      rw [sumN_mul, hy i hi]; simp
    rw [sumN_one ht (fun l hl hn => by rw [hv l hl t ht, if_neg (fun e => hn e.symm)]; simp), hv t ht t ht, if_pos rfl] at h1
    rcases Int.mul_eq_zero.1 h1 with h2 | h2
    · exact hyt h2
    · rcases Int.mul_eq_zero.1 h2 with h3 | h3
      · exact hs h3
      · exact hd h3
  · omega
/-- The least linear set of vectors. -/
def InSp (M : List (List Int)) (v : Bar.Vec) : Prop := ∀ Q : Bar.Vec → Prop, Lin Q → (∀ r ∈ M, Q (fun j => r[j]?.getD 0)) → Q v
theorem InSp.mem {M : List (List Int)} {r : List Int} (h : r ∈ M) : InSp M (fun j => r[j]?.getD 0) := fun _ _ hq => hq r h
theorem InSp.lin {M : List (List Int)} {u v : Bar.Vec} (a b : Int) (hu : InSp M u) (hv : InSp M v) : InSp M (fun j => a * u j + b * v j) := fun Q hQ hq => hQ.lin a b u v (hu Q hQ hq) (hv Q hQ hq)
theorem InSp.eq {M : List (List Int)} {u v : Bar.Vec} (hu : InSp M u) (e : ∀ j, v j = u j) : InSp M v := fun Q hQ hq => Lin.eq (hu Q hQ hq) e
theorem BInv.os_row {M : List (List Int)} {m k : Nat} {s : RSt} {os : List (List Int)} {c : Nat → Nat} (h : BInv M m k s os c) {t : Nat} (ht : t < os.length) : ∃ r ∈ M, ov os t = fun j => r[j]?.getD 0 :=
  ⟨os[t], (h.mem _).1 (List.getElem_mem ht), by unfold ov; funext j; rw [List.getElem?_eq_getElem ht]; rfl⟩
theorem BInv.row_os {M : List (List Int)} {m k : Nat} {s : RSt} {os : List (List Int)} {c : Nat → Nat} (h : BInv M m k s os c) {r : List Int} (hr : r ∈ M) : ∃ t, t < os.length ∧ ov os t = fun j => r[j]?.getD 0 := by
  obtain ⟨t, ht, e⟩ := List.getElem_of_mem ((h.mem r).2 hr)
  exact ⟨t, ht, by unfold ov; funext j; rw [List.getElem?_eq_getElem ht, ← e]; rfl⟩
/-- Every row is made of the reduced ones. -/
theorem BInv.made {M : List (List Int)} {m : Nat} {s : RSt} {os : List (List Int)} {c : Nat → Nat} (h : BInv M m m s os c) {r : List Int} (hr : r ∈ M) {j : Nat} (hj : j < m) :
    s.2.2 * r[j]?.getD 0 = sumN s.2.1.length (fun l => r[c l]?.getD 0 * X (ov os) c s.2.1.length l j) := by
  obtain ⟨t, ht, e⟩ := h.row_os hr
  have hy : Y (ov os) c s.2.1.length t j = 0 := by
    by_cases h1 : t < s.2.1.length
    · exact Y_in _ _ _ h1
    · rw [← h.high t (by omega) ht j hj]; exact h.zero t (by omega) ht j hj
  rw [Y_eq, e, ← h.fac] at hy
  rw [Int.mul_comm]
  have : ∀ x y : Int, x - y = 0 → x = y := fun x y h => by omega
  exact this _ _ hy
theorem BInv.diag {M : List (List Int)} {m k : Nat} {s : RSt} {os : List (List Int)} {c : Nat → Nat} (h : BInv M m k s os c) : ∀ l, l < s.2.1.length → ∀ t, t < s.2.1.length → X (ov os) c s.2.1.length l (c t) = if t = l then s.2.2 else 0 := by
  intro l hl t ht
  by_cases e : t = l
  · subst e; rw [if_pos rfl, X_self, h.fac]
  · rw [if_neg e, X_other _ _ hl ht e]
theorem BInv.xspan {M : List (List Int)} {m k : Nat} {s : RSt} {os : List (List Int)} {c : Nat → Nat} (h : BInv M m k s os c) {l : Nat} (hl : l < s.2.1.length) : InSp M (X (ov os) c s.2.1.length l) := fun Q hQ hq =>
  X_span _ _ hQ hl (fun t ht => by
    obtain ⟨r, hr, e⟩ := h.os_row (t := t) (by have := h.ple; omega)
    rw [e]; exact hq r hr)
/-- Rows within the span of others have no greater rank. -/
theorem rank_le {M M' : List (List Int)} {m : Nat} {s s' : RSt} {os os' : List (List Int)} {c c' : Nat → Nat} (h : BInv M m m s os c) (h' : BInv M' m m s' os' c') (hsub : ∀ r ∈ M', InSp M (fun j => r[j]?.getD 0)) : s'.2.1.length ≤ s.2.1.length := by
  have hQ : Lin (fun w : Bar.Vec => ∃ a : Nat → Int, ∀ j, j < m → s.2.2 * w j = sumN s.2.1.length (fun t => a t * X (ov os) c s.2.1.length t j)) := by
    refine ⟨⟨fun _ => 0, fun j _ => ?_⟩, ?_⟩
    · rw [Int.mul_zero]; exact (sumN_zero (fun _ _ => by simp)).symm
    · rintro a b u v ⟨x, hx⟩ ⟨y, hy⟩
      refine ⟨fun t => a * x t + b * y t, fun j hj => ?_⟩
      have l1 := sumN_lin a b (fun t => x t * X (ov os) c s.2.1.length t j) (fun t => y t * X (ov os) c s.2.1.length t j) s.2.1.length
      rw [← hx j hj, ← hy j hj] at l1
      rw [sumN_congr (g := fun t => a * (x t * X (ov os) c s.2.1.length t j) + b * (y t * X (ov os) c s.2.1.length t j)) (fun t _ => by grind), l1]
      grind
  have hrow : ∀ r ∈ M, ∃ a : Nat → Int, ∀ j, j < m → s.2.2 * r[j]?.getD 0 = sumN s.2.1.length (fun t => a t * X (ov os) c s.2.1.length t j) := fun r hr => ⟨fun t => r[c t]?.getD 0, fun j hj => h.made hr hj⟩
  have hx : ∀ l, l < s'.2.1.length → ∃ a : Nat → Int, ∀ j, j < m → s.2.2 * X (ov os') c' s'.2.1.length l j = sumN s.2.1.length (fun t => a t * X (ov os) c s.2.1.length t j) := fun l hl =>
    h'.xspan hl _ hQ (fun r hr => hsub r hr _ hQ (fun r' hr' => hrow r' hr'))
  obtain ⟨a, ha⟩ : ∃ a : Nat → Nat → Int, ∀ l, l < s'.2.1.length → ∀ j, j < m → s.2.2 * X (ov os') c' s'.2.1.length l j = sumN s.2.1.length (fun t => a l t * X (ov os) c s.2.1.length t j) := by
    refine ⟨fun l => if hl : l < s'.2.1.length then Classical.choose (hx l hl) else fun _ => 0, fun l hl j hj => ?_⟩
    dsimp only
    rw [dif_pos hl]
    exact Classical.choose_spec (hx l hl) j hj
  exact steinitz (v := fun l j => X (ov os') c' s'.2.1.length l j) (c' := c') h'.ne h.ne h'.diag (fun t => X (ov os) c s.2.1.length t) a (fun l hl t ht => ha l hl _ (h'.ck t ht))
/-- The transposed matrix. -/
def Turned (M M' : List (List Int)) (n m : Nat) : Prop := M.length = n ∧ M'.length = m ∧ ∀ i j, i < n → j < m → (M'[j]?.getD [])[i]?.getD 0 = (M[i]?.getD [])[j]?.getD 0
theorem Turned.symm {M M' : List (List Int)} {n m : Nat} (h : Turned M M' n m) : Turned M' M m n := ⟨h.2.1, h.1, fun i j hi hj => (h.2.2 j i hj hi).symm⟩
theorem rank_turned {M M' : List (List Int)} {n m : Nat} {s s' : RSt} {os os' : List (List Int)} {c c' : Nat → Nat} (h : BInv M m m s os c) (h' : BInv M' n n s' os' c') (ht : Turned M M' n m) : s'.2.1.length ≤ s.2.1.length := by
  obtain ⟨h1, h2, h3⟩ := ht
  have hQ : Lin (fun w : Bar.Vec => ∃ a : Nat → Int, ∀ i, i < n → s.2.2 * w i = sumN s.2.1.length (fun t => a t * (M[i]?.getD [])[c t]?.getD 0)) := by
    refine ⟨⟨fun _ => 0, fun j _ => ?_⟩, ?_⟩
    · rw [Int.mul_zero]; exact (sumN_zero (fun _ _ => by simp)).symm
    · rintro a b u v ⟨x, hx⟩ ⟨y, hy⟩
      refine ⟨fun t => a * x t + b * y t, fun i hi => ?_⟩
      have l1 := sumN_lin a b (fun t => x t * (M[i]?.getD [])[c t]?.getD 0) (fun t => y t * (M[i]?.getD [])[c t]?.getD 0) s.2.1.length
      rw [← hx i hi, ← hy i hi] at l1
      rw [sumN_congr (g := fun t => a * (x t * (M[i]?.getD [])[c t]?.getD 0) + b * (y t * (M[i]?.getD [])[c t]?.getD 0)) (fun t _ => by grind), l1]
      grind
  have hrow : ∀ r ∈ M', ∃ a : Nat → Int, ∀ i, i < n → s.2.2 * r[i]?.getD 0 = sumN s.2.1.length (fun t => a t * (M[i]?.getD [])[c t]?.getD 0) := fun r hr => by
    obtain ⟨j, hj, rfl⟩ := List.getElem_of_mem hr
    refine ⟨fun t => X (ov os) c s.2.1.length t j, fun i hi => ?_⟩
    have e1 := h3 i j hi (by omega)
    rw [List.getElem?_eq_getElem hj] at e1
    have e2 : (M'[j])[i]?.getD 0 = (M[i]?.getD [])[j]?.getD 0 := e1
    have hi' : i < M.length := by omega
    rw [e2, List.getElem?_eq_getElem hi']
    have := h.made (List.getElem_mem hi') (show j < m by omega)
    rw [show (some M[i]).getD [] = M[i] from rfl, this]
    exact sumN_congr (fun t _ => Int.mul_comm _ _)
  have hx : ∀ l, l < s'.2.1.length → ∃ a : Nat → Int, ∀ i, i < n → s.2.2 * X (ov os') c' s'.2.1.length l i = sumN s.2.1.length (fun t => a t * (M[i]?.getD [])[c t]?.getD 0) := fun l hl =>
    h'.xspan hl _ hQ hrow
  obtain ⟨a, ha⟩ : ∃ a : Nat → Nat → Int, ∀ l, l < s'.2.1.length → ∀ i, i < n → s.2.2 * X (ov os') c' s'.2.1.length l i = sumN s.2.1.length (fun t => a l t * (M[i]?.getD [])[c t]?.getD 0) := by
    refine ⟨fun l => if hl : l < s'.2.1.length then Classical.choose (hx l hl) else fun _ => 0, fun l hl j hj => ?_⟩
    dsimp only
    rw [dif_pos hl]
    exact Classical.choose_spec (hx l hl) j hj
  exact steinitz (v := fun l j => X (ov os') c' s'.2.1.length l j) (c' := c') h'.ne h.ne h'.diag (fun t i => (M[i]?.getD [])[c t]?.getD 0) a (fun l hl t ht => ha l hl _ (h'.ck t ht))
/-- The rank of a matrix, whatever its rows' places in memory. -/
def RankIs (M : List (List Int)) (m p : Nat) : Prop := ∃ s os c, BInv M m m s os c ∧ p = s.2.1.length
theorem RankIs.mk {M : List (List Int)} {m : Nat} {qs : List Row} (hq : qs.map Prod.snd = M) (hW : ∀ r ∈ M, r.length = m) : RankIs M m (redN (qs, [], 1) m).2.1.length := by
  obtain ⟨os, c, h⟩ := BInv.all hq hW m (Nat.le_refl _)
  exact ⟨_, os, c, h, rfl⟩
theorem RankIs.le {M M' : List (List Int)} {m p p' : Nat} (h : RankIs M m p) (h' : RankIs M' m p') (hsub : ∀ r ∈ M', InSp M (fun j => r[j]?.getD 0)) : p' ≤ p := by
  obtain ⟨s, os, c, h, rfl⟩ := h
  obtain ⟨s', os', c', h', rfl⟩ := h'
  exact rank_le h h' hsub
theorem RankIs.same {M : List (List Int)} {m p p' : Nat} (h : RankIs M m p) (h' : RankIs M m p') : p = p' := by
  have h1 := h.le h' (fun r hr => InSp.mem hr)
  have h2 := h'.le h (fun r hr => InSp.mem hr)
  omega
theorem RankIs.turned {M M' : List (List Int)} {n m p p' : Nat} (h : RankIs M m p) (h' : RankIs M' n p') (ht : Turned M M' n m) : p = p' := by
  obtain ⟨s, os, c, h, rfl⟩ := h
  obtain ⟨s', os', c', h', rfl⟩ := h'
  have h1 := rank_turned h h' ht
  have h2 := rank_turned h' h ht.symm
  omega
theorem RankIs.bd {M : List (List Int)} {m p : Nat} (h : RankIs M m p) : p ≤ m ∧ p ≤ M.length := by
  obtain ⟨s, os, c, h, rfl⟩ := h
  exact ⟨h.pk, by have := h.ple; have := h.ln; omega⟩
theorem gcdF_bd {B : Nat} : ∀ (l : List Int) (g : Nat), (∀ x ∈ l, x.natAbs ≤ B) → g ≤ B → gcdF g l ≤ B
  | [], g, _, h => h
  | x :: l, g, hl, h => by
    show gcdF (Nat.gcd x.natAbs g) l ≤ B
    refine gcdF_bd l _ (fun y hy => hl y (by simp [hy])) ?_
    by_cases e : x.natAbs = 0
    · rw [e, Nat.gcd_zero_left]; exact h
    · have := Nat.gcd_le_left g (show 0 < x.natAbs by omega)
      have := hl x (by simp)
      omega
theorem gcdF_snoc (l : List Int) {t : Nat} (ht : t < l.length) : gcdF 0 (l.take (t + 1)) = Nat.gcd (l[t]?.getD 0).natAbs (gcdF 0 (l.take t)) := by
  rw [List.take_add_one, List.getElem?_eq_getElem ht]
  unfold gcdF
  rw [List.foldl_append]; rfl
end Go.Proofs.Ytpnghgihepnepaa
