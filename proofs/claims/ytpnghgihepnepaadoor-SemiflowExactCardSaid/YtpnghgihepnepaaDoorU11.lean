/- Texts Be, Ca in one. -/
import Derived.Test.YtpnghgihepnepaaDoorU10
namespace Go.Proofs.YtpnghgihepnepaaDoor
open Go.RowKit
set_option linter.unusedVariables false
open Bar
theorem sumN_swap (F : Nat → Nat → Int) (q : Nat) : ∀ p, sumN p (fun t => sumN q (fun l => F t l)) = sumN q (fun l => sumN p (fun t => F t l))
  | 0 => by
    show (0 : Int) = sumN q (fun _ => 0)
    exact (sumN_zero (fun _ _ => rfl)).symm
  | p + 1 => by
    show sumN q (fun l => F p l) + sumN p (fun t => sumN q (fun l => F t l)) = sumN q (fun l => F p l + sumN p (fun t => F t l))
    rw [sumN_swap F q p]
    have := sumN_lin 1 1 (fun l => F p l) (fun l => sumN p (fun t => F t l)) q
    rw [sumN_congr (f := fun l => F p l + sumN p (fun t => F t l)) (g := fun l => 1 * F p l + 1 * sumN p (fun t => F t l)) (fun l _ => by omega), this]; omega
theorem sumN_mul (k : Int) (f : Nat → Int) (p : Nat) : sumN p (fun l => k * f l) = k * sumN p f := by
  have := sumN_lin k 0 f (fun _ => 0) p
  rw [sumN_congr (g := fun l => k * f l + 0 * 0) (fun l _ => by omega), this]; omega
/-- More unknowns than equations. -/
theorem null_vec {p p' : Nat} (h : p < p') (a : Nat → Nat → Int) : ∃ y : Nat → Int, (∃ l, l < p' ∧ y l ≠ 0) ∧ ∀ t, t < p → sumN p' (fun l => a l t * y l) = 0 := by
  obtain ⟨M, hM⟩ : ∃ M : List (List Int), M = (List.range p).map (fun t => (List.range p').map (fun l => a l t)) := ⟨_, rfl⟩
  have hl : M.length = p := by rw [hM]; simp
  have hW : ∀ r ∈ M, r.length = p' := fun r hr => by
    rw [hM] at hr
    obtain ⟨t, -, rfl⟩ := List.mem_map.1 hr
    simp
  obtain ⟨qs, hqs⟩ : ∃ qs : List Row, qs = M.map (fun r => (rowN.1, r)) := ⟨_, rfl⟩
  have hq : qs.map Prod.snd = M := by
    rw [hqs, List.map_map]
    conv => rhs; rw [← List.map_id M]
    exact List.map_congr_left (fun x _ => rfl)
  obtain ⟨os, c, hB⟩ := BInv.all hq hW p' (Nat.le_refl _)
  have hcnt := ker_count hB
  have hple := hB.ple
  have hln := hB.ln
  cases hk : kerOf (redN (qs, [], 1) p') p' with
  | nil => rw [hk] at hcnt; simp at hcnt; omega
  | cons v vs =>
    have hv := ker_vec hB hW v (by rw [hk]; simp)
    refine ⟨fun l => v[l]?.getD 0, ?_, fun t ht => ?_⟩
    · obtain ⟨j, hj⟩ := hv.some
      refine ⟨j, ?_, hj⟩
      by_cases e : j < v.length
      · rw [hv.len] at e; exact e
      · rw [List.getElem?_eq_none (by omega)] at hj; simp at hj
    · have hr : (List.range p').map (fun l => a l t) ∈ M := by rw [hM]; exact List.mem_map.2 ⟨t, by simpa using ht, rfl⟩
      have h1 := hv.kills _ hr
      have h2 := dot_sum ((List.range p').map (fun l => a l t)) v p' (by simp) (by rw [hv.len]; omega)
      rw [List.take_of_length_le (by simp), List.take_of_length_le (by rw [hv.len]; omega), h1] at h2
      refine Eq.trans (sumN_congr (fun l hl => ?_)) h2.symm
      dsimp only
      congr 1
      rw [List.getElem?_map, List.getElem?_range hl]; rfl
theorem steinitz {p p' : Nat} {v : Nat → Bar.Vec} {c' : Nat → Nat} {d s : Int} (hd : d ≠ 0) (hs : s ≠ 0) (hv : ∀ l, l < p' → ∀ t, t < p' → v l (c' t) = if t = l then d else 0) (g : Nat → Bar.Vec) (a : Nat → Nat → Int)
    (h : ∀ l, l < p' → ∀ t, t < p' → s * v l (c' t) = sumN p (fun i => a l i * g i (c' t))) : p' ≤ p := by
  by_cases hlt : p < p'
  · exfalso
    obtain ⟨y, ⟨t, ht, hyt⟩, hy⟩ := null_vec hlt a
    have h1 : sumN p' (fun l => y l * (s * v l (c' t))) = 0 := by
      rw [sumN_congr (g := fun l => sumN p (fun i => g i (c' t) * (a l i * y l))) (fun l hl => by
        rw [h l hl t ht, ← sumN_mul]
        exact sumN_congr (fun i _ => by grind)), sumN_swap]
      refine sumN_zero (fun i hi => ?_)
      rw [sumN_mul, hy i hi]; simp
    rw [sumN_one ht (fun l hl hn => by rw [hv l hl t ht, if_neg (fun e => hn e.symm)]; simp), hv t ht t ht, if_pos rfl] at h1
    rcases Int.mul_eq_zero.1 h1 with h2 | h2
    · exact hyt h2
    · rcases Int.mul_eq_zero.1 h2 with h3 | h3
      · exact hs h3
      · exact hd h3
  · omega
/-- The least linear set of vectors. -/
def InSp (M : List (List Int)) (v : Bar.Vec) : Prop := ∀ Q : Bar.Vec → Prop, Lin Q → (∀ r ∈ M, Q (fun j => r[j]?.getD 0)) → Q v
theorem InSp.mem {M : List (List Int)} {r : List Int} (h : r ∈ M) : InSp M (fun j => r[j]?.getD 0) := fun _ _ hq => hq r h
theorem InSp.lin {M : List (List Int)} {u v : Bar.Vec} (a b : Int) (hu : InSp M u) (hv : InSp M v) : InSp M (fun j => a * u j + b * v j) := fun Q hQ hq => hQ.lin a b u v (hu Q hQ hq) (hv Q hQ hq)
theorem InSp.eq {M : List (List Int)} {u v : Bar.Vec} (hu : InSp M u) (e : ∀ j, v j = u j) : InSp M v := fun Q hQ hq => Lin.eq (hu Q hQ hq) e
theorem BInv.os_row {M : List (List Int)} {m k : Nat} {s : RSt} {os : List (List Int)} {c : Nat → Nat} (h : BInv M m k s os c) {t : Nat} (ht : t < os.length) : ∃ r ∈ M, ov os t = fun j => r[j]?.getD 0 :=
  ⟨os[t], (h.mem _).1 (List.getElem_mem ht), by unfold ov; funext j; rw [List.getElem?_eq_getElem ht]; rfl⟩
theorem BInv.row_os {M : List (List Int)} {m k : Nat} {s : RSt} {os : List (List Int)} {c : Nat → Nat} (h : BInv M m k s os c) {r : List Int} (hr : r ∈ M) : ∃ t, t < os.length ∧ ov os t = fun j => r[j]?.getD 0 := by
  obtain ⟨t, ht, e⟩ := List.getElem_of_mem ((h.mem r).2 hr)
  exact ⟨t, ht, by unfold ov; funext j; rw [List.getElem?_eq_getElem ht, ← e]; rfl⟩
/-- Every row is made of the reduced ones. -/
theorem BInv.made {M : List (List Int)} {m : Nat} {s : RSt} {os : List (List Int)} {c : Nat → Nat} (h : BInv M m m s os c) {r : List Int} (hr : r ∈ M) {j : Nat} (hj : j < m) :
    s.2.2 * r[j]?.getD 0 = sumN s.2.1.length (fun l => r[c l]?.getD 0 * X (ov os) c s.2.1.length l j) := by
  obtain ⟨t, ht, e⟩ := h.row_os hr
  have hy : Y (ov os) c s.2.1.length t j = 0 := by
    by_cases h1 : t < s.2.1.length
    · exact Y_in _ _ _ h1
    · rw [← h.high t (by omega) ht j hj]; exact h.zero t (by omega) ht j hj
  rw [Y_eq, e, ← h.fac] at hy
  rw [Int.mul_comm]
  have : ∀ x y : Int, x - y = 0 → x = y := fun x y h => by omega
  exact this _ _ hy
theorem BInv.diag {M : List (List Int)} {m k : Nat} {s : RSt} {os : List (List Int)} {c : Nat → Nat} (h : BInv M m k s os c) : ∀ l, l < s.2.1.length → ∀ t, t < s.2.1.length → X (ov os) c s.2.1.length l (c t) = if t = l then s.2.2 else 0 := by
  intro l hl t ht
  by_cases e : t = l
  · subst e; rw [if_pos rfl, X_self, h.fac]
  · rw [if_neg e, X_other _ _ hl ht e]
theorem BInv.xspan {M : List (List Int)} {m k : Nat} {s : RSt} {os : List (List Int)} {c : Nat → Nat} (h : BInv M m k s os c) {l : Nat} (hl : l < s.2.1.length) : InSp M (X (ov os) c s.2.1.length l) := fun Q hQ hq =>
  X_span _ _ hQ hl (fun t ht => by
    obtain ⟨r, hr, e⟩ := h.os_row (t := t) (by have := h.ple; omega)
    rw [e]; exact hq r hr)
/-- Rows within the span of others have no greater rank. -/
theorem rank_le {M M' : List (List Int)} {m : Nat} {s s' : RSt} {os os' : List (List Int)} {c c' : Nat → Nat} (h : BInv M m m s os c) (h' : BInv M' m m s' os' c') (hsub : ∀ r ∈ M', InSp M (fun j => r[j]?.getD 0)) : s'.2.1.length ≤ s.2.1.length := by
  have hQ : Lin (fun w : Bar.Vec => ∃ a : Nat → Int, ∀ j, j < m → s.2.2 * w j = sumN s.2.1.length (fun t => a t * X (ov os) c s.2.1.length t j)) := by
    refine ⟨⟨fun _ => 0, fun j _ => ?_⟩, ?_⟩
    · rw [Int.mul_zero]; exact (sumN_zero (fun _ _ => by simp)).symm
    · rintro a b u v ⟨x, hx⟩ ⟨y, hy⟩
      refine ⟨fun t => a * x t + b * y t, fun j hj => ?_⟩
      have l1 := sumN_lin a b (fun t => x t * X (ov os) c s.2.1.length t j) (fun t => y t * X (ov os) c s.2.1.length t j) s.2.1.length
      rw [← hx j hj, ← hy j hj] at l1
      rw [sumN_congr (g := fun t => a * (x t * X (ov os) c s.2.1.length t j) + b * (y t * X (ov os) c s.2.1.length t j)) (fun t _ => by grind), l1]
      grind
  have hrow : ∀ r ∈ M, ∃ a : Nat → Int, ∀ j, j < m → s.2.2 * r[j]?.getD 0 = sumN s.2.1.length (fun t => a t * X (ov os) c s.2.1.length t j) := fun r hr => ⟨fun t => r[c t]?.getD 0, fun j hj => h.made hr hj⟩
  have hx : ∀ l, l < s'.2.1.length → ∃ a : Nat → Int, ∀ j, j < m → s.2.2 * X (ov os') c' s'.2.1.length l j = sumN s.2.1.length (fun t => a t * X (ov os) c s.2.1.length t j) := fun l hl =>
    h'.xspan hl _ hQ (fun r hr => hsub r hr _ hQ (fun r' hr' => hrow r' hr'))
  obtain ⟨a, ha⟩ : ∃ a : Nat → Nat → Int, ∀ l, l < s'.2.1.length → ∀ j, j < m → s.2.2 * X (ov os') c' s'.2.1.length l j = sumN s.2.1.length (fun t => a l t * X (ov os) c s.2.1.length t j) := by
    refine ⟨fun l => if hl : l < s'.2.1.length then Classical.choose (hx l hl) else fun _ => 0, fun l hl j hj => ?_⟩
    dsimp only
    rw [dif_pos hl]
    exact Classical.choose_spec (hx l hl) j hj
  exact steinitz (v := fun l j => X (ov os') c' s'.2.1.length l j) (c' := c') h'.ne h.ne h'.diag (fun t => X (ov os) c s.2.1.length t) a (fun l hl t ht => ha l hl _ (h'.ck t ht))
/-- The transposed matrix. -/
def Turned (M M' : List (List Int)) (n m : Nat) : Prop := M.length = n ∧ M'.length = m ∧ ∀ i j, i < n → j < m → (M'[j]?.getD [])[i]?.getD 0 = (M[i]?.getD [])[j]?.getD 0
theorem Turned.symm {M M' : List (List Int)} {n m : Nat} (h : Turned M M' n m) : Turned M' M m n := ⟨h.2.1, h.1, fun i j hi hj => (h.2.2 j i hj hi).symm⟩
theorem rank_turned {M M' : List (List Int)} {n m : Nat} {s s' : RSt} {os os' : List (List Int)} {c c' : Nat → Nat} (h : BInv M m m s os c) (h' : BInv M' n n s' os' c') (ht : Turned M M' n m) : s'.2.1.length ≤ s.2.1.length := by
  obtain ⟨h1, h2, h3⟩ := ht
  have hQ : Lin (fun w : Bar.Vec => ∃ a : Nat → Int, ∀ i, i < n → s.2.2 * w i = sumN s.2.1.length (fun t => a t * (M[i]?.getD [])[c t]?.getD 0)) := by
    refine ⟨⟨fun _ => 0, fun j _ => ?_⟩, ?_⟩
    · rw [Int.mul_zero]; exact (sumN_zero (fun _ _ => by simp)).symm
    · rintro a b u v ⟨x, hx⟩ ⟨y, hy⟩
      refine ⟨fun t => a * x t + b * y t, fun i hi => ?_⟩
      have l1 := sumN_lin a b (fun t => x t * (M[i]?.getD [])[c t]?.getD 0) (fun t => y t * (M[i]?.getD [])[c t]?.getD 0) s.2.1.length
      rw [← hx i hi, ← hy i hi] at l1
      rw [sumN_congr (g := fun t => a * (x t * (M[i]?.getD [])[c t]?.getD 0) + b * (y t * (M[i]?.getD [])[c t]?.getD 0)) (fun t _ => by grind), l1]
      grind
  have hrow : ∀ r ∈ M', ∃ a : Nat → Int, ∀ i, i < n → s.2.2 * r[i]?.getD 0 = sumN s.2.1.length (fun t => a t * (M[i]?.getD [])[c t]?.getD 0) := fun r hr => by
    obtain ⟨j, hj, rfl⟩ := List.getElem_of_mem hr
    refine ⟨fun t => X (ov os) c s.2.1.length t j, fun i hi => ?_⟩
    have e1 := h3 i j hi (by omega)
    rw [List.getElem?_eq_getElem hj] at e1
    have e2 : (M'[j])[i]?.getD 0 = (M[i]?.getD [])[j]?.getD 0 := e1
    have hi' : i < M.length := by omega
    rw [e2, List.getElem?_eq_getElem hi']
    have := h.made (List.getElem_mem hi') (show j < m by omega)
    rw [show (some M[i]).getD [] = M[i] from rfl, this]
    exact sumN_congr (fun t _ => Int.mul_comm _ _)
  have hx : ∀ l, l < s'.2.1.length → ∃ a : Nat → Int, ∀ i, i < n → s.2.2 * X (ov os') c' s'.2.1.length l i = sumN s.2.1.length (fun t => a t * (M[i]?.getD [])[c t]?.getD 0) := fun l hl =>
    h'.xspan hl _ hQ hrow
  obtain ⟨a, ha⟩ : ∃ a : Nat → Nat → Int, ∀ l, l < s'.2.1.length → ∀ i, i < n → s.2.2 * X (ov os') c' s'.2.1.length l i = sumN s.2.1.length (fun t => a l t * (M[i]?.getD [])[c t]?.getD 0) := by
    refine ⟨fun l => if hl : l < s'.2.1.length then Classical.choose (hx l hl) else fun _ => 0, fun l hl j hj => ?_⟩
    dsimp only
    rw [dif_pos hl]
    exact Classical.choose_spec (hx l hl) j hj
  exact steinitz (v := fun l j => X (ov os') c' s'.2.1.length l j) (c' := c') h'.ne h.ne h'.diag (fun t i => (M[i]?.getD [])[c t]?.getD 0) a (fun l hl t ht => ha l hl _ (h'.ck t ht))
/-- The rank of a matrix, whatever its rows' places in memory. -/
def RankIs (M : List (List Int)) (m p : Nat) : Prop := ∃ s os c, BInv M m m s os c ∧ p = s.2.1.length
theorem RankIs.mk {M : List (List Int)} {m : Nat} {qs : List Row} (hq : qs.map Prod.snd = M) (hW : ∀ r ∈ M, r.length = m) : RankIs M m (redN (qs, [], 1) m).2.1.length := by
  obtain ⟨os, c, h⟩ := BInv.all hq hW m (Nat.le_refl _)
  exact ⟨_, os, c, h, rfl⟩
theorem RankIs.le {M M' : List (List Int)} {m p p' : Nat} (h : RankIs M m p) (h' : RankIs M' m p') (hsub : ∀ r ∈ M', InSp M (fun j => r[j]?.getD 0)) : p' ≤ p := by
  obtain ⟨s, os, c, h, rfl⟩ := h
  obtain ⟨s', os', c', h', rfl⟩ := h'
  exact rank_le h h' hsub
theorem RankIs.same {M : List (List Int)} {m p p' : Nat} (h : RankIs M m p) (h' : RankIs M m p') : p = p' := by
  have h1 := h.le h' (fun r hr => InSp.mem hr)
  have h2 := h'.le h (fun r hr => InSp.mem hr)
  omega
theorem RankIs.turned {M M' : List (List Int)} {n m p p' : Nat} (h : RankIs M m p) (h' : RankIs M' n p') (ht : Turned M M' n m) : p = p' := by
  obtain ⟨s, os, c, h, rfl⟩ := h
  obtain ⟨s', os', c', h', rfl⟩ := h'
  have h1 := rank_turned h h' ht
  have h2 := rank_turned h' h ht.symm
  omega
theorem RankIs.bd {M : List (List Int)} {m p : Nat} (h : RankIs M m p) : p ≤ m ∧ p ≤ M.length := by
  obtain ⟨s, os, c, h, rfl⟩ := h
  exact ⟨h.pk, by have := h.ple; have := h.ln; omega⟩
theorem gcdF_bd {B : Nat} : ∀ (l : List Int) (g : Nat), (∀ x ∈ l, x.natAbs ≤ B) → g ≤ B → gcdF g l ≤ B
  | [], g, _, h => h
  | x :: l, g, hl, h => by
    show gcdF (Nat.gcd x.natAbs g) l ≤ B
    refine gcdF_bd l _ (fun y hy => hl y (by simp [hy])) ?_
    by_cases e : x.natAbs = 0
    · rw [e, Nat.gcd_zero_left]; exact h
    · have := Nat.gcd_le_left g (show 0 < x.natAbs by omega)
      have := hl x (by simp)
      omega
theorem gcdF_snoc (l : List Int) {t : Nat} (ht : t < l.length) : gcdF 0 (l.take (t + 1)) = Nat.gcd (l[t]?.getD 0).natAbs (gcdF 0 (l.take t)) := by
  rw [List.take_add_one, List.getElem?_eq_getElem ht]
  unfold gcdF
  rw [List.foldl_append]; rfl
end Go.Proofs.YtpnghgihepnepaaDoor

namespace Go.Proofs.YtpnghgihepnepaaDoor
open Go.RowKit
set_option linter.unusedVariables false
open Bar
/-! ### The kernel whole -/
def npiv (c : Nat → Nat) (p j : Nat) : Bool := (List.range p).all (fun l => c l != j)
theorem npiv_iff {c : Nat → Nat} {p j : Nat} : npiv c p j = true ↔ ∀ l, l < p → c l ≠ j := by
  unfold npiv
  rw [List.all_eq_true]
  constructor
  · intro h l hl
    have := h l (by simpa using hl)
    simpa using this
  · intro h l hl
    have := h l (by simpa using hl)
    simpa using this
def npCols (c : Nat → Nat) (p m : Nat) : List Nat := (List.range m).filter (npiv c p)
theorem kerN_eq {M : List (List Int)} {m : Nat} {s : RSt} {os : List (List Int)} {c : Nat → Nat} (h : BInv M m m s os c) : ∀ C, C ≤ m →
    (kerN (s.1.map Prod.snd) m s.2.2 s.2.1 C).2 = (npCols c s.2.1.length C).map (fun col => solEnd (s.1.map Prod.snd) col m s.2.2 s.2.1)
  | 0, _ => by simp [kerN, npCols]
  | C + 1, hC => by
    have ih := kerN_eq h C (by omega)
    obtain ⟨h1, h2, h3, h4, h5⟩ := kerN_spec h C (by omega)
    generalize hX : kerN (s.1.map Prod.snd) m s.2.2 s.2.1 C = X at *
    obtain ⟨q, L⟩ := X
    dsimp only at *
    unfold kerN
    rw [hX]
    dsimp only
    unfold npCols
    rw [List.range_succ, List.filter_append]
    by_cases hh : q < s.2.1.length ∧ s.2.1[q]?.getD 0 = (C : Int)
    · rw [if_pos hh]
      dsimp only
      have hcq : c q = C := by have := h.piv q hh.1; omega
      have e : npiv c s.2.1.length C = false := by
        rw [Bool.eq_false_iff]
        intro e
        exact npiv_iff.1 e q hh.1 hcq
      rw [List.filter_cons, e]
      simp only [List.filter_nil, List.append_nil, Bool.false_eq_true, if_false]
      exact ih
    · rw [if_neg hh]
      dsimp only
      have e : npiv c s.2.1.length C = true := by
        rw [npiv_iff]
        intro l hl e
        by_cases h6 : q ≤ l
        · have h8 := h3 l h6 hl
          by_cases e2 : l = q
          · subst e2; exact hh ⟨hl, by have := h.piv l hl; omega⟩
          · have := h.asc q l (by omega) hl
            have := h3 q (Nat.le_refl _) (by omega)
            omega
        · have := h2 l (by omega); omega
      rw [List.filter_cons, e]
      simp only [List.filter_nil, if_true, List.map_append, List.map_cons, List.map_nil]
      rw [ih]; rfl
theorem ker_eq {M : List (List Int)} {m : Nat} {s : RSt} {os : List (List Int)} {c : Nat → Nat} (h : BInv M m m s os c) : kerOf s m = (npCols c s.2.1.length m).map (fun col => solEnd (s.1.map Prod.snd) col m s.2.2 s.2.1) := kerN_eq h m (Nat.le_refl _)
/-- The reduced rows annul the kernel. -/
theorem BInv.kills {M : List (List Int)} {m : Nat} {s : RSt} {os : List (List Int)} {c : Nat → Nat} (h : BInv M m m s os c) (hW : ∀ r ∈ M, r.length = m) {x : List Int} (hx : x.length = m) (hk : ∀ r ∈ M, dotL r x = 0) {l : Nat} (hl : l < s.2.1.length) :
    sumN m (fun j => X (ov os) c s.2.1.length l j * x[j]?.getD 0) = 0 := by
  have hQ : Lin (fun v : Bar.Vec => sumN m (fun j => v j * x[j]?.getD 0) = 0) := by
    refine ⟨sumN_zero (fun l _ => by simp), fun a b u v hu hv => ?_⟩
    have := sumN_lin a b (fun j => u j * x[j]?.getD 0) (fun j => v j * x[j]?.getD 0) m
    rw [hu, hv] at this
    rw [sumN_congr (g := fun j => a * (u j * x[j]?.getD 0) + b * (v j * x[j]?.getD 0)) (fun l _ => by grind), this]; omega
  refine h.xspan hl _ hQ (fun r hr => ?_)
  have h1 := hk r hr
  have h2 := dot_sum r x m (by rw [hW r hr]; exact Nat.le_refl _) (by omega)
  rw [List.take_of_length_le (by rw [hW r hr]; exact Nat.le_refl _), List.take_of_length_le (by omega), h1] at h2
  exact h2.symm
theorem ker_none {M : List (List Int)} {m : Nat} {s : RSt} {os : List (List Int)} {c : Nat → Nat} (h : BInv M m m s os c) (hW : ∀ r ∈ M, r.length = m) (h0 : kerOf s m = []) {x : List Int} (hx : x.length = m) (hk : ∀ r ∈ M, dotL r x = 0) : ∀ j, j < m → x[j]?.getD 0 = 0 := by
  intro j hj
  rw [ker_eq h, List.map_eq_nil_iff] at h0
  have hp : ∀ j, j < m → ∃ l, l < s.2.1.length ∧ c l = j := fun j hj => by
    by_cases e : npiv c s.2.1.length j = true
    · have : j ∈ npCols c s.2.1.length m := by unfold npCols; rw [List.mem_filter]; exact ⟨by simpa using hj, e⟩
      rw [h0] at this; cases this
    · rw [npiv_iff] at e
      exact Classical.byContradiction (fun h => e (fun l hl e => h ⟨l, hl, e⟩))
  obtain ⟨l, hl, rfl⟩ := hp j hj
  have h1 := h.kills hW hx hk hl
  rw [sumN_one hj (fun j' hj' hn => by
    obtain ⟨t, ht, rfl⟩ := hp j' hj'
    rw [h.diag l hl t ht, if_neg (fun e => hn (by rw [e]))]; simp), h.diag l hl l hl, if_pos rfl] at h1
  rcases Int.mul_eq_zero.1 h1 with h2 | h2
  · exact absurd h2 h.ne
  · exact h2
theorem sumN_two {f : Nat → Int} {p a b : Nat} (ha : a < p) (hb : b < p) (hab : a ≠ b) (h : ∀ l, l < p → l ≠ a → l ≠ b → f l = 0) : sumN p f = f a + f b := by
  induction p with
  | zero => omega
  | succ p ih =>
    show f p + sumN p f = _
    by_cases e1 : a = p
    · subst e1; rw [sumN_one (k := b) (by omega) (fun l hl hn => h l (by omega) (by omega) hn)]
    · by_cases e2 : b = p
      · subst e2; rw [sumN_one (k := a) (by omega) (fun l hl hn => h l (by omega) hn (by omega))]; omega
      · rw [ih (by omega) (by omega) (fun l hl => h l (by omega)), h p (by omega) (fun e => e1 e.symm) (fun e => e2 e.symm)]; omega
theorem ker_one {M : List (List Int)} {m : Nat} {s : RSt} {os : List (List Int)} {c : Nat → Nat} (h : BInv M m m s os c) (hW : ∀ r ∈ M, r.length = m) {v : List Int} (h0 : kerOf s m = [v]) :
    ∃ col, col < m ∧ 0 < v[col]?.getD 0 ∧ ∀ x : List Int, x.length = m → (∀ r ∈ M, dotL r x = 0) → ∀ j, j < m → x[j]?.getD 0 * v[col]?.getD 0 = x[col]?.getD 0 * v[j]?.getD 0 := by
  rw [ker_eq h] at h0
  obtain ⟨col, hcol⟩ : ∃ col, npCols c s.2.1.length m = [col] := by
    match hL : npCols c s.2.1.length m with
    | [] => rw [hL] at h0; simp at h0
    | [col] => exact ⟨col, rfl⟩
    | a :: b :: t => rw [hL] at h0; simp at h0
  rw [hcol] at h0
  have hv : solEnd (s.1.map Prod.snd) col m s.2.2 s.2.1 = v := by simpa using h0
  have hmem : col ∈ npCols c s.2.1.length m := by rw [hcol]; simp
  unfold npCols at hmem
  rw [List.mem_filter] at hmem
  have hcm : col < m := by simpa using hmem.1
  have hn := npiv_iff.1 hmem.2
  have hs := sol_any h hW hcm hn
  rw [hv] at hs
  refine ⟨col, hcm, hs.pos, fun x hx hk j hj => ?_⟩
  have hp : ∀ j, j < m → j ≠ col → ∃ l, l < s.2.1.length ∧ c l = j := fun j hj hne => by
    by_cases e : npiv c s.2.1.length j = true
    · have : j ∈ npCols c s.2.1.length m := by unfold npCols; rw [List.mem_filter]; exact ⟨by simpa using hj, e⟩
      rw [hcol] at this
      exact absurd (by simpa using this) hne
    · rw [npiv_iff] at e
      exact Classical.byContradiction (fun h => e (fun l hl e => h ⟨l, hl, e⟩))
  by_cases e : j = col
  · subst e; rw [Int.mul_comm]
  · obtain ⟨l, hl, rfl⟩ := hp j hj e
    have h1 := h.kills hW hx hk hl
    rw [sumN_two hj hcm e (fun j' hj' hn1 hn2 => by
      obtain ⟨t, ht, rfl⟩ := hp j' hj' hn2
      rw [h.diag l hl t ht, if_neg (fun e => hn1 (by rw [e]))]; simp), h.diag l hl l hl, if_pos rfl, ← h.low l hl col hcm] at h1
    have h2 := hs.onp l hl
    have h3 : s.2.2 * (x[c l]?.getD 0 * v[col]?.getD 0 - x[col]?.getD 0 * v[c l]?.getD 0) = 0 := by grind
    rcases Int.mul_eq_zero.1 h3 with h4 | h4
    · exact absurd h4 h.ne
    · omega
theorem ker_many {M : List (List Int)} {m : Nat} {s : RSt} {os : List (List Int)} {c : Nat → Nat} (h : BInv M m m s os c) (hW : ∀ r ∈ M, r.length = m) (h2 : 2 ≤ (kerOf s m).length) :
    ∃ v : List Int, v.length = m ∧ (∀ r ∈ M, dotL r v = 0) ∧ ∃ a b, a < m ∧ b < m ∧ v[a]?.getD 0 ≠ 0 ∧ v[b]?.getD 0 = 0 := by
  rw [ker_eq h, List.length_map] at h2
  have hnd : (npCols c s.2.1.length m).Nodup := List.Pairwise.filter _ List.nodup_range
  match hL : npCols c s.2.1.length m with
  | [] => rw [hL] at h2; simp at h2
  | [a] => rw [hL] at h2; simp at h2
  | a :: b :: t =>
    have ha : a ∈ npCols c s.2.1.length m := by rw [hL]; simp
    have hb : b ∈ npCols c s.2.1.length m := by rw [hL]; simp
    rw [hL] at hnd
    have hab : a ≠ b := by
      intro e
      rw [List.nodup_cons] at hnd
      exact hnd.1 (by rw [e]; simp)
    unfold npCols at ha hb
    rw [List.mem_filter] at ha hb
    have ham : a < m := by simpa using ha.1
    have hbm : b < m := by simpa using hb.1
    have hs := sol_any h hW ham (npiv_iff.1 ha.2)
    exact ⟨_, hs.len, hs.kills, a, b, ham, hbm, by have := hs.pos; omega, hs.off b (fun e => hab e.symm) (npiv_iff.1 hb.2)⟩
/-! ### Scaling -/
theorem gcdF_scale (k : Int) : ∀ (l : List Int) (g : Nat), gcdF (g * k.natAbs) (l.map (fun x => x * k)) = gcdF g l * k.natAbs
  | [], g => rfl
  | x :: l, g => by
    show gcdF (Nat.gcd (x * k).natAbs (g * k.natAbs)) (l.map (fun x => x * k)) = gcdF (Nat.gcd x.natAbs g) l * k.natAbs
    rw [Int.natAbs_mul, Nat.gcd_mul_right]
    exact gcdF_scale k l _
/-! ### Flows -/
def colI (C : List (List Int)) (j : Nat) : List Int := C.map (fun r => r[j]?.getD 0)
def Flow (C : List (List Int)) (r : Nat) (y : List Int) : Prop := y.length = C.length ∧ ∀ j, j < r → dotL y (colI C j) = 0
/-- A semiflow with just the support I, of which all others there are multiples. -/
structure FlowAt (C : List (List Int)) (r : Nat) (I : Nat → Bool) (y : List Int) : Prop where
  flow : Flow C r y
  on : ∀ i, i < C.length → I i = true → 0 < y[i]?.getD 0
  out : ∀ i, i < C.length → I i = false → y[i]?.getD 0 = 0
  prim : gcdF 0 y = 1
  only : ∀ x : List Int, Flow C r x → (∀ i, i < C.length → I i = false → x[i]?.getD 0 = 0) → ∀ a b, a < C.length → b < C.length → x[a]?.getD 0 * y[b]?.getD 0 = x[b]?.getD 0 * y[a]?.getD 0
theorem FlowAt.uniq {C : List (List Int)} {r : Nat} {I : Nat → Bool} {y y' : List Int} (h : FlowAt C r I y) (h' : FlowAt C r I y') : y = y' := by
  have hl := h.flow.1
  have hl' := h'.flow.1
  have key : ∀ b, b < C.length → I b = true → y[b]?.getD 0 = y'[b]?.getD 0 := by
    intro b hb hI
    have e : y'.map (fun x => x * y[b]?.getD 0) = y.map (fun x => x * y'[b]?.getD 0) := by
      apply List.ext_getElem (by rw [List.length_map, List.length_map]; omega)
      intro a h1 h2
      have ha : a < C.length := by rw [List.length_map] at h1; omega
      rw [List.getElem_map, List.getElem_map]
      have := h'.only y h.flow h.out a b ha hb
      rw [List.getElem?_eq_getElem (by omega), List.getElem?_eq_getElem (show a < y'.length by omega)] at this
      simp only [Option.getD_some] at this
      grind
    have e1 := gcdF_scale (y[b]?.getD 0) y' 0
    have e2 := gcdF_scale (y'[b]?.getD 0) y 0
    rw [Nat.zero_mul, h'.prim, Nat.one_mul] at e1
    rw [Nat.zero_mul, h.prim, Nat.one_mul] at e2
    rw [e, e2] at e1
    have := h.on b hb hI
    have := h'.on b hb hI
    omega
  apply List.ext_getElem (by omega)
  intro b h1 h2
  have hb : b < C.length := by omega
  have e : y[b]?.getD 0 = y'[b]?.getD 0 := by
    cases hI : I b with
    | true => exact key b hb hI
    | false => rw [h.out b hb hI, h'.out b hb hI]
  rw [List.getElem?_eq_getElem h1, List.getElem?_eq_getElem h2] at e
  exact e
end Go.Proofs.YtpnghgihepnepaaDoor
