/- The kernel whole; flows. -/
import Derived.Test.YtpnghgihepnepaaDoorBe
namespace Go.Proofs.YtpnghgihepnepaaDoor
open Go.RowKit
set_option linter.unusedVariables false
open Bar
/-! ### The kernel whole -/
def npiv (c : Nat → Nat) (p j : Nat) : Bool := (List.range p).all (fun l => c l != j)
theorem npiv_iff {c : Nat → Nat} {p j : Nat} : npiv c p j = true ↔ ∀ l, l < p → c l ≠ j := by
  unfold npiv
  rw [List.all_eq_true]
  constructor
  · intro h l hl
    have := h l (by simpa using hl)
    simpa using this
  · intro h l hl
    have := h l (by simpa using hl)
    simpa using this
def npCols (c : Nat → Nat) (p m : Nat) : List Nat := (List.range m).filter (npiv c p)
theorem kerN_eq {M : List (List Int)} {m : Nat} {s : RSt} {os : List (List Int)} {c : Nat → Nat} (h : BInv M m m s os c) : ∀ C, C ≤ m →
    (kerN (s.1.map Prod.snd) m s.2.2 s.2.1 C).2 = (npCols c s.2.1.length C).map (fun col => solEnd (s.1.map Prod.snd) col m s.2.2 s.2.1)
  | 0, _ => by simp [kerN, npCols]
  | C + 1, hC => by
    have ih := kerN_eq h C (by omega)
    obtain ⟨h1, h2, h3, h4, h5⟩ := kerN_spec h C (by omega)
    generalize hX : kerN (s.1.map Prod.snd) m s.2.2 s.2.1 C = X at *
    obtain ⟨q, L⟩ := X
    dsimp only at *
    unfold kerN
    rw [hX]
    dsimp only
    unfold npCols
    rw [List.range_succ, List.filter_append]
    by_cases hh : q < s.2.1.length ∧ s.2.1[q]?.getD 0 = (C : Int)
    · rw [if_pos hh]
      dsimp only
      have hcq : c q = C := by have := h.piv q hh.1; omega
      have e : npiv c s.2.1.length C = false := by
        rw [Bool.eq_false_iff]
        intro e
        exact npiv_iff.1 e q hh.1 hcq
      rw [List.filter_cons, e]
      simp only [List.filter_nil, List.append_nil, Bool.false_eq_true, if_false]
      exact ih
    · rw [if_neg hh]
      dsimp only
      have e : npiv c s.2.1.length C = true := by
        rw [npiv_iff]
        intro l hl e
        by_cases h6 : q ≤ l
        · have h8 := h3 l h6 hl
          by_cases e2 : l = q
          · subst e2; exact hh ⟨hl, by have := h.piv l hl; omega⟩
          · have := h.asc q l (by omega) hl
            have := h3 q (Nat.le_refl _) (by omega)
            omega
        · have := h2 l (by omega); omega
      rw [List.filter_cons, e]
      simp only [List.filter_nil, if_true, List.map_append, List.map_cons, List.map_nil]
      rw [ih]; rfl
theorem ker_eq {M : List (List Int)} {m : Nat} {s : RSt} {os : List (List Int)} {c : Nat → Nat} (h : BInv M m m s os c) : kerOf s m = (npCols c s.2.1.length m).map (fun col => solEnd (s.1.map Prod.snd) col m s.2.2 s.2.1) := kerN_eq h m (Nat.le_refl _)
/-- The reduced rows annul the kernel. -/
theorem BInv.kills {M : List (List Int)} {m : Nat} {s : RSt} {os : List (List Int)} {c : Nat → Nat} (h : BInv M m m s os c) (hW : ∀ r ∈ M, r.length = m) {x : List Int} (hx : x.length = m) (hk : ∀ r ∈ M, dotL r x = 0) {l : Nat} (hl : l < s.2.1.length) :
    sumN m (fun j => X (ov os) c s.2.1.length l j * x[j]?.getD 0) = 0 := by
  have hQ : Lin (fun v : Bar.Vec => sumN m (fun j => v j * x[j]?.getD 0) = 0) := by
    refine ⟨sumN_zero (fun l _ => by simp), fun a b u v hu hv => ?_⟩
    have := sumN_lin a b (fun j => u j * x[j]?.getD 0) (fun j => v j * x[j]?.getD 0) m
    rw [hu, hv] at this
    rw [sumN_congr (g := fun j => a * (u j * x[j]?.getD 0) + b * (v j * x[j]?.getD 0)) (fun l _ => by grind), this]; omega
  refine h.xspan hl _ hQ (fun r hr => ?_)
  have h1 := hk r hr
  have h2 := dot_sum r x m (by rw [hW r hr]; exact Nat.le_refl _) (by omega)
  rw [List.take_of_length_le (by rw [hW r hr]; exact Nat.le_refl _), List.take_of_length_le (by omega), h1] at h2
  exact h2.symm
theorem ker_none {M : List (List Int)} {m : Nat} {s : RSt} {os : List (List Int)} {c : Nat → Nat} (h : BInv M m m s os c) (hW : ∀ r ∈ M, r.length = m) (h0 : kerOf s m = []) {x : List Int} (hx : x.length = m) (hk : ∀ r ∈ M, dotL r x = 0) : ∀ j, j < m → x[j]?.getD 0 = 0 := by
  intro j hj
  rw [ker_eq h, List.map_eq_nil_iff] at h0
  have hp : ∀ j, j < m → ∃ l, l < s.2.1.length ∧ c l = j := fun j hj => by
    by_cases e : npiv c s.2.1.length j = true
    · have : j ∈ npCols c s.2.1.length m := by unfold npCols; rw [List.mem_filter]; exact ⟨by simpa using hj, e⟩
      rw [h0] at this; cases this
    · rw [npiv_iff] at e
      exact Classical.byContradiction (fun h => e (fun l hl e => h ⟨l, hl, e⟩))
  obtain ⟨l, hl, rfl⟩ := hp j hj
  have h1 := h.kills hW hx hk hl
  rw [sumN_one hj (fun j' hj' hn => by
    obtain ⟨t, ht, rfl⟩ := hp j' hj'
    rw [h.diag l hl t ht, if_neg (fun e => hn (by rw [e]))]; simp), h.diag l hl l hl, if_pos rfl] at h1
  rcases Int.mul_eq_zero.1 h1 with h2 | h2
  · exact absurd h2 h.ne
  · exact h2
theorem sumN_two {f : Nat → Int} {p a b : Nat} (ha : a < p) (hb : b < p) (hab : a ≠ b) (h : ∀ l, l < p → l ≠ a → l ≠ b → f l = 0) : sumN p f = f a + f b := by
  induction p with
  | zero => omega
  | succ p ih =>
    show f p + sumN p f = _
    by_cases e1 : a = p
    · subst e1; rw [sumN_one (k := b) (by omega) (fun l hl hn => h l (by omega) (by omega) hn)]
    · by_cases e2 : b = p
      · subst e2; rw [sumN_one (k := a) (by omega) (fun l hl hn => h l (by omega) hn (by omega))]; omega
      · rw [ih (by omega) (by omega) (fun l hl => h l (by omega)), h p (by omega) (fun e => e1 e.symm) (fun e => e2 e.symm)]; omega
theorem ker_one {M : List (List Int)} {m : Nat} {s : RSt} {os : List (List Int)} {c : Nat → Nat} (h : BInv M m m s os c) (hW : ∀ r ∈ M, r.length = m) {v : List Int} (h0 : kerOf s m = [v]) :
    ∃ col, col < m ∧ 0 < v[col]?.getD 0 ∧ ∀ x : List Int, x.length = m → (∀ r ∈ M, dotL r x = 0) → ∀ j, j < m → x[j]?.getD 0 * v[col]?.getD 0 = x[col]?.getD 0 * v[j]?.getD 0 := by
  rw [ker_eq h] at h0
  obtain ⟨col, hcol⟩ : ∃ col, npCols c s.2.1.length m = [col] := by
    match hL : npCols c s.2.1.length m with
    | [] => rw [hL] at h0; simp at h0
    | [col] => exact ⟨col, rfl⟩
    | a :: b :: t => rw [hL] at h0; simp at h0
  rw [hcol] at h0
  have hv : solEnd (s.1.map Prod.snd) col m s.2.2 s.2.1 = v := by simpa using h0
  have hmem : col ∈ npCols c s.2.1.length m := by rw [hcol]; simp
  unfold npCols at hmem
  rw [List.mem_filter] at hmem
  have hcm : col < m := by simpa using hmem.1
  have hn := npiv_iff.1 hmem.2
  have hs := sol_any h hW hcm hn
  rw [hv] at hs
  refine ⟨col, hcm, hs.pos, fun x hx hk j hj => ?_⟩
  have hp : ∀ j, j < m → j ≠ col → ∃ l, l < s.2.1.length ∧ c l = j := fun j hj hne => by
    by_cases e : npiv c s.2.1.length j = true
    · have : j ∈ npCols c s.2.1.length m := by unfold npCols; rw [List.mem_filter]; exact ⟨by simpa using hj, e⟩
      rw [hcol] at this
      exact absurd (by simpa using this) hne
    · rw [npiv_iff] at e
      exact Classical.byContradiction (fun h => e (fun l hl e => h ⟨l, hl, e⟩))
  by_cases e : j = col
  · subst e; rw [Int.mul_comm]
  · obtain ⟨l, hl, rfl⟩ := hp j hj e
    have h1 := h.kills hW hx hk hl
    rw [sumN_two hj hcm e (fun j' hj' hn1 hn2 => by
      obtain ⟨t, ht, rfl⟩ := hp j' hj' hn2
      rw [h.diag l hl t ht, if_neg (fun e => hn1 (by rw [e]))]; simp), h.diag l hl l hl, if_pos rfl, ← h.low l hl col hcm] at h1
    have h2 := hs.onp l hl
    have h3 : s.2.2 * (x[c l]?.getD 0 * v[col]?.getD 0 - x[col]?.getD 0 * v[c l]?.getD 0) = 0 := by grind
    rcases Int.mul_eq_zero.1 h3 with h4 | h4
    · exact absurd h4 h.ne
    · omega
theorem ker_many {M : List (List Int)} {m : Nat} {s : RSt} {os : List (List Int)} {c : Nat → Nat} (h : BInv M m m s os c) (hW : ∀ r ∈ M, r.length = m) (h2 : 2 ≤ (kerOf s m).length) :
    ∃ v : List Int, v.length = m ∧ (∀ r ∈ M, dotL r v = 0) ∧ ∃ a b, a < m ∧ b < m ∧ v[a]?.getD 0 ≠ 0 ∧ v[b]?.getD 0 = 0 := by
  rw [ker_eq h, List.length_map] at h2
  have hnd : (npCols c s.2.1.length m).Nodup := List.Pairwise.filter _ List.nodup_range
  match hL : npCols c s.2.1.length m with
  | [] => rw [hL] at h2; simp at h2
  | [a] => rw [hL] at h2; simp at h2
  | a :: b :: t =>
    have ha : a ∈ npCols c s.2.1.length m := by rw [hL]; simp
    have hb : b ∈ npCols c s.2.1.length m := by rw [hL]; simp
    rw [hL] at hnd
    have hab : a ≠ b := by
      intro e
      rw [List.nodup_cons] at hnd
      exact hnd.1 (by rw [e]; simp)
    unfold npCols at ha hb
    rw [List.mem_filter] at ha hb
    have ham : a < m := by simpa using ha.1
    have hbm : b < m := by simpa using hb.1
    have hs := sol_any h hW ham (npiv_iff.1 ha.2)
    exact ⟨_, hs.len, hs.kills, a, b, ham, hbm, by have := hs.pos; omega, hs.off b (fun e => hab e.symm) (npiv_iff.1 hb.2)⟩
/-! ### Scaling -/
theorem gcdF_scale (k : Int) : ∀ (l : List Int) (g : Nat), gcdF (g * k.natAbs) (l.map (fun x => x * k)) = gcdF g l * k.natAbs
  | [], g => rfl
  | x :: l, g => by
    show gcdF (Nat.gcd (x * k).natAbs (g * k.natAbs)) (l.map (fun x => x * k)) = gcdF (Nat.gcd x.natAbs g) l * k.natAbs
    rw [Int.natAbs_mul, Nat.gcd_mul_right]
    exact gcdF_scale k l _
/-! ### Flows -/
def colI (C : List (List Int)) (j : Nat) : List Int := C.map (fun r => r[j]?.getD 0)
def Flow (C : List (List Int)) (r : Nat) (y : List Int) : Prop := y.length = C.length ∧ ∀ j, j < r → dotL y (colI C j) = 0
/-- A semiflow with just the support I, of which all others there are multiples. -/
structure FlowAt (C : List (List Int)) (r : Nat) (I : Nat → Bool) (y : List Int) : Prop where
  flow : Flow C r y
  on : ∀ i, i < C.length → I i = true → 0 < y[i]?.getD 0
  out : ∀ i, i < C.length → I i = false → y[i]?.getD 0 = 0
  prim : gcdF 0 y = 1
  only : ∀ x : List Int, Flow C r x → (∀ i, i < C.length → I i = false → x[i]?.getD 0 = 0) → ∀ a b, a < C.length → b < C.length → x[a]?.getD 0 * y[b]?.getD 0 = x[b]?.getD 0 * y[a]?.getD 0
theorem FlowAt.uniq {C : List (List Int)} {r : Nat} {I : Nat → Bool} {y y' : List Int} (h : FlowAt C r I y) (h' : FlowAt C r I y') : y = y' := by
  have hl := h.flow.1
  have hl' := h'.flow.1
  have key : ∀ b, b < C.length → I b = true → y[b]?.getD 0 = y'[b]?.getD 0 := by
    intro b hb hI
    have e : y'.map (fun x => x * y[b]?.getD 0) = y.map (fun x => x * y'[b]?.getD 0) := by
      apply List.ext_getElem (by rw [List.length_map, List.length_map]; omega)
      intro a h1 h2
      have ha : a < C.length := by rw [List.length_map] at h1; omega
      rw [List.getElem_map, List.getElem_map]
      have := h'.only y h.flow h.out a b ha hb
      rw [List.getElem?_eq_getElem (by omega), List.getElem?_eq_getElem (show a < y'.length by omega)] at this
      simp only [Option.getD_some] at this
      grind
    have e1 := gcdF_scale (y[b]?.getD 0) y' 0
    have e2 := gcdF_scale (y'[b]?.getD 0) y 0
    rw [Nat.zero_mul, h'.prim, Nat.one_mul] at e1
    rw [Nat.zero_mul, h.prim, Nat.one_mul] at e2
    rw [e, e2] at e1
    have := h.on b hb hI
    have := h'.on b hb hI
    omega
  apply List.ext_getElem (by omega)
  intro b h1 h2
  have hb : b < C.length := by omega
  have e : y[b]?.getD 0 = y'[b]?.getD 0 := by
    cases hI : I b with
    | true => exact key b hb hI
    | false => rw [h.out b hb hI, h'.out b hb hI]
  rw [List.getElem?_eq_getElem h1, List.getElem?_eq_getElem h2] at e
  exact e
end Go.Proofs.YtpnghgihepnepaaDoor
