/- The reference's kernel vectors are the program's. -/
import Derived.Test.YtpnghgihepnepaaBo
namespace Go.Proofs.Ytpnghgihepnepaa
open Go.RowKit
set_option linter.unusedVariables false

def needN (p x : Int) : Nat := p.natAbs / Nat.gcd p.natAbs x.natAbs
def scaleN (pl xl : Nat → Int) : Nat → Nat
  | 0 => 1
  | i + 1 => Nat.lcm (scaleN pl xl i) (needN (pl i) (xl i))
def entV (s : Nat) (p x : Int) : Int := -(x.tdiv (Nat.gcd p.natAbs x.natAbs : Nat)) * ((s : Int).tdiv (p.tdiv (Nat.gcd p.natAbs x.natAbs : Nat)))
def vecV (m col : Nat) (c : Nat → Nat) (s : Nat) (pl xl : Nat → Int) : Nat → List Int
  | 0 => (List.replicate m 0).set col (s : Int)
  | i + 1 => (vecV m col c s pl xl i).set (c i) (entV s (pl i) (xl i))
theorem need_pos {p : Int} (x : Int) (hp : 0 < p) : 0 < needN p x := by
  unfold needN
  have h1 : 0 < Nat.gcd p.natAbs x.natAbs := Nat.gcd_pos_of_pos_left _ (by omega)
  exact Nat.div_pos (Nat.le_of_dvd (by omega) (Nat.gcd_dvd_left _ _)) h1
theorem need_int {p : Int} (x : Int) (hp : 0 < p) : p.tdiv (Nat.gcd p.natAbs x.natAbs : Nat) = (needN p x : Int) := by
  unfold needN
  rw [Int.tdiv_eq_ediv_of_nonneg (by omega)]
  have e : p = ((p.natAbs : Nat) : Int) := by omega
  conv => lhs; lhs; rw [e]
  rfl
theorem need_dvd (p x : Int) : needN p x ∣ p.natAbs := by
  unfold needN
  exact Nat.div_dvd_of_dvd (Nat.gcd_dvd_left _ _)
theorem scale_pos {pl xl : Nat → Int} : ∀ i, (∀ l, l < i → 0 < pl l) → 0 < scaleN pl xl i
  | 0, _ => Nat.one_pos
  | i + 1, h => Nat.lcm_pos (scale_pos i (fun l hl => h l (by omega))) (need_pos _ (h i (by omega)))
theorem scale_dvd {pl xl : Nat → Int} {F : Nat} : ∀ i, (∀ l, l < i → needN (pl l) (xl l) ∣ F) → scaleN pl xl i ∣ F
  | 0, _ => Nat.one_dvd _
  | i + 1, h => Nat.lcm_dvd (scale_dvd i (fun l hl => h l (by omega))) (h i (by omega))
theorem scale_has {pl xl : Nat → Int} : ∀ i l, l < i → needN (pl l) (xl l) ∣ scaleN pl xl i
  | i + 1, l, h => by
    by_cases e : l = i
    · subst e; exact Nat.dvd_lcm_right _ _
    · exact Nat.dvd_trans (scale_has i l (by omega)) (Nat.dvd_lcm_left _ _)
theorem ent_mul {s : Nat} {p : Int} (x : Int) (hp : 0 < p) (hs : needN p x ∣ s) : entV s p x * p = -(x * s) := by
  have hg : ((Nat.gcd p.natAbs x.natAbs : Nat) : Int) ∣ x := by rw [← Int.natAbs_dvd_natAbs, Int.natAbs_natCast]; exact Nat.gcd_dvd_right _ _
  have hg2 : ((Nat.gcd p.natAbs x.natAbs : Nat) : Int) ∣ p := by rw [← Int.natAbs_dvd_natAbs, Int.natAbs_natCast]; exact Nat.gcd_dvd_left _ _
  have h1 := Int.tdiv_mul_cancel hg
  have h2 := Int.tdiv_mul_cancel hg2
  have hn := need_int x hp
  have hn0 := need_pos x hp
  unfold entV
  rw [hn] at h2 ⊢
  obtain ⟨t, rfl⟩ := hs
  have h3 : ((needN p x * t : Nat) : Int).tdiv (needN p x : Int) = (t : Int) := by
    rw [Int.natCast_mul, Int.mul_tdiv_cancel_left _ (by omega)]
  rw [h3]
  generalize x.tdiv ((Nat.gcd p.natAbs x.natAbs : Nat) : Int) = y at *
  generalize ((Nat.gcd p.natAbs x.natAbs : Nat) : Int) = g at *
  generalize needN p x = n at *
  rw [Int.natCast_mul]
  subst h1
  rw [← h2]
  grind
theorem vec_len (m col : Nat) (c : Nat → Nat) (s : Nat) (pl xl : Nat → Int) : ∀ i, (vecV m col c s pl xl i).length = m
  | 0 => by unfold vecV; simp
  | i + 1 => by unfold vecV; rw [List.length_set]; exact vec_len m col c s pl xl i
theorem vec_at {m col : Nat} {c : Nat → Nat} {s : Nat} {pl xl : Nat → Int} (hc : col < m) : ∀ i, (∀ l, l < i → c l < m) → (∀ l, l < i → c l ≠ col) → (∀ a b, a < i → b < i → c a = c b → a = b) →
    (vecV m col c s pl xl i)[col]?.getD 0 = (s : Int) ∧ (∀ l, l < i → (vecV m col c s pl xl i)[c l]?.getD 0 = entV s (pl l) (xl l)) ∧ ∀ j, j ≠ col → (∀ l, l < i → c l ≠ j) → (vecV m col c s pl xl i)[j]?.getD 0 = 0
  | 0, _, _, _ => by
    refine ⟨?_, fun l h => by omega, fun j hj _ => ?_⟩
    · unfold vecV
      rw [List.getElem?_set, if_pos rfl, if_pos (by simpa using hc)]; rfl
    · unfold vecV
      rw [List.getElem?_set, if_neg (fun e => hj e.symm), List.getElem?_replicate]
      split <;> rfl
  | i + 1, h1, h2, h3 => by
    obtain ⟨a1, a2, a3⟩ := vec_at (s := s) (pl := pl) (xl := xl) hc i (fun l hl => h1 l (by omega)) (fun l hl => h2 l (by omega)) (fun a b ha hb => h3 a b (by omega) (by omega))
    unfold vecV
    refine ⟨?_, fun l hl => ?_, fun j hj hjl => ?_⟩
    · rw [List.getElem?_set, if_neg (h2 i (by omega))]; exact a1
    · rw [List.getElem?_set]
      by_cases e : l = i
      · subst e; rw [if_pos rfl, if_pos (by rw [vec_len]; exact h1 l (by omega))]; rfl
      · rw [if_neg (fun e2 => e (h3 l i (by omega) (by omega) e2.symm))]
        exact a2 l (by omega)
    · rw [List.getElem?_set, if_neg (hjl i (by omega))]
      exact a3 j hj (fun l hl => hjl l (by omega))
/-- Two primitive vectors of one line that point the same way. -/
theorem prim_uniq {u v : List Int} {col : Nat} (hl : u.length = v.length) (hu : gcdF 0 u ≤ 1) (hv : gcdF 0 v ≤ 1) (pu : 0 < u[col]?.getD 0) (pv : 0 < v[col]?.getD 0) (h : ∀ j : Nat, u[j]?.getD 0 * v[col]?.getD 0 = v[j]?.getD 0 * u[col]?.getD 0) : u = v := by
  have n0 : ∀ w : List Int, gcdF 0 w ≤ 1 → 0 < w[col]?.getD 0 → gcdF 0 w = 1 := fun w h1 h2 => by
    by_cases e : gcdF 0 w = 0
    · have := gcdF_none e col; omega
    · omega
  have nu := n0 u hu pu
  have nv := n0 v hv pv
  obtain ⟨a, ha⟩ : ∃ a, u[col]?.getD 0 = a := ⟨_, rfl⟩
  obtain ⟨b, hb⟩ : ∃ b, v[col]?.getD 0 = b := ⟨_, rfl⟩
  rw [ha] at pu
  rw [hb] at pv
  have h' : ∀ j : Nat, u[j]?.getD 0 * b = v[j]?.getD 0 * a := fun j => by rw [← ha, ← hb]; exact h j
  have hj : ∀ j (h1 : j < u.length) (h2 : j < v.length), u[j] * b = v[j] * a := fun j h1 h2 => by
    have h3 : u[j]?.getD 0 = u[j] := by rw [List.getElem?_eq_getElem h1]; rfl
    have h4 : v[j]?.getD 0 = v[j] := by rw [List.getElem?_eq_getElem h2]; rfl
    rw [← h3, ← h4]; exact h' j
  have e1 : u.map (fun y => y * b) = v.map (fun y => y * a) := by
    apply List.ext_getElem (by simpa using hl)
    intro j h1 h2
    rw [List.getElem_map, List.getElem_map]
    exact hj j (by simpa using h1) (by simpa using h2)
  have e2 := congrArg (gcdF 0) e1
  rw [gcdF_mul0, gcdF_mul0, nu, nv] at e2
  have e3 : a = b := by omega
  apply List.ext_getElem hl
  intro j h1 h2
  have := hj j h1 h2
  rw [e3] at this
  exact Int.eq_of_mul_eq_mul_right (by omega) this
theorem vec_sol {M : List (List Int)} {m col p : Nat} {f : Int} {c : Nat → Nat} {E : Nat → Nat → Int} {v : List Int} {pl xl : Nat → Int} (hs : SolOk M m col f p c E v) (hf : f ≠ 0) (hc : col < m) (h1 : ∀ l, l < p → c l < m) (h2 : ∀ l, l < p → c l ≠ col)
    (h3 : ∀ a b, a < p → b < p → c a = c b → a = b) (hp : ∀ l, l < p → 0 < pl l) (hE : ∀ l, l < p → E l col * pl l = f * xl l) : primL (vecV m col c (scaleN pl xl p) pl xl p) = v := by
  obtain ⟨a1, a2, a3⟩ := vec_at (s := scaleN pl xl p) (pl := pl) (xl := xl) hc p h1 h2 h3
  have hs0 := scale_pos (xl := xl) p hp
  obtain ⟨g, g1, gat, gp⟩ := prim_fac (vecV m col c (scaleN pl xl p) pl xl p)
  have hl := primL_len (vecV m col c (scaleN pl xl p) pl xl p)
  rw [vec_len] at hl
  generalize hV : vecV m col c (scaleN pl xl p) pl xl p = V at *
  generalize primL V = U at *
  have hUc : 0 < U[col]?.getD 0 := by
    have := gat col
    rw [a1] at this
    by_cases e : 0 < U[col]?.getD 0
    · exact e
    · have := Int.mul_nonpos_of_nonpos_of_nonneg (show U[col]?.getD 0 ≤ 0 by omega) (show 0 ≤ (g : Int) by omega)
      omega
  refine prim_uniq (col := col) (by rw [hl, hs.len]) gp (by rw [hs.prim]; exact Nat.le_refl _) hUc hs.pos (fun j => ?_)
  have key : V[j]?.getD 0 * v[col]?.getD 0 = v[j]?.getD 0 * V[col]?.getD 0 := by
    by_cases hj : j = col
    · subst hj; rw [Int.mul_comm]
    · by_cases hjl : ∃ l, l < p ∧ c l = j
      · obtain ⟨l, hlp, rfl⟩ := hjl
        rw [a1, a2 l hlp]
        have b1 := ent_mul (s := scaleN pl xl p) (xl l) (hp l hlp) (scale_has p l hlp)
        have b2 := hs.onp l hlp
        have b3 := hE l hlp
        have hq := hp l hlp
        have b4 : (pl l * f) * (entV (scaleN pl xl p) (pl l) (xl l) * v[col]?.getD 0) = (pl l * f) * (v[c l]?.getD 0 * (scaleN pl xl p : Int)) := by
          generalize entV (scaleN pl xl p) (pl l) (xl l) = ee at *
          generalize v[c l]?.getD 0 = vl at *
          generalize v[col]?.getD 0 = vc at *
          generalize (scaleN pl xl p : Int) = ss at *
          generalize pl l = pp at *
          generalize xl l = xx at *
          generalize E l col = el at *
          have c1 : (pp * f) * (ee * vc) = (ee * pp) * (f * vc) := by grind
          have c2 : (pp * f) * (vl * ss) = (vl * f) * (pp * ss) := by grind
          rw [c1, c2, b1, b2]
          have c3 : -(xx * ss) * (f * vc) = -((f * xx) * (ss * vc)) := by grind
          have c4 : -(el * vc) * (pp * ss) = -((el * pp) * (ss * vc)) := by grind
          rw [c3, c4, b3]
        exact Int.eq_of_mul_eq_mul_left (Int.mul_ne_zero (by omega) hf) b4
      · rw [a3 j hj (fun l hlp e => hjl ⟨l, hlp, e⟩), hs.off j hj (fun l hlp e => hjl ⟨l, hlp, e⟩), Int.zero_mul, Int.zero_mul]
  rw [gat j, gat col] at key
  have k2 : (g : Int) * (U[j]?.getD 0 * v[col]?.getD 0) = (g : Int) * (v[j]?.getD 0 * U[col]?.getD 0) := by
    generalize U[j]?.getD 0 = uj at *
    generalize U[col]?.getD 0 = uc at *
    generalize v[j]?.getD 0 = vj at *
    generalize v[col]?.getD 0 = vc at *
    grind
  exact Int.eq_of_mul_eq_mul_left (by omega) k2
end Go.Proofs.Ytpnghgihepnepaa
