/- Texts Bp, Bt, Bu, Bw in one. -/
import Derived.Test.YtpnghgihepnepaaDoorU24
import Derived.BigRegion
namespace Go.Proofs.YtpnghgihepnepaaDoor
open Go.RowKit
set_option linter.unusedVariables false

def needN (p x : Int) : Nat := p.natAbs / Nat.gcd p.natAbs x.natAbs
def scaleN (pl xl : Nat → Int) : Nat → Nat
  | 0 => 1
  | i + 1 => Nat.lcm (scaleN pl xl i) (needN (pl i) (xl i))
def entV (s : Nat) (p x : Int) : Int := -(x.tdiv (Nat.gcd p.natAbs x.natAbs : Nat)) * ((s : Int).tdiv (p.tdiv (Nat.gcd p.natAbs x.natAbs : Nat)))
def vecV (m col : Nat) (c : Nat → Nat) (s : Nat) (pl xl : Nat → Int) : Nat → List Int
  | 0 => (List.replicate m 0).set col (s : Int)
  | i + 1 => (vecV m col c s pl xl i).set (c i) (entV s (pl i) (xl i))
theorem need_pos {p : Int} (x : Int) (hp : 0 < p) : 0 < needN p x := by
  unfold needN
  have h1 : 0 < Nat.gcd p.natAbs x.natAbs := Nat.gcd_pos_of_pos_left _ (by omega)
  exact Nat.div_pos (Nat.le_of_dvd (by omega) (Nat.gcd_dvd_left _ _)) h1
theorem need_int {p : Int} (x : Int) (hp : 0 < p) : p.tdiv (Nat.gcd p.natAbs x.natAbs : Nat) = (needN p x : Int) := by
  unfold needN
  rw [Int.tdiv_eq_ediv_of_nonneg (by omega)]
  have e : p = ((p.natAbs : Nat) : Int) := by omega
  conv => lhs; lhs; rw [e]
  rfl
theorem need_dvd (p x : Int) : needN p x ∣ p.natAbs := by
  unfold needN
  exact Nat.div_dvd_of_dvd (Nat.gcd_dvd_left _ _)
theorem scale_pos {pl xl : Nat → Int} : ∀ i, (∀ l, l < i → 0 < pl l) → 0 < scaleN pl xl i
  | 0, _ => Nat.one_pos
  | i + 1, h => Nat.lcm_pos (scale_pos i (fun l hl => h l (by omega))) (need_pos _ (h i (by omega)))
theorem scale_dvd {pl xl : Nat → Int} {F : Nat} : ∀ i, (∀ l, l < i → needN (pl l) (xl l) ∣ F) → scaleN pl xl i ∣ F
  | 0, _ => Nat.one_dvd _
  | i + 1, h => Nat.lcm_dvd (scale_dvd i (fun l hl => h l (by omega))) (h i (by omega))
theorem scale_has {pl xl : Nat → Int} : ∀ i l, l < i → needN (pl l) (xl l) ∣ scaleN pl xl i
  | i + 1, l, h => by
    by_cases e : l = i
    · subst e; exact Nat.dvd_lcm_right _ _
    · exact Nat.dvd_trans (scale_has i l (by omega)) (Nat.dvd_lcm_left _ _)
theorem ent_mul {s : Nat} {p : Int} (x : Int) (hp : 0 < p) (hs : needN p x ∣ s) : entV s p x * p = -(x * s) := by
  have hg : ((Nat.gcd p.natAbs x.natAbs : Nat) : Int) ∣ x := by rw [← Int.natAbs_dvd_natAbs, Int.natAbs_natCast]; exact Nat.gcd_dvd_right _ _
  have hg2 : ((Nat.gcd p.natAbs x.natAbs : Nat) : Int) ∣ p := by rw [← Int.natAbs_dvd_natAbs, Int.natAbs_natCast]; exact Nat.gcd_dvd_left _ _
  have h1 := Int.tdiv_mul_cancel hg
  have h2 := Int.tdiv_mul_cancel hg2
  have hn := need_int x hp
  have hn0 := need_pos x hp
  unfold entV
  rw [hn] at h2 ⊢
  obtain ⟨t, rfl⟩ := hs
  have h3 : ((needN p x * t : Nat) : Int).tdiv (needN p x : Int) = (t : Int) := by
    rw [Int.natCast_mul, Int.mul_tdiv_cancel_left _ (by omega)]
  rw [h3]
  generalize x.tdiv ((Nat.gcd p.natAbs x.natAbs : Nat) : Int) = y at *
  generalize ((Nat.gcd p.natAbs x.natAbs : Nat) : Int) = g at *
  generalize needN p x = n at *
  rw [Int.natCast_mul]
  subst h1
  rw [← h2]
  grind
theorem vec_len (m col : Nat) (c : Nat → Nat) (s : Nat) (pl xl : Nat → Int) : ∀ i, (vecV m col c s pl xl i).length = m
  | 0 => by unfold vecV; simp
  | i + 1 => by unfold vecV; rw [List.length_set]; exact vec_len m col c s pl xl i
theorem vec_at {m col : Nat} {c : Nat → Nat} {s : Nat} {pl xl : Nat → Int} (hc : col < m) : ∀ i, (∀ l, l < i → c l < m) → (∀ l, l < i → c l ≠ col) → (∀ a b, a < i → b < i → c a = c b → a = b) →
    (vecV m col c s pl xl i)[col]?.getD 0 = (s : Int) ∧ (∀ l, l < i → (vecV m col c s pl xl i)[c l]?.getD 0 = entV s (pl l) (xl l)) ∧ ∀ j, j ≠ col → (∀ l, l < i → c l ≠ j) → (vecV m col c s pl xl i)[j]?.getD 0 = 0
  | 0, _, _, _ => by
    refine ⟨?_, fun l h => by omega, fun j hj _ => ?_⟩
    · unfold vecV
      rw [List.getElem?_set, if_pos rfl, if_pos (by simpa using hc)]; rfl
    · unfold vecV
      rw [List.getElem?_set, if_neg (fun e => hj e.symm), List.getElem?_replicate]
      split <;> rfl
  | i + 1, h1, h2, h3 => by
    obtain ⟨a1, a2, a3⟩ := vec_at (s := s) (pl := pl) (xl := xl) hc i (fun l hl => h1 l (by omega)) (fun l hl => h2 l (by omega)) (fun a b ha hb => h3 a b (by omega) (by omega))
    unfold vecV
    refine ⟨?_, fun l hl => ?_, fun j hj hjl => ?_⟩
    · rw [List.getElem?_set, if_neg (h2 i (by omega))]; exact a1
    · rw [List.getElem?_set]
      by_cases e : l = i
      · subst e; rw [if_pos rfl, if_pos (by rw [vec_len]; exact h1 l (by omega))]; rfl
      · rw [if_neg (fun e2 => e (h3 l i (by omega) (by omega) e2.symm))]
        exact a2 l (by omega)
    · rw [List.getElem?_set, if_neg (hjl i (by omega))]
      exact a3 j hj (fun l hl => hjl l (by omega))
/-- Two primitive vectors of one line that point the same way. -/
theorem prim_uniq {u v : List Int} {col : Nat} (hl : u.length = v.length) (hu : gcdF 0 u ≤ 1) (hv : gcdF 0 v ≤ 1) (pu : 0 < u[col]?.getD 0) (pv : 0 < v[col]?.getD 0) (h : ∀ j : Nat, u[j]?.getD 0 * v[col]?.getD 0 = v[j]?.getD 0 * u[col]?.getD 0) : u = v := by
  have n0 : ∀ w : List Int, gcdF 0 w ≤ 1 → 0 < w[col]?.getD 0 → gcdF 0 w = 1 := fun w h1 h2 => by
    by_cases e : gcdF 0 w = 0
    · have := gcdF_none e col; omega
    · omega
  have nu := n0 u hu pu
  have nv := n0 v hv pv
  obtain ⟨a, ha⟩ : ∃ a, u[col]?.getD 0 = a := ⟨_, rfl⟩
  obtain ⟨b, hb⟩ : ∃ b, v[col]?.getD 0 = b := ⟨_, rfl⟩
  rw [ha] at pu
  rw [hb] at pv
  have h' : ∀ j : Nat, u[j]?.getD 0 * b = v[j]?.getD 0 * a := fun j => by rw [← ha, ← hb]; exact h j
  have hj : ∀ j (h1 : j < u.length) (h2 : j < v.length), u[j] * b = v[j] * a := fun j h1 h2 => by
    have h3 : u[j]?.getD 0 = u[j] := by rw [List.getElem?_eq_getElem h1]; rfl
    have h4 : v[j]?.getD 0 = v[j] := by rw [List.getElem?_eq_getElem h2]; rfl
    rw [← h3, ← h4]; exact h' j
  have e1 : u.map (fun y => y * b) = v.map (fun y => y * a) := by
    apply List.ext_getElem (by simpa using hl)
    intro j h1 h2
    rw [List.getElem_map, List.getElem_map]
    exact hj j (by simpa using h1) (by simpa using h2)
  have e2 := congrArg (gcdF 0) e1
  rw [gcdF_mul0, gcdF_mul0, nu, nv] at e2
  have e3 : a = b := by omega
  apply List.ext_getElem hl
  intro j h1 h2
  have := hj j h1 h2
  rw [e3] at this
  exact Int.eq_of_mul_eq_mul_right (by omega) this
theorem vec_sol {M : List (List Int)} {m col p : Nat} {f : Int} {c : Nat → Nat} {E : Nat → Nat → Int} {v : List Int} {pl xl : Nat → Int} (hs : SolOk M m col f p c E v) (hf : f ≠ 0) (hc : col < m) (h1 : ∀ l, l < p → c l < m) (h2 : ∀ l, l < p → c l ≠ col)
    (h3 : ∀ a b, a < p → b < p → c a = c b → a = b) (hp : ∀ l, l < p → 0 < pl l) (hE : ∀ l, l < p → E l col * pl l = f * xl l) : primL (vecV m col c (scaleN pl xl p) pl xl p) = v := by
  obtain ⟨a1, a2, a3⟩ := vec_at (s := scaleN pl xl p) (pl := pl) (xl := xl) hc p h1 h2 h3
  have hs0 := scale_pos (xl := xl) p hp
  obtain ⟨g, g1, gat, gp⟩ := prim_fac (vecV m col c (scaleN pl xl p) pl xl p)
  have hl := primL_len (vecV m col c (scaleN pl xl p) pl xl p)
  rw [vec_len] at hl
  generalize hV : vecV m col c (scaleN pl xl p) pl xl p = V at *
  generalize primL V = U at *
  have hUc : 0 < U[col]?.getD 0 := by
    have := gat col
    rw [a1] at this
    by_cases e : 0 < U[col]?.getD 0
    · exact e
    · have := Int.mul_nonpos_of_nonpos_of_nonneg (show U[col]?.getD 0 ≤ 0 by omega) (show 0 ≤ (g : Int) by omega)
      omega
  refine prim_uniq (col := col) (by rw [hl, hs.len]) gp (by rw [hs.prim]; exact Nat.le_refl _) hUc hs.pos (fun j => ?_)
  have key : V[j]?.getD 0 * v[col]?.getD 0 = v[j]?.getD 0 * V[col]?.getD 0 := by
    by_cases hj : j = col
    · subst hj; rw [Int.mul_comm]
    · by_cases hjl : ∃ l, l < p ∧ c l = j
      · obtain ⟨l, hlp, rfl⟩ := hjl
        rw [a1, a2 l hlp]
        have b1 := ent_mul (s := scaleN pl xl p) (xl l) (hp l hlp) (scale_has p l hlp)
        have b2 := hs.onp l hlp
        have b3 := hE l hlp
        have hq := hp l hlp
        have b4 : (pl l * f) * (entV (scaleN pl xl p) (pl l) (xl l) * v[col]?.getD 0) = (pl l * f) * (v[c l]?.getD 0 * (scaleN pl xl p : Int)) := by
          generalize entV (scaleN pl xl p) (pl l) (xl l) = ee at *
          generalize v[c l]?.getD 0 = vl at *
          generalize v[col]?.getD 0 = vc at *
          generalize (scaleN pl xl p : Int) = ss at *
          generalize pl l = pp at *
          generalize xl l = xx at *
          generalize E l col = el at *
          have c1 : (pp * f) * (ee * vc) = (ee * pp) * (f * vc) := by grind
          have c2 : (pp * f) * (vl * ss) = (vl * f) * (pp * ss) := by grind
          rw [c1, c2, b1, b2]
          have c3 : -(xx * ss) * (f * vc) = -((f * xx) * (ss * vc)) := by grind
          have c4 : -(el * vc) * (pp * ss) = -((el * pp) * (ss * vc)) := by grind
          rw [c3, c4, b3]
        exact Int.eq_of_mul_eq_mul_left (Int.mul_ne_zero (by omega) hf) b4
      · rw [a3 j hj (fun l hlp e => hjl ⟨l, hlp, e⟩), hs.off j hj (fun l hlp e => hjl ⟨l, hlp, e⟩), Int.zero_mul, Int.zero_mul]
  rw [gat j, gat col] at key
  have k2 : (g : Int) * (U[j]?.getD 0 * v[col]?.getD 0) = (g : Int) * (v[j]?.getD 0 * U[col]?.getD 0) := by
    generalize U[j]?.getD 0 = uj at *
    generalize U[col]?.getD 0 = uc at *
    generalize v[j]?.getD 0 = vj at *
    generalize v[col]?.getD 0 = vc at *
    grind
  exact Int.eq_of_mul_eq_mul_left (by omega) k2
end Go.Proofs.YtpnghgihepnepaaDoor

namespace Go.Proofs.YtpnghgihepnepaaDoor
open Go.RowKit
set_option linter.unusedVariables false

def plL (R : List (List Int)) (P : List Int) (l : Nat) : Int := (R[l]?.getD [])[(P[l]?.getD 0).toNat]?.getD 0
def xlL (R : List (List Int)) (col l : Nat) : Int := (R[l]?.getD [])[col]?.getD 0
def posL (P : List Int) (l : Nat) : Nat := (P[l]?.getD 0).toNat
def rvecL (R : List (List Int)) (P : List Int) (m col : Nat) : List Int := primL (vecV m col (posL P) (scaleN (plL R P) (xlL R col) P.length) (plL R P) (xlL R col) P.length)
def kerL (R : List (List Int)) (P : List Int) (m : Nat) : Nat → List (List Int)
  | 0 => []
  | c + 1 => if (c : Int) ∈ P then kerL R P m c else kerL R P m c ++ [rvecL R P m c]
theorem vecV_congr {m col : Nat} {c c' : Nat → Nat} (s : Nat) (pl xl : Nat → Int) : ∀ i, (∀ l, l < i → c l = c' l) → vecV m col c s pl xl i = vecV m col c' s pl xl i
  | 0, _ => rfl
  | i + 1, h => by
    unfold vecV
    rw [vecV_congr s pl xl i (fun l hl => h l (by omega)), h i (by omega)]
theorem BInv.own {M : List (List Int)} {m k : Nat} {s : RSt} {os : List (List Int)} {c : Nat → Nat} (h : BInv M m k s os c) (hk : k ≤ m) {l : Nat} (hl : l < s.2.1.length) : ent s.1 l (c l) = s.2.2 := by
  rw [h.low l hl (c l) (by have := h.ck l hl; omega), h.fac]
  unfold Bar.X Bar.D
  have e : Bar.upd c l (c l) = c := by
    funext t
    unfold Bar.upd
    split
    · rename_i e; rw [e]
    · rfl
  rw [e]
theorem rvec_eq {M : List (List Int)} {m col : Nat} {l : LSt} {s : RSt} {os : List (List Int)} {c : Nat → Nat} (hR : RelR m l s) (hB : BInv M m m s os c) (hW : ∀ r ∈ M, r.length = m) (hc : col < m) (hn : ∀ t, t < s.2.1.length → c t ≠ col) :
    rvecL l.1 l.2 m col = solEnd (s.1.map Prod.snd) col m s.2.2 s.2.1 := by
  have hs := sol_any hB hW hc hn
  have hp : ∀ t, t < s.2.1.length → posL l.2 t = c t := fun t ht => by
    unfold posL
    rw [hR.piv, hB.piv t ht]; simp
  have hple : s.2.1.length ≤ s.1.length := by have := hB.ple; have := hB.len; omega
  unfold rvecL
  rw [hR.piv] at hp ⊢
  rw [vecV_congr (c' := c) _ _ _ _ hp]
  refine vec_sol hs hB.ne hc (fun t ht => hB.ck t ht) hn (fun a b ha hb e => ?_) (fun t ht => ?_) (fun t ht => ?_)
  · rcases Nat.lt_trichotomy a b with h | h | h
    · have := hB.asc a b h hb; omega
    · exact h
    · have := hB.asc b a h ha; omega
  · have := hR.pos t ht
    unfold plL
    exact this
  · have hr := hR.row t (by omega)
    obtain ⟨μ, -, hμ⟩ := hr.mul
    have h1 := hB.own (Nat.le_refl _) ht
    have h2 : ent s.1 t col = (l.1[t]?.getD [])[col]?.getD 0 * μ := hμ col
    have h3 : ent s.1 t (c t) = (l.1[t]?.getD [])[c t]?.getD 0 * μ := hμ (c t)
    unfold plL xlL
    rw [hB.piv t ht, Int.toNat_natCast, h2, ← h1, h3]
    grind
theorem kerL_eq {M : List (List Int)} {m : Nat} {l : LSt} {s : RSt} {os : List (List Int)} {c : Nat → Nat} (hR : RelR m l s) (hB : BInv M m m s os c) (hW : ∀ r ∈ M, r.length = m) : ∀ k, k ≤ m → kerL l.1 l.2 m k = (kerN (s.1.map Prod.snd) m s.2.2 s.2.1 k).2
  | 0, _ => rfl
  | k + 1, hk => by
    have ih := kerL_eq hR hB hW k (by omega)
    obtain ⟨h1, h2, h3, -, -⟩ := kerN_spec hB k (by omega)
    have hmem : (k : Int) ∈ l.2 ↔ (kerN (s.1.map Prod.snd) m s.2.2 s.2.1 k).1 < s.2.1.length ∧ s.2.1[(kerN (s.1.map Prod.snd) m s.2.2 s.2.1 k).1]?.getD 0 = (k : Int) := by
      rw [hR.piv]
      constructor
      · intro h
        obtain ⟨t, ht, e⟩ := List.mem_iff_getElem.1 h
        have hpt := hB.piv t ht
        rw [List.getElem?_eq_getElem ht] at hpt
        simp only [Option.getD_some] at hpt
        have hct : c t = k := by omega
        have hq : (kerN (s.1.map Prod.snd) m s.2.2 s.2.1 k).1 ≤ t := by
          by_cases e2 : t < (kerN (s.1.map Prod.snd) m s.2.2 s.2.1 k).1
          · have := h2 t e2; omega
          · omega
        have hq2 : (kerN (s.1.map Prod.snd) m s.2.2 s.2.1 k).1 = t := by
          by_cases e2 : (kerN (s.1.map Prod.snd) m s.2.2 s.2.1 k).1 = t
          · exact e2
          · have a1 := h3 _ (Nat.le_refl _) (show (kerN (s.1.map Prod.snd) m s.2.2 s.2.1 k).1 < s.2.1.length by omega)
            have a2 := hB.asc _ t (show (kerN (s.1.map Prod.snd) m s.2.2 s.2.1 k).1 < t by omega) ht
            omega
        rw [hq2]
        exact ⟨ht, by rw [hB.piv t ht, hct]⟩
      · rintro ⟨a1, a2⟩
        rw [List.getElem?_eq_getElem a1] at a2
        rw [← a2]
        exact List.getElem_mem a1
    unfold kerL kerN
    by_cases e : (k : Int) ∈ l.2
    · rw [if_pos e, if_pos (hmem.1 e)]; exact ih
    · rw [if_neg e, if_neg (fun h => e (hmem.2 h)), ih]
      dsimp only
      rw [rvec_eq hR hB hW (by omega) (fun t ht e2 => e (by
        rw [hR.piv]
        have hpt := hB.piv t ht
        rw [List.getElem?_eq_getElem ht] at hpt
        simp only [Option.getD_some] at hpt
        rw [← e2, ← hpt]
        exact List.getElem_mem ht))]
end Go.Proofs.YtpnghgihepnepaaDoor

namespace Go.Proofs.YtpnghgihepnepaaDoor
open Go.RowKit
set_option linter.unusedVariables false

theorem tdiv_small (a : Int) (g : Nat) : (a.tdiv (g : Int)).natAbs ≤ a.natAbs := by
  rw [Int.natAbs_tdiv]; exact Nat.div_le_self _ _
theorem combo_fit {c j : Nat} {T R Bt B : List Int} {f : Int} (hT : PropR T Bt) (hR : PropR R B) (hf : FitE (Bt[c]?.getD 0) f c Bt B) (hj : j < B.length) (hjc : j ≠ c) (g : Nat) :
    (-4000000000000000000 ≤ R[j]?.getD 0 * (T[c]?.getD 0).tdiv g ∧ R[j]?.getD 0 * (T[c]?.getD 0).tdiv g ≤ 4000000000000000000) ∧ (-4000000000000000000 ≤ (R[c]?.getD 0).tdiv g * T[j]?.getD 0 ∧ (R[c]?.getD 0).tdiv g * T[j]?.getD 0 ≤ 4000000000000000000) := by
  rcases hf j hj with e | ⟨h1, h2⟩
  · exact absurd e hjc
  · have a1 := hR.bd j
    have a2 := hT.bd c
    have a3 := hR.bd c
    have a4 := hT.bd j
    have b1 := tdiv_small (T[c]?.getD 0) g
    have b2 := tdiv_small (R[c]?.getD 0) g
    have c1 := Nat.mul_le_mul a1 (Nat.le_trans b1 a2)
    have c2 := Nat.mul_le_mul (Nat.le_trans b2 a3) a4
    rw [← Int.natAbs_mul, ← Int.natAbs_mul] at c1 c2
    omega
def timesW (x : Int) (l : List Int) : List Int := l.map (fun y => IntKind.i64.wrap (y * x))
theorem timesW_next {l : List Int} {k : Nat} (x : Int) (h : k < l.length) : (timesW x l).take k ++ [IntKind.i64.wrap (l[k]?.getD 0 * x)] = (timesW x l).take (k + 1) := by
  rw [List.take_add_one]
  congr 1
  unfold timesW
  rw [List.getElem?_map, List.getElem?_eq_getElem h]; rfl
set_option maxHeartbeats 1000000 in
theorem rtimesW_any (v : Value) (l : List Int) (x : Int) (w : World) (h : Ints w v l) (hl : l.length ≤ 1000) :
    Calls Tryd.prog 80 #[v, .int .i64 x] w fun e w' => ∃ v', e = .returned v' ∧ OwnI w' w.heap.size v' (timesW x l) ∧ w.grownBy w' none := by
  have H := Lib.hid h
  obtain ⟨a, cap, rfl, -⟩ := h
  have HG8 := Lib.hid (grown_refl w none)
  go_enter Tryd.func80, Tryd.ntmps80
  go_wp2_with fail
  go_loopw [6, 5] (fun i o wr => ∃ (k : Nat), i = .int .i64 k ∧ k ≤ l.length ∧ Hid (OwnI wr w.heap.size o ((timesW x l).take k)) ∧ Hid (w.grownBy wr none)) (fun i _ _ => l.length - (intOf i).toNat)
  case atStart => exact ⟨0, rfl, Nat.zero_le _, Lib.hid (by simpa using OwnI.nil _ _), HG8⟩
  case round =>
    obtain ⟨k, rfl, hk, hO, hG⟩ := hrel
    rename World => wk
    by_cases hkb : k < l.length
    · have h3 : (k : Int) < (l.length : Int) := by omega
      have i1 : IntKind.i64.wrap ((k : Int) + 1) = (k : Int) + 1 := IntWalk.i64_in _ (by omega)
      obtain ⟨_, _, hxv, -, -, hxc⟩ := H.out
      simp only [Value.slice.injEq] at hxv
      obtain ⟨rfl, -, rfl⟩ := hxv
      obtain ⟨bu, ou, rfl, hcu⟩ := Ints.at hxc hkb
      have hcu3 := hG.out.cell hcu (by simp)
      have HN : Hid ((timesW x l).take k ++ [IntKind.i64.wrap (l[k]?.getD 0 * x)] = (timesW x l).take (k + 1)) := Lib.hid (timesW_next x hkb)
      generalize l[k]?.getD 0 = y at *
      obtain ⟨pr, hpr⟩ : ∃ p, IntKind.i64.wrap (y * x) = p := ⟨_, rfl⟩
      rw [hpr] at HN
      have HKL : Hid (((timesW x l).take k).length ≤ 1000000000000) := Lib.hid (by have := List.length_take_le k (timesW x l); omega)
      clear hxc hcu
      go_wp2_with (at_builtin; refine app_int rfl _ _ rfl w.heap.size _ ((timesW x l).take k) rfl (hO.out.kept (World.grownBy_alloc _ _ none) (by simp)) wk.heap.size pr rfl (by simp) HKL.out (by have := hG.out.size; simp; omega) ?_)
      intro v' w9 ho2 hg2
      have HO9 := Lib.hid ho2; have HG9 := Lib.hid (grown_then (grown_trans hG.out (World.grownBy_alloc _ _ none)) hg2 (fun j hj => .inl (hO.out.fresh j hj).1)); clear ho2 hg2
      go_wp2_with fail
      go_roundw
      case rel => exact ⟨k + 1, by go_num, by omega, Lib.hid (by rw [← HN.out]; exact HO9.out), HG9⟩
      case measure => (simp [intOf]; try omega)
    · obtain rfl : k = l.length := by omega
      have h3 : ¬ (l.length : Int) < (l.length : Int) := by omega
      have hO2 := hO.out
      rw [List.take_of_length_le (by unfold timesW; rw [List.length_map]; exact Nat.le_refl _)] at hO2
      have HO := Lib.hid hO2
      clear hO hO2
      go_wp2_with fail
      go_ret
      exact ⟨_, rfl, HO.out, hG.out⟩
/-- The row under way in the elimination, subtracted up to place k. -/
def SubR (c : Nat) (x y : Int) (row top : List Int) (k : Nat) (L : List Int) : Prop := L.length = row.length ∧ ∀ j, j < row.length → L[j]?.getD 0 = if j < k then row[j]?.getD 0 * x - y * top[j]?.getD 0 else IntKind.i64.wrap (row[j]?.getD 0 * x)
theorem SubR.start (c : Nat) (x y : Int) (row top : List Int) : SubR c x y row top 0 (timesW x row) := ⟨by unfold timesW; rw [List.length_map], fun j hj => by
  rw [if_neg (by omega)]
  unfold timesW
  rw [List.getElem?_map, List.getElem?_eq_getElem hj]; rfl⟩
theorem SubR.put {c : Nat} {x y : Int} {row top L : List Int} {k : Nat} (h : SubR c x y row top k L) (hk : k < row.length) : SubR c x y row top (k + 1) (L.set k (row[k]?.getD 0 * x - y * top[k]?.getD 0)) := by
  refine ⟨by rw [List.length_set]; exact h.1, fun j hj => ?_⟩
  rw [List.getElem?_set]
  by_cases e : k = j
  · subst e
    rw [if_pos rfl, if_pos (by rw [h.1]; exact hk), if_pos (by omega)]; rfl
  · rw [if_neg e, h.2 j hj]
    by_cases e2 : j < k
    · rw [if_pos e2, if_pos (by omega)]
    · rw [if_neg e2, if_neg (by omega)]
theorem SubR.full {c : Nat} {x y : Int} {row top L : List Int} (h : SubR c x y row top row.length L) (hl : row.length = top.length) : L = comboL x y row top := by
  have hcl : (comboL x y row top).length = row.length := by unfold comboL; rw [List.length_zipWith]; omega
  apply List.ext_getElem (by rw [h.1, hcl])
  intro j h1 h2
  have hj : j < row.length := by rw [← h.1]; exact h1
  have h3 := h.2 j hj
  rw [if_pos hj, ← comboL_at hl j, List.getElem?_eq_getElem h1, List.getElem?_eq_getElem h2] at h3
  exact h3
/-- What is reckoned at one place, whatever fits. -/
theorem sub_wrap {c j : Nat} {T R Bt B : List Int} {f : Int} (hT : PropR T Bt) (hR : PropR R B) (hf : FitE (Bt[c]?.getD 0) f c Bt B) (hj : j < B.length) {g : Nat} (hg : g = Nat.gcd (T[c]?.getD 0).natAbs (R[c]?.getD 0).natAbs) (h0 : R[c]?.getD 0 ≠ 0) :
    IntKind.i64.wrap (IntKind.i64.wrap (R[j]?.getD 0 * (T[c]?.getD 0).tdiv g) - IntKind.i64.wrap ((R[c]?.getD 0).tdiv g * T[j]?.getD 0)) = R[j]?.getD 0 * (T[c]?.getD 0).tdiv g - (R[c]?.getD 0).tdiv g * T[j]?.getD 0 := by
  by_cases hjc : j = c
  · subst hjc
    obtain ⟨g', hg0, hge, hx, hy⟩ := gcd_parts (T[j]?.getD 0) (R[j]?.getD 0) h0
    rw [← hg] at hge
    subst hge
    have e : R[j]?.getD 0 * (T[j]?.getD 0).tdiv (g : Int) = (R[j]?.getD 0).tdiv (g : Int) * T[j]?.getD 0 := by
      generalize (T[j]?.getD 0).tdiv (g : Int) = x at *
      generalize (R[j]?.getD 0).tdiv (g : Int) = y at *
      rw [← hx, ← hy]
      grind
    rw [e, Int.sub_self, Int.sub_self]; rfl
  · obtain ⟨⟨a1, a2⟩, a3, a4⟩ := combo_fit hT hR hf hj hjc g
    have w1 : IntKind.i64.wrap (R[j]?.getD 0 * (T[c]?.getD 0).tdiv g) = R[j]?.getD 0 * (T[c]?.getD 0).tdiv g := IntWalk.i64_in _ (by omega)
    have w2 : IntKind.i64.wrap ((R[c]?.getD 0).tdiv g * T[j]?.getD 0) = (R[c]?.getD 0).tdiv g * T[j]?.getD 0 := IntWalk.i64_in _ (by omega)
    rw [w1, w2]
    exact IntWalk.i64_in _ (by omega)
end Go.Proofs.YtpnghgihepnepaaDoor

namespace Go.Proofs.YtpnghgihepnepaaDoor
open Go.RowKit
set_option linter.unusedVariables false

theorem BInv.mid_bd {M : List (List Int)} {m k : Nat} {s : RSt} {os : List (List Int)} {c : Nat → Nat} (h : BInv M m k s os c) (hk : k < m) (hM : ∀ r ∈ M, ∀ x ∈ r, x.natAbs ≤ 16) (h6 : M.length ≤ 6 ∨ m ≤ 6) (t j : Nat) : (ent s.1 t j).natAbs ≤ 12079595520 := by
  have hpk := h.pk
  have hln := h.ln
  have hple := h.ple
  by_cases hj : j < m
  · by_cases ht : t < os.length
    · by_cases hl : t < s.2.1.length
      · exact Nat.le_trans (h.low_bd hM hl hj) (fb6 (by omega))
      · exact Nat.le_trans (h.high_bd hM (by omega) ht hj) (fb6 (by omega))
    · unfold ent
      rw [List.getElem?_eq_none (l := s.1) (i := t) (by have := h.len; omega)]
      show (([] : List Int)[j]?.getD 0).natAbs ≤ _
      simp
  · unfold ent
    by_cases ht : t < s.1.length
    · rw [List.getElem?_eq_getElem ht]
      have hw := h.wide _ (List.getElem_mem ht)
      show ((s.1[t]).2[j]?.getD 0).natAbs ≤ _
      rw [List.getElem?_eq_none (by omega)]
      simp
    · rw [List.getElem?_eq_none (l := s.1) (i := t) (by omega)]
      show (([] : List Int)[j]?.getD 0).natAbs ≤ _
      simp

/-- The rows while a column is eliminated: the first i are done. -/
def halfR (c p : Nat) (T : List Int) (L : List (List Int)) (i : Nat) : List (List Int) := L.mapIdx (fun t row => if t = p then T else if t < i then relim c T row else row)
theorem halfR_len (c p : Nat) (T : List Int) (L : List (List Int)) (i : Nat) : (halfR c p T L i).length = L.length := by unfold halfR; rw [List.length_mapIdx]
theorem halfR_at {c p : Nat} {T : List Int} {L : List (List Int)} {i t : Nat} (h : t < L.length) : (halfR c p T L i)[t]?.getD [] = if t = p then T else if t < i then relim c T (L[t]?.getD []) else L[t]?.getD [] := by
  unfold halfR
  rw [List.getElem?_mapIdx, List.getElem?_eq_getElem h]; rfl
theorem ext_getD {A B : List (List Int)} (hl : A.length = B.length) (h : ∀ t : Nat, t < A.length → A[t]?.getD [] = B[t]?.getD []) : A = B := by
  apply List.ext_getElem hl
  intro t h1 h2
  have := h t h1
  rw [List.getElem?_eq_getElem h1, List.getElem?_eq_getElem h2] at this
  exact this
theorem getD_set {A : List (List Int)} {k t : Nat} (x : List Int) (hk : k < A.length) : (A.set k x)[t]?.getD [] = if t = k then x else A[t]?.getD [] := by
  rw [List.getElem?_set]
  by_cases e : t = k
  · rw [if_pos e.symm, if_pos e, if_pos hk]; rfl
  · rw [if_neg (fun h => e h.symm), if_neg e]
theorem halfR_start {c p : Nat} {T : List Int} {L : List (List Int)} (hp : p < L.length) : L.set p T = halfR c p T L 0 := by
  refine ext_getD (by rw [List.length_set, halfR_len]) (fun t ht => ?_)
  rw [List.length_set] at ht
  rw [getD_set T hp, halfR_at ht, if_neg (Nat.not_lt_zero t)]
theorem halfR_next {c p : Nat} {T : List Int} {L : List (List Int)} {i : Nat} (hi : i < L.length) (hip : i ≠ p) : (halfR c p T L i).set i (relim c T (L[i]?.getD [])) = halfR c p T L (i + 1) := by
  refine ext_getD (by rw [List.length_set, halfR_len, halfR_len]) (fun t ht => ?_)
  rw [List.length_set, halfR_len] at ht
  rw [getD_set _ (by rw [halfR_len]; exact hi), halfR_at ht, halfR_at ht]
  by_cases e : t = i
  · subst e
    rw [if_pos rfl, if_neg hip, if_pos (Nat.lt_succ_self t)]
  · rw [if_neg e]
    by_cases e2 : t = p
    · rw [if_pos e2, if_pos e2]
    · rw [if_neg e2, if_neg e2]
      by_cases e3 : t < i
      · rw [if_pos e3, if_pos (by omega)]
      · rw [if_neg e3, if_neg (by omega)]
theorem halfR_skip {c p : Nat} {T : List Int} {L : List (List Int)} : halfR c p T L p = halfR c p T L (p + 1) := by
  refine ext_getD (by rw [halfR_len, halfR_len]) (fun t ht => ?_)
  rw [halfR_len] at ht
  rw [halfR_at ht, halfR_at ht]
  by_cases e2 : t = p
  · rw [if_pos e2, if_pos e2]
  · rw [if_neg e2, if_neg e2]
    by_cases e3 : t < p
    · rw [if_pos e3, if_pos (by omega)]
    · rw [if_neg e3, if_neg (by omega)]
theorem halfR_zero {c p : Nat} {T : List Int} {L : List (List Int)} {i : Nat} (h0 : (L[i]?.getD [])[c]?.getD 0 = 0) : halfR c p T L i = halfR c p T L (i + 1) := by
  refine ext_getD (by rw [halfR_len, halfR_len]) (fun t ht => ?_)
  rw [halfR_len] at ht
  rw [halfR_at ht, halfR_at ht]
  by_cases e2 : t = p
  · rw [if_pos e2, if_pos e2]
  · rw [if_neg e2, if_neg e2]
    by_cases e : t = i
    · subst e
      rw [if_neg (Nat.lt_irrefl t), if_pos (Nat.lt_succ_self t)]
      unfold relim
      rw [if_pos h0]
    · by_cases e3 : t < i
      · rw [if_pos e3, if_pos (by omega)]
      · rw [if_neg e3, if_neg (by omega)]
theorem halfR_full (c p : Nat) (T : List Int) (L : List (List Int)) : halfR c p T L L.length = L.mapIdx (fun t row => if t = p then T else relim c T row) := by
  refine ext_getD (by rw [halfR_len, List.length_mapIdx]) (fun t ht => ?_)
  rw [halfR_len] at ht
  rw [halfR_at ht, if_pos ht, List.getElem?_mapIdx, List.getElem?_eq_getElem ht]; rfl
theorem lstep_hit {R : List (List Int)} {P : List Int} {k i : Nat} (h : lfind R k (R.length - P.length) P.length = some i) :
    lstep k (R, P) = (halfR k P.length (ltop k ((swapO R P.length i)[P.length]?.getD [])) (swapO R P.length i) (swapO R P.length i).length, P ++ [(k : Int)]) := by
  rw [halfR_full]
  unfold lstep
  dsimp only
  rw [h]
theorem lstep_none {R : List (List Int)} {P : List Int} {k : Nat} (h : lfind R k (R.length - P.length) P.length = none) : lstep k (R, P) = (R, P) := by
  unfold lstep
  dsimp only
  rw [h]
/-- What is known of the rows when a column is eliminated. -/
structure StepF (m k p : Nat) (T : List Int) (L : List (List Int)) : Prop where
  top : ∃ Bt f, PropR T Bt ∧ ∀ t, t < L.length → t ≠ p → ∃ B, PropR (L[t]?.getD []) B ∧ FitE (Bt[k]?.getD 0) f k Bt B
  pos : 0 < T[k]?.getD 0
  wt : T.length = m
  wl : ∀ t, t < L.length → (L[t]?.getD []).length = m
  bt : ∀ j : Nat, (T[j]?.getD 0).natAbs ≤ 12079595520
  bl : ∀ t j : Nat, ((L[t]?.getD [])[j]?.getD 0).natAbs ≤ 12079595520
theorem rel_bd {M : List (List Int)} {m k : Nat} {l : LSt} {s : RSt} {os : List (List Int)} {c : Nat → Nat} (h : RelR m l s) (hB : BInv M m k s os c) (hk : k < m) (hM : ∀ r ∈ M, ∀ x ∈ r, x.natAbs ≤ 16) (h6 : M.length ≤ 6 ∨ m ≤ 6) (t j : Nat) :
    ((l.1[t]?.getD [])[j]?.getD 0).natAbs ≤ 12079595520 := by
  by_cases ht : t < s.1.length
  · exact Nat.le_trans ((h.row t ht).bd j) (hB.mid_bd hk hM h6 t j)
  · rw [List.getElem?_eq_none (l := l.1) (i := t) (by have := h.len; omega)]
    show (([] : List Int)[j]?.getD 0).natAbs ≤ _
    simp
theorem rel_wide {M : List (List Int)} {m k : Nat} {l : LSt} {s : RSt} {os : List (List Int)} {c : Nat → Nat} (h : RelR m l s) (hB : BInv M m k s os c) (t : Nat) (ht : t < l.1.length) : (l.1[t]?.getD []).length = m := by
  have ht' : t < s.1.length := by have := h.len; omega
  rw [(h.row t ht').len, List.getElem?_eq_getElem ht']
  exact hB.wide _ (List.getElem_mem ht')
theorem lfind_some {R : List (List Int)} {c : Nat} : ∀ {n i k}, lfind R c n i = some k → i ≤ k ∧ k < i + n ∧ (R[k]?.getD [])[c]?.getD 0 ≠ 0
  | 0, i, k, h => by unfold lfind at h; cases h
  | n + 1, i, k, h => by
    unfold lfind at h
    by_cases e : lhit R c i = true
    · rw [if_pos e] at h
      cases h
      unfold lhit at e
      exact ⟨Nat.le_refl _, by omega, by simpa using e⟩
    · rw [if_neg e] at h
      obtain ⟨h1, h2, h3⟩ := lfind_some h
      exact ⟨by omega, by omega, h3⟩
theorem stepF_of {M : List (List Int)} {m k : Nat} {l : LSt} {s : RSt} {os : List (List Int)} {c : Nat → Nat} (h : RelR m l s) (hB : BInv M m k s os c) (hk : k < m) (hM : ∀ r ∈ M, ∀ x ∈ r, x.natAbs ≤ 16) (h6 : M.length ≤ 6 ∨ m ≤ 6) {i : Nat}
    (hf : lfind l.1 k (l.1.length - l.2.length) l.2.length = some i) : l.2.length < l.1.length ∧ l.2.length ≤ i ∧ i < l.1.length ∧ StepF m k l.2.length (ltop k ((swapO l.1 l.2.length i)[l.2.length]?.getD [])) (swapO l.1 l.2.length i) := by
  have hbd := rel_bd h hB hk hM h6
  have hwd := rel_wide h hB
  have hfit := hB.fit hk hM h6
  obtain ⟨R, P⟩ := l
  obtain ⟨ps, pv, f⟩ := s
  obtain ⟨hlen, hpv, hrow, hpos⟩ := h
  dsimp only at hlen hpv hrow hpos hbd hwd hf ⊢
  subst hpv
  have hple : P.length ≤ ps.length := by have := hB.ple; have := hB.len; dsimp only at *; omega
  obtain ⟨a1, a2, a3⟩ := lfind_some hf
  have hpR : P.length < R.length := by omega
  have hiR : i < R.length := by omega
  have hp : P.length < ps.length := by omega
  have hi : i < ps.length := by omega
  have hff : findHit ps k (ps.length - P.length) P.length = some i := by
    rw [← lfind_eq hrow k _ _ (by omega), ← hlen]; exact hf
  have hF := hfit i hff
  dsimp only at hF
  have etop : topOf k i (ps, P, f) = ps[i].2 := top_is (c := k) (k := 0) hp hi
  rw [etop] at hF
  have hT0 : (swapO R P.length i)[P.length]?.getD [] = R[i]?.getD [] := by
    rw [swapO_at hpR hiR]
    by_cases e : P.length = i
    · rw [if_pos e, e]
    · rw [if_neg e, if_pos rfl]
  rw [hT0]
  have hri := hrow i hi
  rw [List.getElem?_eq_getElem hi] at hri
  simp only [Option.getD_some] at hri
  have hL : ps[i].2[k]?.getD 0 ≠ 0 := fun e => a3 ((hri.zero k).2 e)
  obtain ⟨hT, hTp⟩ := ltop_prop hri hL
  have hsl : (swapT ps P.length i).length = ps.length := swapT_len _ _ _
  have hol : (swapO R P.length i).length = R.length := by unfold swapO; simp
  have hsat : ∀ t, (swapO R P.length i)[t]?.getD [] = if t = i then R[P.length]?.getD [] else if t = P.length then R[i]?.getD [] else R[t]?.getD [] := fun t => swapO_at hpR hiR t
  refine ⟨hpR, a1, hiR, ⟨ps[i].2, f, hT, fun t ht htp => ?_⟩, hTp, ?_, fun t ht => ?_, fun j => ?_, fun t j => ?_⟩
  · have htl : t < ps.length := by omega
    have htl2 : t < (swapT ps P.length i).length := by omega
    refine ⟨(swapT ps P.length i)[t].2, ?_, hF t htl2 htp⟩
    have e1 : (swapT ps P.length i)[t] = (swapT ps P.length i)[t]?.getD rowN := by rw [List.getElem?_eq_getElem htl2]; rfl
    rw [e1, hsat, swapT_at hp hi]
    by_cases e : t = i
    · rw [if_pos e, if_pos e]; exact hrow _ hp
    · rw [if_neg e, if_neg e, if_neg htp, if_neg htp]; exact hrow _ htl
  · rw [hT.len, ← hri.len]; exact hwd i hiR
  · rw [hsat]
    split
    · exact hwd _ hpR
    · split
      · exact hwd _ hiR
      · exact hwd _ (by omega)
  · have h1 := hT.bd j
    have h2 : (ps[i].2[j]?.getD 0).natAbs ≤ 12079595520 := by
      have := hB.mid_bd hk hM h6 i j
      dsimp only at this
      rw [ent_row hi] at this
      exact this
    exact Nat.le_trans h1 h2
  · rw [hsat]
    split
    · exact hbd _ _
    · split
      · exact hbd _ _
      · exact hbd _ _
/-- One row of an elimination: what the machine reckons is plain, and fits. -/
theorem StepF.row {m k p : Nat} {T : List Int} {L : List (List Int)} (h : StepF m k p T L) {t : Nat} (ht : t < L.length) (htp : t ≠ p) (h0 : (L[t]?.getD [])[k]?.getD 0 ≠ 0) {g : Nat} (hg : g = Nat.gcd (T[k]?.getD 0).natAbs ((L[t]?.getD [])[k]?.getD 0).natAbs) :
    (∀ j, j < m → IntKind.i64.wrap (IntKind.i64.wrap ((L[t]?.getD [])[j]?.getD 0 * (T[k]?.getD 0).tdiv g) - IntKind.i64.wrap (((L[t]?.getD [])[k]?.getD 0).tdiv g * T[j]?.getD 0)) = (L[t]?.getD [])[j]?.getD 0 * (T[k]?.getD 0).tdiv g - ((L[t]?.getD [])[k]?.getD 0).tdiv g * T[j]?.getD 0) ∧
    (∀ x ∈ comboL ((T[k]?.getD 0).tdiv g) (((L[t]?.getD [])[k]?.getD 0).tdiv g) (L[t]?.getD []) T, x.natAbs ≤ 9223372036854775807) ∧
    relim k T (L[t]?.getD []) = primL (comboL ((T[k]?.getD 0).tdiv g) (((L[t]?.getD [])[k]?.getD 0).tdiv g) (L[t]?.getD []) T) ∧ 1 ≤ g := by
  obtain ⟨Bt, f, hT, hrows⟩ := h.top
  obtain ⟨B, hR, hF⟩ := hrows t ht htp
  have hwl := h.wl t ht
  have hwt := h.wt
  generalize L[t]?.getD [] = R at *
  have hBl : B.length = m := by rw [← hR.len]; exact hwl
  have hg1 : 1 ≤ g := by
    rw [hg]; exact Nat.gcd_pos_of_pos_right _ (by omega)
  refine ⟨fun j hj => sub_wrap hT hR hF (by omega) hg h0, fun x hx => ?_, ?_, hg1⟩
  · obtain ⟨j, hj, rfl⟩ := List.getElem_of_mem hx
    have hjl : j < R.length := by unfold comboL at hj; rw [List.length_zipWith] at hj; omega
    have e1 : (comboL ((T[k]?.getD 0).tdiv g) ((R[k]?.getD 0).tdiv g) R T)[j] = (comboL ((T[k]?.getD 0).tdiv g) ((R[k]?.getD 0).tdiv g) R T)[j]?.getD 0 := by rw [List.getElem?_eq_getElem hj]; rfl
    rw [e1, comboL_at (by omega)]
    by_cases hjk : j = k
    · subst hjk
      obtain ⟨g', hg'0, hg', e2, e3⟩ := gcd_parts (T[j]?.getD 0) (R[j]?.getD 0) h0
      have e4 : (g : Int) = g' := by rw [hg', hg]
      rw [e4]
      have e5 : R[j]?.getD 0 * (T[j]?.getD 0).tdiv g' - (R[j]?.getD 0).tdiv g' * T[j]?.getD 0 = 0 := by
        generalize (T[j]?.getD 0).tdiv g' = a at *
        generalize (R[j]?.getD 0).tdiv g' = b at *
        rw [← e2, ← e3]
        have : b * g' * a = b * (a * g') := by rw [Int.mul_assoc, Int.mul_comm g' a]
        omega
      rw [e5]; decide
    · have := combo_fit hT hR hF (by omega) hjk g
      omega
  · unfold relim
    rw [if_neg h0, hg]
end Go.Proofs.YtpnghgihepnepaaDoor
