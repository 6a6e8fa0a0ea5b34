/- Texts Bc, Bd in one. -/
import Derived.Test.YtpnghgihepnepaaDoorU7
import Derived.Test.YtpnghgihepnepaaDoorU9
namespace Go.Proofs.YtpnghgihepnepaaDoor
open Go.RowKit
set_option linter.unusedVariables false
theorem fb5 {p : Nat} (h : p ≤ 5) : fb 16 p ≤ 125829120 := by
  obtain rfl | rfl | rfl | rfl | rfl | rfl : p = 0 ∨ p = 1 ∨ p = 2 ∨ p = 3 ∨ p = 4 ∨ p = 5 := by omega
  all_goals decide
theorem fb6 {p : Nat} (h : p ≤ 6) : fb 16 p ≤ 12079595520 := by
  by_cases e : p = 6
  · subst e; decide
  · have := fb5 (show p ≤ 5 by omega); omega
theorem mul_abs {a b : Int} {A B : Nat} (ha : a.natAbs ≤ A) (hb : b.natAbs ≤ B) (h : A * B ≤ 4000000000000000000) : -4000000000000000000 ≤ a * b ∧ a * b ≤ 4000000000000000000 := by
  have := Nat.mul_le_mul ha hb
  rw [← Int.natAbs_mul] at this
  omega
theorem BInv.lge {M : List (List Int)} {m k : Nat} {s : RSt} {os : List (List Int)} {c : Nat → Nat} (h : BInv M m k s os c) : ∀ l, l < s.2.1.length → l ≤ c l
  | 0, _ => Nat.zero_le _
  | l + 1, hl => by
    have := h.lge l (by omega)
    have := h.asc l (l + 1) (by omega) hl
    omega
theorem BInv.pk {M : List (List Int)} {m k : Nat} {s : RSt} {os : List (List Int)} {c : Nat → Nat} (h : BInv M m k s os c) : s.2.1.length ≤ k := by
  by_cases e : s.2.1.length = 0
  · omega
  · have h1 := h.lge (s.2.1.length - 1) (by omega)
    have h2 := h.ck (s.2.1.length - 1) (by omega)
    omega
theorem BInv.ovb {M : List (List Int)} {m k : Nat} {s : RSt} {os : List (List Int)} {c : Nat → Nat} (h : BInv M m k s os c) {B : Nat} (hM : ∀ r ∈ M, ∀ x ∈ r, x.natAbs ≤ B) : ∀ i j, (ov os i j).natAbs ≤ B := by
  intro i j
  unfold ov
  cases hi : os[i]? with
  | none => simp
  | some r =>
    have hr : r ∈ M := (h.mem r).1 (List.mem_of_getElem? hi)
    show ((r[j]?).getD 0).natAbs ≤ B
    cases hj : r[j]? with
    | none => simp
    | some x => exact hM r hr x (List.mem_of_getElem? hj)
theorem BInv.low_bd {M : List (List Int)} {m k : Nat} {s : RSt} {os : List (List Int)} {c : Nat → Nat} (h : BInv M m k s os c) (hM : ∀ r ∈ M, ∀ x ∈ r, x.natAbs ≤ 16) {l j : Nat} (hl : l < s.2.1.length) (hj : j < m) : (ent s.1 l j).natAbs ≤ fb 16 s.2.1.length := by
  rw [h.low l hl j hj]; exact X_bd (h.ovb hM) _ _ _ _
theorem BInv.high_bd {M : List (List Int)} {m k : Nat} {s : RSt} {os : List (List Int)} {c : Nat → Nat} (h : BInv M m k s os c) (hM : ∀ r ∈ M, ∀ x ∈ r, x.natAbs ≤ 16) {i j : Nat} (h1 : s.2.1.length ≤ i) (h2 : i < os.length) (hj : j < m) : (ent s.1 i j).natAbs ≤ fb 16 (s.2.1.length + 1) := by
  rw [h.high i h1 h2 j hj]; exact Y_bd (h.ovb hM) _ _ _ _
theorem BInv.fit {M : List (List Int)} {m k : Nat} {s : RSt} {os : List (List Int)} {c : Nat → Nat} (h : BInv M m k s os c) (hk : k < m) (hM : ∀ r ∈ M, ∀ x ∈ r, x.natAbs ≤ 16) (h6 : M.length ≤ 6 ∨ m ≤ 6) : FitS k s := by
  intro t hh i hi hip
  obtain ⟨ps, pv, f⟩ := s
  have hpk := h.pk
  have hlb := fun l j hl hj => h.low_bd hM (l := l) (j := j) hl hj
  have hhb := fun i j h1 h2 hj => h.high_bd hM (i := i) (j := j) h1 h2 hj
  have hz := h.zero
  have hln := h.ln
  have hlen := h.len
  have hw := h.wide
  dsimp only at *
  generalize hp : pv.length = p at *
  obtain ⟨e1, e2, e3⟩ := findHit_some hh
  have hpp : p < ps.length := by omega
  have ht : t < ps.length := by omega
  have htop : topOf k t (ps, pv, f) = ps[t].2 := top_is (k := 0) (by omega) ht
  rw [htop]
  have hil : i < ps.length := by rw [swapT_len] at hi; exact hi
  have hrow : (swapT ps p t)[i] = (swapT ps p t)[i]?.getD rowN := by rw [List.getElem?_eq_getElem hi]; rfl
  rw [hrow, swapT_at hpp ht]
  intro j hj
  have tb : ∀ j, j < m → (ps[t].2[j]?.getD 0).natAbs ≤ fb 16 (p + 1) := fun j hj => by rw [← ent_row ht]; exact hhb t j e1 (by omega) hj
  by_cases hlow : i < p
  · rw [if_neg (by omega), if_neg (by omega)] at hj ⊢
    have hjm : j < m := by rw [List.getElem?_eq_getElem hil] at hj; have := hw _ (List.getElem_mem hil); simp at hj; omega
    have f5 := fb5 (show p ≤ 5 by omega)
    have f6 := fb6 (show p + 1 ≤ 6 by omega)
    refine .inr ⟨mul_abs (A := 125829120) (B := 12079595520) (Nat.le_trans (hlb i j hlow hjm) f5) (Nat.le_trans (tb k hk) f6) (by decide), mul_abs (A := 125829120) (B := 12079595520) (Nat.le_trans (hlb i k hlow hk) f5) (Nat.le_trans (tb j hjm) f6) (by decide)⟩
  · obtain ⟨u, hu1, hu2, hu3⟩ : ∃ u, p ≤ u ∧ u < ps.length ∧ (if i = t then ps[p]?.getD rowN else if i = p then ps[t]?.getD rowN else ps[i]?.getD rowN) = ps[u]?.getD rowN := by
      by_cases h1 : i = t
      · exact ⟨p, Nat.le_refl _, hpp, by rw [if_pos h1]⟩
      · exact ⟨i, by omega, hil, by rw [if_neg h1, if_neg hip]⟩
    rw [hu3] at hj ⊢
    have hjm : j < m := by rw [List.getElem?_eq_getElem hu2] at hj; have := hw _ (List.getElem_mem hu2); simp at hj; omega
    by_cases h5 : p + 1 ≤ 5
    · have f5 := fb5 h5
      refine .inr ⟨mul_abs (A := 125829120) (B := 125829120) (Nat.le_trans (hhb u j hu1 (by omega) hjm) f5) (Nat.le_trans (tb k hk) f5) (by decide), mul_abs (A := 125829120) (B := 125829120) (Nat.le_trans (hhb u k hu1 (by omega) hk) f5) (Nat.le_trans (tb j hjm) f5) (by decide)⟩
    · by_cases hjk : j = k
      · exact .inl hjk
      · refine .inr ?_
        have z1 := hz u hu1 (by omega) j (by omega)
        have z2 := hz t e1 (by omega) j (by omega)
        rw [ent_row ht] at z2
        unfold ent at z1
        rw [z1, z2]; simp
theorem BInv.end_bd {M : List (List Int)} {m : Nat} {s : RSt} {os : List (List Int)} {c : Nat → Nat} (h : BInv M m m s os c) (hM : ∀ r ∈ M, ∀ x ∈ r, x.natAbs ≤ 16) (h6 : M.length ≤ 6 ∨ m ≤ 6) :
    s.2.2.natAbs ≤ 12079595520 ∧ ∀ q ∈ s.1, ∀ x ∈ q.2, x.natAbs ≤ 12079595520 := by
  have hp6 : s.2.1.length ≤ 6 := by have := h.pk; have := h.ple; have := h.ln; omega
  refine ⟨by rw [h.fac]; exact Nat.le_trans (D_bd (h.ovb hM) _ _) (fb6 hp6), fun q hq x hx => ?_⟩
  obtain ⟨i, hi, rfl⟩ := List.getElem_of_mem hq
  obtain ⟨j, hj, rfl⟩ := List.getElem_of_mem hx
  have hjm : j < m := by have := h.wide _ (List.getElem_mem hi); omega
  have e : s.1[i].2[j] = ent s.1 i j := by rw [ent_row hi, List.getElem?_eq_getElem hj]; rfl
  rw [e]
  by_cases hl : i < s.2.1.length
  · exact Nat.le_trans (h.low_bd hM hl hjm) (fb6 hp6)
  · rw [h.zero i (by omega) (by have := h.len; omega) j hjm]; decide
def Ent16 (ps : List Row) : Prop := ∀ q ∈ ps, ∀ x ∈ q.2, -16 ≤ x ∧ x ≤ 16
/-- Every small matrix can be reduced. -/
theorem redFit_any {ps : List Row} {m : Nat} (hm : ∀ q ∈ ps, q.2.length = m) (hb : ∀ q ∈ ps, ∀ x ∈ q.2, -16 ≤ x ∧ x ≤ 16) (h6 : ps.length ≤ 6 ∨ m ≤ 6) : RedFit ps m := by
  intro qs hq
  have hM : ∀ r ∈ ps.map Prod.snd, ∀ x ∈ r, x.natAbs ≤ 16 := fun r hr x hx => by
    obtain ⟨q, hq, rfl⟩ := List.mem_map.1 hr
    have := hb q hq x hx
    omega
  have hW : ∀ r ∈ ps.map Prod.snd, r.length = m := fun r hr => by
    obtain ⟨q, hq, rfl⟩ := List.mem_map.1 hr
    exact hm q hq
  have h6' : (ps.map Prod.snd).length ≤ 6 ∨ m ≤ 6 := by rw [List.length_map]; exact h6
  obtain ⟨os, c, h⟩ := BInv.all hq hW m (Nat.le_refl _)
  have he := h.end_bd hM h6'
  refine ⟨fun k hk => ?_, by have := he.1; omega, fun q hq' x hx => by have := he.2 q hq' x hx; omega⟩
  obtain ⟨os', c', h'⟩ := BInv.all hq hW k (by omega)
  exact h'.fit hk hM h6'
end Go.Proofs.YtpnghgihepnepaaDoor

namespace Go.Proofs.YtpnghgihepnepaaDoor
open Go.RowKit
set_option linter.unusedVariables false
open Bar
theorem dot_set : ∀ (r u : List Int) (i : Nat) (x : Int), i < r.length → i < u.length → dotL r (u.set i x) = dotL r u + r[i]?.getD 0 * (x - u[i]?.getD 0)
  | a :: r, b :: u, 0, x, _, _ => by
    show a * x + dotL r u = a * b + dotL r u + a * (x - b)
    grind
  | a :: r, b :: u, i + 1, x, h1, h2 => by
    have ih := dot_set r u i x (by simpa using h1) (by simpa using h2)
    show a * b + dotL r (u.set i x) = a * b + dotL r u + (r[i]?.getD 0) * (x - u[i]?.getD 0)
    rw [ih]; omega
theorem dot_zero : ∀ (r : List Int) (n : Nat), dotL r (List.replicate n 0) = 0
  | [], n => by cases n <;> rfl
  | a :: r, 0 => rfl
  | a :: r, n + 1 => by
    show a * 0 + dotL r (List.replicate n 0) = 0
    rw [dot_zero r n]; simp
theorem dot_mul (k : Int) : ∀ (r v : List Int), dotL r (v.map (fun x => x * k)) = dotL r v * k
  | [], v => by cases v <;> simp [dotL]
  | a :: r, [] => by simp [dotL]
  | a :: r, b :: v => by
    show a * (b * k) + dotL r (v.map (fun x => x * k)) = (a * b + dotL r v) * k
    rw [dot_mul k r v]; grind
theorem dot_sum (a b : List Int) : ∀ k, k ≤ a.length → k ≤ b.length → dotL (a.take k) (b.take k) = sumN k (fun i => a[i]?.getD 0 * b[i]?.getD 0)
  | 0, _, _ => by simp [dotL, sumN]
  | k + 1, h1, h2 => by
    rw [dot_snoc a b k (by omega) (by omega), dot_sum a b k (by omega) (by omega)]
    show _ = a[k]?.getD 0 * b[k]?.getD 0 + sumN k _
    omega
/-! ### The vectors of the kernel -/
theorem set_dvd {u : List Int} {i : Nat} {x : Int} (hi : i < u.length) (hz : u[i]?.getD 0 = 0) (d : Nat) : (∀ y ∈ u.set i x, d ∣ y.natAbs) ↔ (∀ y ∈ u, d ∣ y.natAbs) ∧ d ∣ x.natAbs := by
  constructor
  · intro h
    refine ⟨fun y hy => ?_, h x (List.mem_set hi x)⟩
    obtain ⟨j, hj, rfl⟩ := List.getElem_of_mem hy
    by_cases e : i = j
    · subst e
      rw [List.getElem?_eq_getElem hi] at hz
      have : u[i] = 0 := hz
      rw [this]; exact Nat.dvd_zero _
    · have h1 : (u.set i x)[j]'(by simpa using hj) = u[j] := by rw [List.getElem_set_ne e]
      rw [← h1]
      exact h _ (List.getElem_mem _)
  · rintro ⟨h1, h2⟩ y hy
    rcases List.mem_or_eq_of_mem_set hy with hy | rfl
    · exact h1 y hy
    · exact h2
def gcdF (g : Nat) (l : List Int) : Nat := l.foldl (fun g x => Nat.gcd x.natAbs g) g
theorem gcdF_dvd (d : Nat) : ∀ (l : List Int) (g : Nat), d ∣ gcdF g l ↔ d ∣ g ∧ ∀ x ∈ l, d ∣ x.natAbs
  | [], g => by simp [gcdF]
  | x :: l, g => by
    show d ∣ gcdF (Nat.gcd x.natAbs g) l ↔ _
    rw [gcdF_dvd d l, Nat.dvd_gcd_iff]
    simp only [List.mem_cons, forall_eq_or_imp]
    constructor
    · rintro ⟨⟨h1, h2⟩, h3⟩; exact ⟨h2, h1, h3⟩
    · rintro ⟨h2, h1, h3⟩; exact ⟨⟨h1, h2⟩, h3⟩
/-- What is known of a column without a pivot. -/
structure SolOk (M : List (List Int)) (m col : Nat) (f : Int) (p : Nat) (c : Nat → Nat) (E : Nat → Nat → Int) (v : List Int) : Prop where
  len : v.length = m
  kills : ∀ r ∈ M, dotL r v = 0
  prim : gcdF 0 v = 1
  pos : 0 < v[col]?.getD 0
  bd : ∀ B : Nat, f.natAbs ≤ B → (∀ l, l < p → (E l col).natAbs ≤ B) → ∀ x ∈ v, x.natAbs ≤ B
  off : ∀ j, j ≠ col → (∀ l, l < p → c l ≠ j) → v[j]?.getD 0 = 0
  onp : ∀ l, l < p → v[c l]?.getD 0 * f = - (E l col * v[col]?.getD 0)
theorem sol_any {M : List (List Int)} {m : Nat} {s : RSt} {os : List (List Int)} {c : Nat → Nat} (h : BInv M m m s os c) (hW : ∀ r ∈ M, r.length = m) {col : Nat} (hc : col < m) (hn : ∀ l, l < s.2.1.length → c l ≠ col) :
    SolOk M m col s.2.2 s.2.1.length c (ent s.1) (solEnd (s.1.map Prod.snd) col m s.2.2 s.2.1) := by
  obtain ⟨ps, pv, f⟩ := s
  obtain ⟨hlen, hwide, hmem, hln, hpiv, hple, hasc, hck, hfac, hne, hlow, hhigh, hzero⟩ := h
  dsimp only at *
  have hE : ∀ l j, ((ps.map Prod.snd)[l]?.getD [])[j]?.getD 0 = ent ps l j := fun l j => by
    unfold ent
    rw [List.getElem?_map]
    cases ps[l]? with
    | none => simp [rowN]
    | some q => rfl
  have hinj : ∀ a b, a < pv.length → b < pv.length → c a = c b → a = b := fun a b ha hb e => by
    rcases Nat.lt_trichotomy a b with h | h | h
    · have := hasc a b h hb; omega
    · exact h
    · have := hasc b a h ha; omega
  have hP : ∀ i, i < pv.length → (pv[i]?.getD 0).toNat = c i := fun i hi => by rw [hpiv i hi]; simp
  generalize hrows : ps.map Prod.snd = rows at *
  have hl : ∀ i, (solV rows col m f pv i).1.length = m := fun i => solV_len _ _ _ _ _ _
  -- the elements
  have hat : ∀ i, i ≤ pv.length → ∀ j, (solV rows col m f pv i).1[j]?.getD 0 = if j = col then f else if ∃ l, l < i ∧ c l = j then (if j < m then (solV rows col m f pv i).1[j]?.getD 0 else 0) else 0 := by
    intro i hi j
    induction i with
    | zero =>
      show ((List.replicate m 0).set col f)[j]?.getD 0 = _
      rw [List.getElem?_set]
      by_cases e : col = j
      · subst e; rw [if_pos rfl, if_pos (by simpa using hc), if_pos rfl]; rfl
      · rw [if_neg e, if_neg (fun h => e h.symm), if_neg (by rintro ⟨l, h, -⟩; omega), List.getElem?_replicate]; split <;> rfl
    | succ i ih =>
      have ih := ih (by omega)
      by_cases h1 : j = col
      · rw [if_pos h1]
        rw [if_pos h1] at ih
        show ((solV rows col m f pv i).1.set (pv[i]?.getD 0).toNat _)[j]?.getD 0 = f
        rw [List.getElem?_set, hP i (by omega), if_neg (by have := hn i (by omega); omega)]
        exact ih
      · rw [if_neg h1]
        by_cases h2 : ∃ l, l < i + 1 ∧ c l = j
        · rw [if_pos h2]
          obtain ⟨l, h3, h4⟩ := h2
          rw [if_pos (by have := hck l (by omega); omega)]
        · rw [if_neg h2]
          rw [if_neg h1, if_neg (by rintro ⟨l, h3, h4⟩; exact h2 ⟨l, by omega, h4⟩)] at ih
          show ((solV rows col m f pv i).1.set (pv[i]?.getD 0).toNat _)[j]?.getD 0 = 0
          rw [List.getElem?_set, hP i (by omega), if_neg (fun e => h2 ⟨i, by omega, e⟩)]
          exact ih
  have hnext : ∀ i, i < pv.length → (solV rows col m f pv i).1[c i]?.getD 0 = 0 := fun i hi => by
    rw [hat i (by omega), if_neg (hn i hi), if_neg]
    rintro ⟨l, h1, h2⟩
    have := hinj l i (by omega) hi h2
    omega
  have hset : ∀ i, i < pv.length → (solV rows col m f pv (i + 1)).1 = (solV rows col m f pv i).1.set (c i) (-(ent ps i col)) := fun i hi => by
    show (solV rows col m f pv i).1.set (pv[i]?.getD 0).toNat _ = _
    rw [hP i hi, hE]
  have hcf : (List.replicate m (0 : Int))[col]?.getD 0 = 0 := by rw [List.getElem?_replicate]; split <;> rfl
  have hval : ∀ i, i ≤ pv.length → ∀ l, l < i → (solV rows col m f pv i).1[c l]?.getD 0 = -(ent ps l col) := by
    intro i hi l hli
    induction i with
    | zero => omega
    | succ i ih =>
      rw [hset i (by omega), List.getElem?_set]
      by_cases e : l = i
      · subst e; rw [if_pos rfl, if_pos (by rw [hl]; exact hck l (by omega))]; rfl
      · rw [if_neg (fun e' => e (hinj l i (by omega) (by omega) e'.symm))]
        exact ih (by omega) (by omega)
  have hcol : (solV rows col m f pv pv.length).1[col]?.getD 0 = f := by rw [hat _ (Nat.le_refl _), if_pos rfl]
  -- the products
  have hdot : ∀ r : List Int, r.length = m → ∀ i, i ≤ pv.length → dotL r (solV rows col m f pv i).1 = r[col]?.getD 0 * f - sumN i (fun l => r[c l]?.getD 0 * ent ps l col) := by
    intro r hr i hi
    induction i with
    | zero =>
      show dotL r ((List.replicate m 0).set col f) = _ - 0
      rw [dot_set r _ col f (by omega) (by simpa using hc), dot_zero, hcf]; grind
    | succ i ih =>
      rw [hset i (by omega), dot_set r _ _ _ (by have := hck i (by omega); omega) (by rw [hl]; exact hck i (by omega)), hnext i (by omega), ih (by omega)]
      show _ = _ - (r[c i]?.getD 0 * ent ps i col + sumN i _)
      grind
  have hkill : ∀ r ∈ M, dotL r (solV rows col m f pv pv.length).1 = 0 := fun r hr => by
    have hr2 := (hmem r).2 hr
    obtain ⟨t, ht, rfl⟩ := List.getElem_of_mem hr2
    rw [hdot _ (hW _ ((hmem _).1 (List.getElem_mem ht))) _ (Nat.le_refl _)]
    have ho : ∀ j, os[t][j]?.getD 0 = ov os t j := fun j => by unfold ov; rw [List.getElem?_eq_getElem ht]; rfl
    have hy : Y (ov os) c pv.length t col = 0 := by
      by_cases h1 : t < pv.length
      · exact Y_in _ _ _ h1
      · rw [← hhigh t (by omega) ht col hc]; exact hzero t (by omega) ht col hc
    rw [Y_eq] at hy
    rw [ho, hfac, sumN_congr (g := fun l => ov os t (c l) * X (ov os) c pv.length l col) (fun l hl => by rw [ho, hlow l hl col hc])]
    exact hy
  -- the divisor
  have hgcd : ∀ i, i ≤ pv.length → ∀ d, d ∣ (solV rows col m f pv i).2 ↔ ∀ y ∈ (solV rows col m f pv i).1, d ∣ y.natAbs := by
    intro i hi d
    induction i with
    | zero =>
      show d ∣ f.natAbs ↔ ∀ y ∈ (List.replicate m 0).set col f, d ∣ y.natAbs
      rw [set_dvd (by simpa using hc) hcf]
      constructor
      · intro h; exact ⟨fun y hy => by rw [List.eq_of_mem_replicate hy]; exact Nat.dvd_zero _, h⟩
      · exact fun h => h.2
    | succ i ih =>
      rw [hset i (by omega), set_dvd (by rw [hl]; exact hck i (by omega)) (hnext i (by omega)), ← ih (by omega)]
      show d ∣ Nat.gcd (solV rows col m f pv i).2 (-(((rows[i]?.getD []))[col]?.getD 0)).natAbs ↔ _
      rw [hE, Nat.dvd_gcd_iff]
  have hg0 : (solV rows col m f pv pv.length).2 ≠ 0 := by
    intro e
    have := solV_div rows col m f pv pv.length
    rw [e] at this
    have := Nat.eq_zero_of_zero_dvd this
    omega
  generalize hu : (solV rows col m f pv pv.length).1 = u at *
  have hgU := hgcd _ (Nat.le_refl _)
  rw [hu] at hgU
  generalize hg : (solV rows col m f pv pv.length).2 = g at *
  have hul : u.length = m := by rw [← hu]; exact hl _
  obtain ⟨k, hk⟩ : ∃ k, f.sign * (g : Int) = k := ⟨_, rfl⟩
  have hsg : f.sign.natAbs = 1 := by
    rcases Int.lt_trichotomy f 0 with h | h | h
    · rw [Int.sign_eq_neg_one_of_neg h]; rfl
    · exact absurd h hne
    · rw [Int.sign_eq_one_of_pos h]; rfl
  have hka : k.natAbs = g := by rw [← hk, Int.natAbs_mul, hsg]; simp
  have hk0 : k ≠ 0 := by omega
  have hend : solEnd rows col m f pv = u.map (fun x => x.tdiv k) := by
    unfold solEnd; rw [hu, hg, hk]
  have hdiv : ∀ x ∈ u, x.tdiv k * k = x := fun x hx => by
    refine Int.tdiv_mul_cancel ?_
    rw [← Int.natAbs_dvd_natAbs, hka]
    exact (hgU g).1 (Nat.dvd_refl _) x hx
  have hback : (u.map (fun x => x.tdiv k)).map (fun x => x * k) = u := by
    rw [List.map_map]
    conv => rhs; rw [← List.map_id u]
    exact List.map_congr_left (fun x hx => hdiv x hx)
  have hval2 : ∀ j, (u.map (fun x => x.tdiv k))[j]?.getD 0 * k = u[j]?.getD 0 := fun j => by
    rw [List.getElem?_map]
    cases hj : u[j]? with
    | none => simp
    | some x => exact hdiv x (List.mem_of_getElem? hj)
  rw [hend]
  have hc1 := hval2 col
  rw [hcol] at hc1
  refine ⟨by rw [List.length_map]; exact hul, fun r hr => ?_, ?_, ?_, ?_, ?_, ?_⟩
  · have h1 := dot_mul k r (u.map (fun x => x.tdiv k))
    rw [hback, hkill r hr] at h1
    rcases Int.mul_eq_zero.1 h1.symm with h2 | h2
    · exact h2
    · exact absurd h2 hk0
  · have h1 : ∀ d, d ∣ gcdF 0 (u.map (fun x => x.tdiv k)) → d = 1 := fun d hd => by
      have h2 := ((gcdF_dvd d _ 0).1 hd).2
      have h3 : d * g ∣ g := (hgU (d * g)).2 (fun y hy => by
        rw [← hdiv y hy, Int.natAbs_mul, hka]
        exact Nat.mul_dvd_mul_right (h2 _ (List.mem_map_of_mem hy)) g)
      have h4 : d * g ≤ 1 * g := by rw [Nat.one_mul]; exact Nat.le_of_dvd (by omega) h3
      have h5 := Nat.le_of_mul_le_mul_right h4 (by omega)
      have h6 : d ≠ 0 := by
        rintro rfl
        rw [Nat.zero_mul] at h3
        have := Nat.eq_zero_of_zero_dvd h3
        omega
      omega
    exact h1 _ (Nat.dvd_refl _)
  · rcases Int.lt_trichotomy f 0 with h | h | h
    · rw [Int.sign_eq_neg_one_of_neg h] at hk
      by_cases h0 : 0 < (u.map (fun x => x.tdiv k))[col]?.getD 0
      · exact h0
      · have : 0 ≤ (u.map (fun x => x.tdiv k))[col]?.getD 0 * k := Int.mul_nonneg_of_nonpos_of_nonpos (by omega) (by omega)
        omega
    · omega
    · rw [Int.sign_eq_one_of_pos h] at hk
      by_cases h0 : 0 < (u.map (fun x => x.tdiv k))[col]?.getD 0
      · exact h0
      · have : (u.map (fun x => x.tdiv k))[col]?.getD 0 * k ≤ 0 := Int.mul_nonpos_of_nonpos_of_nonneg (by omega) (by omega)
        omega
  · intro B hB1 hB2 x hx
    obtain ⟨y, hy, rfl⟩ := List.mem_map.1 hx
    have h1 : (y.tdiv k).natAbs ≤ y.natAbs := by rw [Int.natAbs_tdiv]; exact Nat.div_le_self _ _
    have h2 : y.natAbs ≤ B := by
      obtain ⟨j, hj, rfl⟩ := List.getElem_of_mem hy
      have e : u[j] = u[j]?.getD 0 := by rw [List.getElem?_eq_getElem hj]; rfl
      rw [e]
      by_cases h3 : j = col
      · subst h3; rw [hcol]; exact hB1
      · by_cases h4 : ∃ l, l < pv.length ∧ c l = j
        · obtain ⟨l, h5, rfl⟩ := h4
          have := hval _ (Nat.le_refl _) l h5
          rw [hu] at this
          rw [this, Int.natAbs_neg]; exact hB2 l h5
        · have := hat _ (Nat.le_refl _) j
          rw [hu, if_neg h3, if_neg h4] at this
          rw [this]; exact Nat.zero_le _
    omega
  · intro j h3 h4
    have := hat _ (Nat.le_refl _) j
    rw [hu, if_neg h3, if_neg (by rintro ⟨l, h5, h6⟩; exact h4 l h5 h6)] at this
    have h1 := hval2 j
    rw [this] at h1
    rcases Int.mul_eq_zero.1 h1 with h2 | h2
    · exact h2
    · exact absurd h2 hk0
  · intro l hl'
    have h1 := hval2 (c l)
    have h2 := hval _ (Nat.le_refl _) l hl'
    rw [hu] at h2
    rw [h2] at h1
    rw [← hc1]
    grind
theorem kerN_spec {M : List (List Int)} {m : Nat} {s : RSt} {os : List (List Int)} {c : Nat → Nat} (h : BInv M m m s os c) : ∀ C, C ≤ m →
    (kerN (s.1.map Prod.snd) m s.2.2 s.2.1 C).1 ≤ s.2.1.length ∧ (∀ l, l < (kerN (s.1.map Prod.snd) m s.2.2 s.2.1 C).1 → c l < C) ∧ (∀ l, (kerN (s.1.map Prod.snd) m s.2.2 s.2.1 C).1 ≤ l → l < s.2.1.length → C ≤ c l) ∧
    (kerN (s.1.map Prod.snd) m s.2.2 s.2.1 C).2.length + (kerN (s.1.map Prod.snd) m s.2.2 s.2.1 C).1 = C ∧
    ∀ v ∈ (kerN (s.1.map Prod.snd) m s.2.2 s.2.1 C).2, ∃ col, col < C ∧ (∀ l, l < s.2.1.length → c l ≠ col) ∧ v = solEnd (s.1.map Prod.snd) col m s.2.2 s.2.1
  | 0, _ => by simp [kerN]
  | C + 1, hC => by
    obtain ⟨h1, h2, h3, h4, h5⟩ := kerN_spec h C (by omega)
    generalize hX : kerN (s.1.map Prod.snd) m s.2.2 s.2.1 C = X at *
    obtain ⟨q, L⟩ := X
    dsimp only at *
    unfold kerN
    rw [hX]
    dsimp only
    by_cases hh : q < s.2.1.length ∧ s.2.1[q]?.getD 0 = (C : Int)
    · rw [if_pos hh]
      dsimp only
      have hcq : c q = C := by have := h.piv q hh.1; omega
      refine ⟨by omega, fun l hl => ?_, fun l h6 h7 => ?_, by omega, fun v hv => ?_⟩
      · by_cases e : l = q
        · subst e; omega
        · have := h2 l (by omega); omega
      · have := h.asc q l (by omega) h7; omega
      · obtain ⟨col, h8, h9⟩ := h5 v hv; exact ⟨col, by omega, h9⟩
    · rw [if_neg hh]
      dsimp only
      have hge : ∀ l, q ≤ l → l < s.2.1.length → C + 1 ≤ c l := fun l h6 h7 => by
        have h8 := h3 l h6 h7
        by_cases e : c l = C
        · exfalso
          by_cases e2 : l = q
          · subst e2; exact hh ⟨h7, by have := h.piv l h7; omega⟩
          · have := h.asc q l (by omega) h7
            have := h3 q (Nat.le_refl _) (by omega)
            omega
        · omega
      refine ⟨h1, fun l hl => by have := h2 l hl; omega, hge, by simp; omega, fun v hv => ?_⟩
      rcases List.mem_append.1 hv with hv | hv
      · obtain ⟨col, h8, h9⟩ := h5 v hv; exact ⟨col, by omega, h9⟩
      · refine ⟨C, by omega, fun l hl e => ?_, List.mem_singleton.1 hv⟩
        by_cases h6 : q ≤ l
        · have := hge l h6 hl; omega
        · have := h2 l (by omega); omega
/-- A vector of the kernel. -/
structure KerV (M : List (List Int)) (m : Nat) (v : List Int) : Prop where
  len : v.length = m
  kills : ∀ r ∈ M, dotL r v = 0
  prim : gcdF 0 v = 1
  some : ∃ j : Nat, v[j]?.getD 0 ≠ 0
theorem ker_count {M : List (List Int)} {m : Nat} {s : RSt} {os : List (List Int)} {c : Nat → Nat} (h : BInv M m m s os c) : (kerOf s m).length + s.2.1.length = m := by
  obtain ⟨h1, h2, h3, h4, h5⟩ := kerN_spec h m (Nat.le_refl _)
  unfold kerOf
  have : (kerN (s.1.map Prod.snd) m s.2.2 s.2.1 m).1 = s.2.1.length := by
    by_cases e : (kerN (s.1.map Prod.snd) m s.2.2 s.2.1 m).1 = s.2.1.length
    · exact e
    · have := h3 _ (Nat.le_refl _) (by omega)
      have := h.ck _ (show (kerN (s.1.map Prod.snd) m s.2.2 s.2.1 m).1 < s.2.1.length by omega)
      omega
  omega
theorem ker_vec {M : List (List Int)} {m : Nat} {s : RSt} {os : List (List Int)} {c : Nat → Nat} (h : BInv M m m s os c) (hW : ∀ r ∈ M, r.length = m) : ∀ v ∈ kerOf s m, KerV M m v := by
  intro v hv
  obtain ⟨-, -, -, -, h5⟩ := kerN_spec h m (Nat.le_refl _)
  obtain ⟨col, h6, h7, rfl⟩ := h5 v hv
  have hs := sol_any h hW h6 h7
  exact ⟨hs.len, hs.kills, hs.prim, col, by have := hs.pos; omega⟩
theorem ker_bd {M : List (List Int)} {m : Nat} {s : RSt} {os : List (List Int)} {c : Nat → Nat} (h : BInv M m m s os c) (hW : ∀ r ∈ M, r.length = m) (hM : ∀ r ∈ M, ∀ x ∈ r, x.natAbs ≤ 16) (h6 : M.length ≤ 6 ∨ m ≤ 6) : ∀ v ∈ kerOf s m, ∀ x ∈ v, x.natAbs ≤ 12079595520 := by
  intro v hv
  obtain ⟨-, -, -, -, h5⟩ := kerN_spec h m (Nat.le_refl _)
  obtain ⟨col, h8, h7, rfl⟩ := h5 v hv
  have he := h.end_bd hM h6
  have hs := sol_any h hW h8 h7
  refine hs.bd _ he.1 (fun l hl => ?_)
  have hll : l < s.1.length := by have := h.ple; have := h.len; omega
  rw [ent_row hll]
  have hcl : col < s.1[l].2.length := by have := h.wide _ (List.getElem_mem hll); omega
  rw [List.getElem?_eq_getElem hcl]
  exact he.2 _ (List.getElem_mem hll) _ (List.getElem_mem hcl)
end Go.Proofs.YtpnghgihepnepaaDoor
