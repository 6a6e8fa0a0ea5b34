/- The reference's list of kernel vectors is the program's. -/
import Derived.Test.YtpnghgihepnepaaBp
namespace Go.Proofs.Ytpnghgihepnepaa
open Go.RowKit
set_option linter.unusedVariables false

def plL (R : List (List Int)) (P : List Int) (l : Nat) : Int := (R[l]?.getD [])[(P[l]?.getD 0).toNat]?.getD 0
def xlL (R : List (List Int)) (col l : Nat) : Int := (R[l]?.getD [])[col]?.getD 0
def posL (P : List Int) (l : Nat) : Nat := (P[l]?.getD 0).toNat
def rvecL (R : List (List Int)) (P : List Int) (m col : Nat) : List Int := primL (vecV m col (posL P) (scaleN (plL R P) (xlL R col) P.length) (plL R P) (xlL R col) P.length)
def kerL (R : List (List Int)) (P : List Int) (m : Nat) : Nat → List (List Int)
  | 0 => []
  | c + 1 => if (c : Int) ∈ P then kerL R P m c else kerL R P m c ++ [rvecL R P m c]
theorem vecV_congr {m col : Nat} {c c' : Nat → Nat} (s : Nat) (pl xl : Nat → Int) : ∀ i, (∀ l, l < i → c l = c' l) → vecV m col c s pl xl i = vecV m col c' s pl xl i
  | 0, _ => rfl
  | i + 1, h => by
    unfold vecV
    rw [vecV_congr s pl xl i (fun l hl => h l (by omega)), h i (by omega)]
theorem BInv.own {M : List (List Int)} {m k : Nat} {s : RSt} {os : List (List Int)} {c : Nat → Nat} (h : BInv M m k s os c) (hk : k ≤ m) {l : Nat} (hl : l < s.2.1.length) : ent s.1 l (c l) = s.2.2 := by
  rw [h.low l hl (c l) (by have := h.ck l hl; omega), h.fac]
  unfold Bar.X Bar.D
  have e : Bar.upd c l (c l) = c := by
    funext t
    unfold Bar.upd
    split
    · rename_i e; rw [e]
    · rfl
  rw [e]
theorem rvec_eq {M : List (List Int)} {m col : Nat} {l : LSt} {s : RSt} {os : List (List Int)} {c : Nat → Nat} (hR : RelR m l s) (hB : BInv M m m s os c) (hW : ∀ r ∈ M, r.length = m) (hc : col < m) (hn : ∀ t, t < s.2.1.length → c t ≠ col) :
    rvecL l.1 l.2 m col = solEnd (s.1.map Prod.snd) col m s.2.2 s.2.1 := by
  have hs := sol_any hB hW hc hn
  have hp : ∀ t, t < s.2.1.length → posL l.2 t = c t := fun t ht => by
    unfold posL
    rw [hR.piv, hB.piv t ht]; simp
  have hple : s.2.1.length ≤ s.1.length := by have := hB.ple; have := hB.len; omega
  unfold rvecL
  rw [hR.piv] at hp ⊢
  rw [vecV_congr (c' := c) _ _ _ _ hp]
  refine vec_sol hs hB.ne hc (fun t ht => hB.ck t ht) hn (fun a b ha hb e => ?_) (fun t ht => ?_) (fun t ht => ?_)
  · rcases Nat.lt_trichotomy a b with h | h | h
    · have := hB.asc a b h hb; omega
    · exact h
    · have := hB.asc b a h ha; omega
  · have := hR.pos t ht
    unfold plL
    exact this
  · have hr := hR.row t (by omega)
    obtain ⟨μ, -, hμ⟩ := hr.mul
    have h1 := hB.own (Nat.le_refl _) ht
    have h2 : ent s.1 t col = (l.1[t]?.getD [])[col]?.getD 0 * μ := hμ col
    have h3 : ent s.1 t (c t) = (l.1[t]?.getD [])[c t]?.getD 0 * μ := hμ (c t)
    unfold plL xlL
    rw [hB.piv t ht, Int.toNat_natCast, h2, ← h1, h3]
    grind
theorem kerL_eq {M : List (List Int)} {m : Nat} {l : LSt} {s : RSt} {os : List (List Int)} {c : Nat → Nat} (hR : RelR m l s) (hB : BInv M m m s os c) (hW : ∀ r ∈ M, r.length = m) : ∀ k, k ≤ m → kerL l.1 l.2 m k = (kerN (s.1.map Prod.snd) m s.2.2 s.2.1 k).2
  | 0, _ => rfl
  | k + 1, hk => by
    have ih := kerL_eq hR hB hW k (by omega)
    obtain ⟨h1, h2, h3, -, -⟩ := kerN_spec hB k (by omega)
    have hmem : (k : Int) ∈ l.2 ↔ (kerN (s.1.map Prod.snd) m s.2.2 s.2.1 k).1 < s.2.1.length ∧ s.2.1[(kerN (s.1.map Prod.snd) m s.2.2 s.2.1 k).1]?.getD 0 = (k : Int) := by
      rw [hR.piv]
      constructor
      · intro h
        obtain ⟨t, ht, e⟩ := List.mem_iff_getElem.1 h
        have hpt := hB.piv t ht
        rw [List.getElem?_eq_getElem ht] at hpt
        simp only [Option.getD_some] at hpt
        have hct : c t = k := by omega
        have hq : (kerN (s.1.map Prod.snd) m s.2.2 s.2.1 k).1 ≤ t := by
          by_cases e2 : t < (kerN (s.1.map Prod.snd) m s.2.2 s.2.1 k).1
          · have := h2 t e2; omega
          · omega
        have hq2 : (kerN (s.1.map Prod.snd) m s.2.2 s.2.1 k).1 = t := by
          by_cases e2 : (kerN (s.1.map Prod.snd) m s.2.2 s.2.1 k).1 = t
          · exact e2
          · have a1 := h3 _ (Nat.le_refl _) (show (kerN (s.1.map Prod.snd) m s.2.2 s.2.1 k).1 < s.2.1.length by omega)
            have a2 := hB.asc _ t (show (kerN (s.1.map Prod.snd) m s.2.2 s.2.1 k).1 < t by omega) ht
            omega
        rw [hq2]
        exact ⟨ht, by rw [hB.piv t ht, hct]⟩
      · rintro ⟨a1, a2⟩
        rw [List.getElem?_eq_getElem a1] at a2
        rw [← a2]
        exact List.getElem_mem a1
    unfold kerL kerN
    by_cases e : (k : Int) ∈ l.2
    · rw [if_pos e, if_pos (hmem.1 e)]; exact ih
    · rw [if_neg e, if_neg (fun h => e (hmem.2 h)), ih]
      dsimp only
      rw [rvec_eq hR hB hW (by omega) (fun t ht e2 => e (by
        rw [hR.piv]
        have hpt := hB.piv t ht
        rw [List.getElem?_eq_getElem ht] at hpt
        simp only [Option.getD_some] at hpt
        rw [← e2, ← hpt]
        exact List.getElem_mem ht))]
end Go.Proofs.Ytpnghgihepnepaa
