/- reduce. -/
import Derived.Test.YtpnghgihepnepaaNf
import Derived.BigRegion
import Derived.StillTailTactics
import Derived.Test.YtpnghgihepnepaaXc
namespace Go.Proofs.Ytpnghgihepnepaa
open Go.RowKit
set_option linter.unusedVariables false

theorem app_ints2 {ops : Array Oper} {rest : List Oper} {o : Oper} {a : Act} {w : World} {Q : Exit → Act → World → Prop} (hgd : o.guard = none) (s x : Operand)
    (ho : o.op = .call { callee := .builtin .append, args := #[s, x], argTypes := #[22, 22] }) (base : Nat) (v : Value) (xs : List Int) (hs : a.eval s = v)
    (hown : OwnI w base v xs) (u : Value) (ys : List Int) (hx : a.eval x = u) (hu : Ints w u ys) (hlen : xs.length + ys.length ≤ 1000000000000) (hbase : base ≤ w.heap.size)
    (h : ∀ a' n' c' w', n' = (xs ++ ys).length → OwnI w' base (.slice a' n' c') (xs ++ ys) → w.grownBy w' v.ownBlock → wpList Try.prog ops Q rest (a.put o.dst (.slice a' n' c')) w') : wpList Try.prog ops Q (o :: rest) a w :=
  wpList_plain hgd fun _ hK => wp_app_ints s x ho base v xs hs hown u ys hx hu hlen hbase fun a' n' c' w' e1 e2 e3 => hK _ _ (h a' n' c' w' e1 e2 e3)
def rowN : Row := (.slice none 0 0, [])
def hit (ps : List Row) (c i : Nat) : Bool := (ps[i]?.getD rowN).2[c]?.getD 0 != 0
def findHit (ps : List Row) (c : Nat) : Nat → Nat → Option Nat
  | 0, _ => none
  | n + 1, i => if hit ps c i then some i else findHit ps c n (i + 1)
def swapT (ps : List Row) (k i : Nat) : List Row := (ps.set k (ps[i]?.getD rowN)).set i (ps[k]?.getD rowN)
theorem swapT_eq {ps : List Row} {k i : Nat} (hk : k < ps.length) (hi : i < ps.length) : swapT ps k i = swapP ps k i hk hi := by
  unfold swapT swapP
  rw [List.getElem?_eq_getElem hk, List.getElem?_eq_getElem hi]; rfl
abbrev RSt := List Row × List Int × Int
def topOf (c i : Nat) (s : RSt) : List Int := ((swapT s.1 s.2.1.length i)[s.2.1.length]?.getD rowN).2
def redStep (c : Nat) (s : RSt) : RSt :=
  match findHit s.1 c (s.1.length - s.2.1.length) s.2.1.length with
  | none => s
  | some i => (elimP ((topOf c i s)[c]?.getD 0) s.2.2 c s.2.1.length (topOf c i s) (swapT s.1 s.2.1.length i), s.2.1 ++ [(c : Int)], (topOf c i s)[c]?.getD 0)
def redN (s : RSt) : Nat → RSt
  | 0 => s
  | k + 1 => redStep k (redN s k)
def FitS (c : Nat) (s : RSt) : Prop := ∀ i, findHit s.1 c (s.1.length - s.2.1.length) s.2.1.length = some i → ∀ t (ht : t < (swapT s.1 s.2.1.length i).length), t ≠ s.2.1.length → FitE ((topOf c i s)[c]?.getD 0) s.2.2 c (topOf c i s) (swapT s.1 s.2.1.length i)[t].2
theorem elimP_len (lead f : Int) (c k : Nat) (top : List Int) (ps : List Row) : (elimP lead f c k top ps).length = ps.length := rowsE_len _ _ _ _ _
theorem elimP_row {lead f : Int} {c k m : Nat} {top : List Int} {ps : List Row} (ht : top.length = m) (hm : ∀ q ∈ ps, q.2.length = m) : ∀ q ∈ elimP lead f c k top ps, q.2.length = m := by
  intro q hq
  obtain ⟨t, h1, rfl⟩ := List.getElem_of_mem hq
  unfold elimP at h1 ⊢
  rw [rowsE_len] at h1
  have hl := hm _ (List.getElem_mem h1)
  rw [rowsE_at]
  dsimp only
  have e : ∀ row : List Int, row.length = m → (elimRow lead (row[c]?.getD 0) f row top).length = m := fun row hr => by rw [elimRow_len (by rw [hr, ht]), hr]
  split
  · exact hl
  · first | exact e _ hl | (rw [if_pos h1]; exact e _ hl)
/-- What stays true in the whole of it. -/
structure RInv (n m : Nat) (s : RSt) : Prop where
  rows : s.1.length = n
  wide : ∀ q ∈ s.1, q.2.length = m
  piv : s.2.1.length ≤ n
  fac : s.2.2 ≠ 0
theorem findHit_some {ps : List Row} {c : Nat} : ∀ {n i k}, findHit ps c n i = some k → i ≤ k ∧ k < i + n ∧ hit ps c k = true := by
  intro n
  induction n with
  | zero => intro i k h; simp [findHit] at h
  | succ n ih =>
    intro i k h
    unfold findHit at h
    split at h
    · cases h; rename_i e; exact ⟨Nat.le_refl _, by omega, e⟩
    · obtain ⟨h1, h2, h3⟩ := ih h
      exact ⟨by omega, by omega, h3⟩
theorem swapT_len (ps : List Row) (k i : Nat) : (swapT ps k i).length = ps.length := by unfold swapT; simp
theorem top_is {ps : List Row} {c i k : Nat} {pv : List Int} {f : Int} (hk : pv.length < ps.length) (hi : i < ps.length) : topOf c i (ps, pv, f) = ps[i].2 := by
  unfold topOf
  dsimp only
  rw [swapT_eq hk hi, List.getElem?_eq_getElem (by rw [swapP_len]; exact hk), swapP_at]
  by_cases e : pv.length = i
  · subst e; simp
  · rw [if_neg e, if_pos rfl]; rfl
theorem RInv.step {n m c : Nat} {s : RSt} (h : RInv n m s) : RInv n m (redStep c s) := by
  obtain ⟨ps, pv, f⟩ := s
  obtain ⟨h1, h2, h3, h4⟩ := h
  dsimp only at h1 h2 h3 h4
  unfold redStep
  dsimp only
  split
  · exact ⟨h1, h2, h3, h4⟩
  · rename_i i e
    obtain ⟨e1, e2, e3⟩ := findHit_some e
    have hk : pv.length < ps.length := by omega
    have hi : i < ps.length := by omega
    have ht := top_is (c := c) (k := 0) (f := f) hk hi
    refine ⟨?_, ?_, ?_, ?_⟩
    · dsimp only; rw [elimP_len, swapT_len, h1]
    · dsimp only
      refine elimP_row (by rw [ht]; exact h2 _ (List.getElem_mem hi)) (fun q hq => ?_)
      rw [swapT_eq hk hi] at hq
      exact h2 q (swapP_mem hq)
    · dsimp only; rw [List.length_append, List.length_singleton]; omega
    · dsimp only
      rw [ht]
      unfold hit at e3
      rw [List.getElem?_eq_getElem hi] at e3
      simpa using e3

end Go.Proofs.Ytpnghgihepnepaa
