/- More mathematics of the laws of stage 12. -/
import Derived.Test.YtgcfafjgaifmiaaEq
namespace Go.Proofs.Ytgcfafjgaifmiaa
open Go.RowKit
set_option linter.unusedVariables false

theorem filt_at {α : Type} {P : α → Bool} {l : List α} {k : Nat} (hk : k < l.length) (hp : P l[k] = true) : ((l.take (k + 1)).filter P).length = ((l.take k).filter P).length + 1 ∧ (l.filter P)[((l.take k).filter P).length]? = some l[k] := by
  have e : l.filter P = (l.take k).filter P ++ l[k] :: (l.drop (k + 1)).filter P := by
    conv => lhs; rw [← List.take_append_drop k l, List.drop_eq_getElem_cons hk]
    rw [List.filter_append, List.filter_cons, if_pos hp]
  refine ⟨?_, ?_⟩
  · rw [List.take_succ_eq_append_getElem hk, List.filter_append, List.length_append, List.filter_cons, if_pos hp]; rfl
  · rw [e, List.getElem?_append_right (Nat.le_refl _), Nat.sub_self]; rfl
theorem filt_skip {α : Type} {P : α → Bool} {l : List α} {k : Nat} (hk : k < l.length) (hp : P l[k] = false) : ((l.take (k + 1)).filter P).length = ((l.take k).filter P).length := by
  rw [List.take_succ_eq_append_getElem hk, List.filter_append, List.length_append, List.filter_cons, if_neg (by rw [hp]; decide)]; rfl
/-- How many of the first k rows have a sum of at most n. -/
def cntL (n : Nat) (l : List (List Int)) (k : Nat) : Nat := ((l.take k).filter (fun x => decide (sumI x ≤ (n : Int)))).length
theorem cnt_at {qs rs : List Row} {good : List Int → Bool} {c n : Nat} (hq : qs.map Prod.snd = minL good (vecs c n)) (hr : rs.map Prod.snd = minL good (vecs c (n + 1))) {k : Nat} (hk : k < rs.length) (hs : sumI rs[k].2 ≤ (n : Int)) :
    cntL n (rs.map Prod.snd) (k + 1) = cntL n (rs.map Prod.snd) k + 1 ∧ ∃ h : cntL n (rs.map Prod.snd) k < qs.length, qs[cntL n (rs.map Prod.snd) k].2 = rs[k].2 := by
  have hk' : k < (rs.map Prod.snd).length := by simpa using hk
  have hp : (fun x => decide (sumI x ≤ (n : Int))) (rs.map Prod.snd)[k] = true := by simpa using hs
  obtain ⟨h1, h2⟩ := filt_at (P := fun x => decide (sumI x ≤ (n : Int))) hk' hp
  refine ⟨h1, ?_⟩
  have e := min_more (good := good) (c := c) (n := n)
  rw [← hr, ← hq] at e
  rw [e] at h2
  obtain ⟨h3, h4⟩ := List.getElem?_eq_some_iff.1 h2
  refine ⟨by simpa [cntL] using h3, ?_⟩
  simpa [cntL] using h4
theorem cnt_skip {rs : List Row} {n k : Nat} (hk : k < rs.length) (hs : ¬ sumI rs[k].2 ≤ (n : Int)) : cntL n (rs.map Prod.snd) (k + 1) = cntL n (rs.map Prod.snd) k := by
  have hk' : k < (rs.map Prod.snd).length := by simpa using hk
  exact filt_skip (P := fun x => decide (sumI x ≤ (n : Int))) hk' (by simpa using hs)
theorem cnt_end {qs rs : List Row} {good : List Int → Bool} {c n : Nat} (hq : qs.map Prod.snd = minL good (vecs c n)) (hr : rs.map Prod.snd = minL good (vecs c (n + 1))) : cntL n (rs.map Prod.snd) rs.length = qs.length := by
  have e := min_more (good := good) (c := c) (n := n)
  rw [← hr, ← hq] at e
  unfold cntL
  rw [List.take_of_length_le (by simp), e, List.length_map]
theorem cnt_le {rs : List Row} {n k : Nat} : cntL n (rs.map Prod.snd) k ≤ k := by
  unfold cntL
  exact Nat.le_trans (List.length_filter_le _ _) (List.length_take_le _ _)
end Go.Proofs.Ytgcfafjgaifmiaa
