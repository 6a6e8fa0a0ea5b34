/- The reference's fixed: a table in which a row has one column alone. -/
import Derived.Test.YtnppmemcdcgjhaaLd
import Derived.Test.YtnppmemcdcgjhaaHo
namespace Go.Proofs.Ytnppmemcdcgjhaa
open Go.RowKit
set_option linter.unusedVariables false

theorem OwnT.same7 {w w' : World} {base : Nat} {v : Value} {qs : List BRow} (h : OwnT w base v qs) (g : w.grownBy w' none) : OwnT w' base v qs :=
  ⟨h.1.same g, fun q hq => World.ownsRow.kept (h.2.1 q hq) g (by cases q.1.ownBlock <;> simp), h.2.2⟩
theorem OwnT.put {w w2 : World} {M n k : Nat} {v : Value} {R : List Bool} {qs : List BRow} (h : OwnT w M (.slice (some ⟨M, 0, none⟩) n n) qs) (hk : k < qs.length) (hv : OwnB w2 w.heap.size v R) (hg : w.grownBy w2 none) :
    OwnT (w2.setCell ⟨M, k, none⟩ v) M (.slice (some ⟨M, 0, none⟩) n n) (qs.set k (v, R)) := by
  have hM := (h.1.fresh M rfl).2
  have h2 := h.same7 hg
  have hne : ∀ g, v.ownBlock = some g → g ≠ M := fun g hg => by have := (hv.fresh g hg).1; omega
  have hs : w2.grownBy (w2.setCell ⟨M, k, none⟩ v) (some M) := grown_set w2 _ _
  refine ⟨h2.1.stored k (v, R) hv.row hne, fun q hq => ?_, ?_⟩
  · rcases List.mem_or_eq_of_mem_set hq with hq | rfl
    · exact World.ownsRow.kept (h2.2.1 q hq) hs (.inr (fun e => (h2.1.2 q hq).2 _ e rfl))
    · refine (World.ownsRow.kept (OwnB.mono hv (Nat.le_of_lt hM)) hs ?_ : OwnB _ M v R)
      cases hv' : v.ownBlock with
      | none => exact .inl rfl
      | some k => exact .inr (fun e => by cases e; exact hne _ hv' rfl)
  · rw [List.pairwise_iff_getElem]
    intro i j hi hj hij g h1 h3
    rw [List.length_set] at hi hj
    have hold : ∀ x (hx : x < qs.length), ∀ g, (qs[x]).1.ownBlock = some g → g < w.heap.size := fun x hx g hg => ((h.2.1 _ (List.getElem_mem hx)).fresh g hg).2
    rw [List.getElem_set] at h1 h3
    by_cases e1 : k = i
    · rw [if_pos e1] at h1
      rw [if_neg (by omega)] at h3
      have a1 := (hv.fresh g h1).1
      have a2 := hold j hj g h3
      omega
    · rw [if_neg e1] at h1
      by_cases e2 : k = j
      · rw [if_pos e2] at h3
        have a1 := (hv.fresh g h3).1
        have a2 := hold i hi g h1
        omega
      · rw [if_neg e2] at h3
        exact List.pairwise_iff_getElem.1 h.2.2 i j hi hj hij g h1 h3
def fx (row col x j : Nat) : Bool := decide (x = row) == decide (j = col)
/-- The rows before k are made. -/
structure FixI (ps qs : List BRow) (row col k : Nat) : Prop where
  len : qs.length = ps.length
  lens : ∀ x, x < k → ((qs.map Prod.snd)[x]?.getD []).length = ((ps.map Prod.snd)[x]?.getD []).length
  tb_ : ∀ x, x < k → ∀ j, tb (qs.map Prod.snd) x j = (tb (ps.map Prod.snd) x j && fx row col x j)
/-- And row k up to column c. -/
structure FixJ (ps qs : List BRow) (row col k c : Nat) : Prop where
  i : FixI ps qs row col k
  lenk : ((qs.map Prod.snd)[k]?.getD []).length = ((ps.map Prod.snd)[k]?.getD []).length
  tbk : ∀ j, tb (qs.map Prod.snd) k j = (tb (ps.map Prod.snd) k j && (decide (c ≤ j) || fx row col k j))
theorem FixI.row {ps qs : List BRow} {row col k : Nat} (h : FixI ps qs row col k) (hk : k < ps.length) {v : Value} : FixJ ps (qs.set k (v, (ps[k]).2)) row col k 0 := by
  have hkq : k < qs.length := by rw [h.len]; exact hk
  have e : ∀ x, x ≠ k → ((qs.set k (v, (ps[k]).2)).map Prod.snd)[x]? = (qs.map Prod.snd)[x]? := fun x hx => by
    rw [List.map_set, List.getElem?_set_ne (Ne.symm hx)]
  have ek : ((qs.set k (v, (ps[k]).2)).map Prod.snd)[k]? = (ps.map Prod.snd)[k]? := by
    rw [List.map_set, List.getElem?_set_self (by rw [List.length_map]; exact hkq)]
    simp [hk]
  refine ⟨⟨by rw [List.length_set, h.len], fun x hx => by rw [e x (by omega)]; exact h.lens x hx, fun x hx j => ?_⟩, by rw [ek], fun j => ?_⟩
  · have := h.tb_ x hx j
    unfold tb at this ⊢
    rw [e x (by omega)]
    exact this
  · unfold tb
    rw [ek]
    simp
theorem FixJ.skip {ps qs : List BRow} {row col k c : Nat} (h : FixJ ps qs row col k c) (hf : fx row col k c = true) : FixJ ps qs row col k (c + 1) := by
  refine ⟨h.i, h.lenk, fun j => ?_⟩
  rw [h.tbk j]
  by_cases e : j = c
  · subst e; rw [hf]; simp
  · congr 2
    rw [decide_eq_decide]; omega
theorem FixJ.clear {ps qs : List BRow} {row col k c : Nat} (h : FixJ ps qs row col k c) (hk : k < qs.length) (hf : fx row col k c = false) {v : Value} (hv : v = (qs[k]).1) : FixJ ps (qs.set k (v, (qs[k]).2.set c false)) row col k (c + 1) := by
  have e : ∀ x, x ≠ k → ((qs.set k (v, (qs[k]).2.set c false)).map Prod.snd)[x]? = (qs.map Prod.snd)[x]? := fun x hx => by
    rw [List.map_set, List.getElem?_set_ne (Ne.symm hx)]
  have hkm : k < (qs.map Prod.snd).length := by rw [List.length_map]; exact hk
  have hset : (qs.set k (v, (qs[k]).2.set c false)).map Prod.snd = (qs.map Prod.snd).set k (((qs.map Prod.snd)[k]).set c false) := by
    rw [List.map_set]; simp
  refine ⟨⟨by rw [List.length_set, h.i.len], fun x hx => by rw [e x (by omega)]; exact h.i.lens x hx, fun x hx j => ?_⟩, ?_, fun j => ?_⟩
  · have := h.i.tb_ x hx j
    unfold tb at this ⊢
    rw [e x (by omega)]
    exact this
  · rw [← h.lenk, hset, List.getElem?_set_self hkm, List.getElem?_eq_getElem hkm]
    simp
  · rw [hset, tb_set hkm, h.tbk j]
    by_cases ej : j = c
    · subst ej; rw [hf]; simp
    · have : (j == c) = false := by simpa using ej
      rw [this, Bool.and_false, Bool.not_false, Bool.and_true]
      congr 2
      rw [decide_eq_decide]; omega
theorem FixJ.done {ps qs : List BRow} {row col k c : Nat} (h : FixJ ps qs row col k c) (hc : ((ps.map Prod.snd)[k]?.getD []).length ≤ c) : FixI ps qs row col (k + 1) := by
  refine ⟨h.i.len, fun x hx => ?_, fun x hx j => ?_⟩
  · by_cases e : x = k
    · subst e; exact h.lenk
    · exact h.i.lens x (by omega)
  · by_cases e : x = k
    · subst e
      rw [h.tbk j]
      by_cases hj : c ≤ j
      · have : tb (ps.map Prod.snd) x j = false := by
          unfold tb; rw [List.getElem?_eq_none (show ((ps.map Prod.snd)[x]?.getD []).length ≤ j by omega)]; rfl
        rw [this]; simp
      · simp [hj]
    · exact h.i.tb_ x (by omega) j

end Go.Proofs.Ytnppmemcdcgjhaa
