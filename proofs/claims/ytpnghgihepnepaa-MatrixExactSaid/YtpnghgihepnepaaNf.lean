/- Rows copied, rows exchanged. -/
import Derived.Test.YtpnghgihepnepaaNe
namespace Go.Proofs.Ytpnghgihepnepaa
open Go.RowKit
set_option linter.unusedVariables false

/-- One row more, ahead of any pivots. -/
theorem RedS.row {W0 w w1 : World} {R : Nat} {v v1 : Value} {f : Int} {ps : List Row} {q : Row} (h : RedS W0 w R v (.slice none 0 0) f ps []) (hq : OwnI w (R + 1) q.1 q.2) (hqb : ∀ x ∈ q.2, -9223372036854775808 ≤ x ∧ x ≤ 9223372036854775807)
    (hd : ∀ g, q.1.ownBlock = some g → v.ownBlock ≠ some g ∧ ∀ p ∈ ps, p.1.ownBlock ≠ some g)
    (ho : w1.ownsRow (R + 1) 22 1 v1 (ps.length + 1) (ps.map Prod.fst ++ [q.1])) (hg : w.grownBy w1 v.ownBlock) {H : Nat} (hb : ∀ g, v1.ownBlock = some g → v.ownBlock = some g ∨ H ≤ g) (hH : w.heap.size = H) :
    RedS W0 (w1.setCell ⟨R, 0, none⟩ v1) R v1 (.slice none 0 0) f (ps ++ [q]) [] ∧ w1.heap[R]? = some (.cells #[v, .slice none 0 0, .int .i64 f] 54 (0, 0)) := by
  subst hH
  have hR := (Array.getElem?_eq_some_iff.1 h.blk).1
  have hvb : ∀ j, v.ownBlock = some j → R + 1 ≤ j := fun j hj => (h.mat.own.fresh j hj).1
  have hb1 : w1.heap[R]? = some (.cells #[v, .slice none 0 0, .int .i64 f] 54 (0, 0)) := (hg.block R hR (fun e => by have := hvb R e.symm; omega)).trans h.blk
  have hop : OwnP w1 (R + 1) v1 (ps ++ [q]) := by
    refine ⟨by simpa using ho, fun p hp => ?_⟩
    have hp2 : RowOk w p ∧ (∀ g, p.1.ownBlock = some g → v.ownBlock ≠ some g) ∧ ∀ g, p.1.ownBlock = some g → g < w.heap.size := by
      rcases List.mem_append.1 hp with hp | hp
      · exact ⟨(h.mat.own.2 p hp).1, (h.mat.own.2 p hp).2, fun g e => ((h.mat.rows p hp).fresh g e).2⟩
      · rw [List.mem_singleton.1 hp]; exact ⟨hq.row hqb, fun g e => (hd g e).1, fun g e => (hq.fresh g e).2⟩
    refine ⟨hp2.1.kept hg (fun k hk e => hp2.2.1 k e hk), fun g e e2 => ?_⟩
    rcases hb g e2 with h3 | h3
    · exact hp2.2.1 g e h3
    · have := hp2.2.2 g e; omega
  have hm := MatO.push h.mat hq hd hop hg
  have hgr : w1.grownBy (w1.setCell ⟨R, 0, none⟩ v1) (some R) := grown_set w1 _ _
  exact ⟨⟨heap_set (o := 0) hb1 _, h.base, grown_then (grown_then h.grow hg (fun j hj => .inl (by have := hvb j hj; have := h.base; omega))) hgr (by rintro j ⟨⟩; exact .inl h.base), hm.kept hgr (by rintro j ⟨⟩; omega), RowBy.nil _ _ _ _⟩, hb1⟩
def swapP {α : Type} (ps : List α) (k i : Nat) (hk : k < ps.length) (hi : i < ps.length) : List α := (ps.set k ps[i]).set i ps[k]
theorem swapP_len {α : Type} (ps : List α) (k i : Nat) (hk : k < ps.length) (hi : i < ps.length) : (swapP ps k i hk hi).length = ps.length := by unfold swapP; simp
theorem swapP_at {α : Type} (ps : List α) (k i : Nat) (hk : k < ps.length) (hi : i < ps.length) (t : Nat) (ht : t < (swapP ps k i hk hi).length) : (swapP ps k i hk hi)[t] = if t = i then ps[k] else if t = k then ps[i] else ps[t]'(by rw [swapP_len] at ht; exact ht) := by
  have ht2 : t < ((ps.set k ps[i]).set i ps[k]).length := ht
  show ((ps.set k ps[i]).set i ps[k])[t]'ht2 = _
  rw [List.getElem_set]
  by_cases h1 : i = t
  · rw [if_pos h1, if_pos h1.symm]
  · rw [if_neg h1, if_neg (fun h : t = i => h1 h.symm), List.getElem_set]
    by_cases h2 : k = t
    · rw [if_pos h2, if_pos h2.symm]
    · rw [if_neg h2, if_neg (fun h : t = k => h2 h.symm)]
theorem swapP_mem {α : Type} {ps : List α} {k i : Nat} {hk : k < ps.length} {hi : i < ps.length} {p : α} (h : p ∈ swapP ps k i hk hi) : p ∈ ps := by
  obtain ⟨t, ht, rfl⟩ := List.getElem_of_mem h
  rw [swapP_at]
  split
  · exact List.getElem_mem _
  · split
    · exact List.getElem_mem _
    · exact List.getElem_mem _
theorem MatO.swap {w : World} {base g cap : Nat} {ps : List Row} (h : MatO w base (.slice (some ⟨g, 0, none⟩) ps.length cap) ps) {k i : Nat} (hk : k < ps.length) (hi : i < ps.length) :
    MatO ((w.setCell ⟨g, k, none⟩ ps[i].1).setCell ⟨g, i, none⟩ ps[k].1) base (.slice (some ⟨g, 0, none⟩) ps.length cap) (swapP ps k i hk hi) := by
  have hgr : w.grownBy ((w.setCell ⟨g, k, none⟩ ps[i].1).setCell ⟨g, i, none⟩ ps[k].1) (some g) := grown_trans (grown_set w ⟨g, k, none⟩ ps[i].1) (grown_set _ ⟨g, i, none⟩ ps[k].1)
  have h1 := (World.ownsRow.stored (World.ownsRow.stored h.own.1 k ps[i].1).1 i ps[k].1).1
  have far : ∀ p ∈ ps, ∀ j, some g = some j → p.1.ownBlock ≠ some j := fun p hp j e e2 => (h.own.2 p hp).2 j e2 (by rw [← e]; rfl)
  refine ⟨⟨?_, fun p hp => ?_⟩, fun p hp => ?_, fun a b ha hb hab j e => ?_⟩
  · rw [swapP_len]
    have e2 : (swapP ps k i hk hi).map Prod.fst = ((ps.map Prod.fst).set k ps[i].1).set i ps[k].1 := by unfold swapP; rw [List.map_set, List.map_set]
    rw [e2]
    exact h1
  · have := h.own.2 p (swapP_mem hp)
    exact ⟨this.1.kept hgr (far p (swapP_mem hp)), this.2⟩
  · exact (h.rows p (swapP_mem hp)).keptB hgr (fun j e => far p (swapP_mem hp) j e)
  · have hla : a < ps.length := by rw [swapP_len] at ha; exact ha
    have hlb : b < ps.length := by rw [swapP_len] at hb; exact hb
    rw [swapP_at] at e ⊢
    have key : ∀ x y (hx : x < ps.length) (hy : y < ps.length), x ≠ y → ps[x].1.ownBlock = some j → ps[y].1.ownBlock ≠ some j := fun x y hx hy hxy => h.apart x y hx hy hxy j
    by_cases a1 : a = i
    · rw [if_pos a1] at e
      by_cases b1 : b = i
      · omega
      · rw [if_neg b1]
        by_cases b2 : b = k
        · rw [if_pos b2]; exact key k i hk hi (by omega) e
        · rw [if_neg b2]; exact key k b hk hlb (by omega) e
    · rw [if_neg a1] at e
      by_cases a2 : a = k
      · rw [if_pos a2] at e
        by_cases b1 : b = i
        · rw [if_pos b1]; exact key i k hi hk (by omega) e
        · rw [if_neg b1]
          by_cases b2 : b = k
          · omega
          · rw [if_neg b2]; exact key i b hi hlb (by omega) e
      · rw [if_neg a2] at e
        by_cases b1 : b = i
        · rw [if_pos b1]; exact key a k hla hk (by omega) e
        · rw [if_neg b1]
          by_cases b2 : b = k
          · rw [if_pos b2]; exact key a i hla hi (by omega) e
          · rw [if_neg b2]; exact key a b hla hlb hab e
theorem RedS.swap {W0 w : World} {R g cap : Nat} {vp : Value} {f : Int} {ps : List Row} {pv : List Int} (h : RedS W0 w R (.slice (some ⟨g, 0, none⟩) ps.length cap) vp f ps pv) {k i : Nat} (hk : k < ps.length) (hi : i < ps.length) :
    RedS W0 ((w.setCell ⟨g, k, none⟩ ps[i].1).setCell ⟨g, i, none⟩ ps[k].1) R (.slice (some ⟨g, 0, none⟩) ps.length cap) vp f (swapP ps k i hk hi) pv := by
  have hgr : w.grownBy ((w.setCell ⟨g, k, none⟩ ps[i].1).setCell ⟨g, i, none⟩ ps[k].1) (some g) := grown_trans (grown_set w ⟨g, k, none⟩ ps[i].1) (grown_set _ ⟨g, i, none⟩ ps[k].1)
  have hgb : R + 1 ≤ g := (h.mat.own.fresh g rfl).1
  have hR := (Array.getElem?_eq_some_iff.1 h.blk).1
  refine ⟨(hgr.block R hR (fun e => by cases e; omega)).trans h.blk, h.base, grown_then h.grow hgr (by rintro j ⟨⟩; exact .inl (by have := h.base; omega)), h.mat.swap hk hi, ?_⟩
  exact ⟨h.piv.1.keptB hgr (fun j e e2 => (h.piv.2 j e2).1 (by rw [← e]; rfl)), fun j hj => ⟨(h.piv.2 j hj).1, fun p hp => (h.piv.2 j hj).2 p (swapP_mem hp)⟩⟩

end Go.Proofs.Ytpnghgihepnepaa
