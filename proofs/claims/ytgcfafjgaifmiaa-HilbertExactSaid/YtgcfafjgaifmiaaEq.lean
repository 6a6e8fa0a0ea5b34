/- Mathematics of the laws of stage 12. -/
import Derived.Test.YtgcfafjgaifmiaaEp
namespace Go.Proofs.Ytgcfafjgaifmiaa
open Go.RowKit
set_option linter.unusedVariables false

theorem vecs_nn (c m : Nat) : ∀ v ∈ vecs c m, v.length = c ∧ ∀ z ∈ v, 0 ≤ z := fun v h => ⟨((mem_vecs c m v).1 h).1, ((mem_vecs c m v).1 h).2.1⟩
theorem good_sol {ms : List Row} {bs x : List Int} {cnt : List Int → Bool} (h : goodB ms bs cnt x = true) : solB ms bs x = true := by
  unfold goodB at h
  rw [Bool.and_eq_true] at h
  exact h.1
theorem asc_get {l : List (List Int)} (h : Asc l) {i k : Nat} (hi : i < l.length) (hk : k < l.length) (hne : i ≠ k) : l[i] ≠ l[k] := by
  have key : ∀ {i k : Nat} (hi : i < l.length) (hk : k < l.length), i < k → l[i] ≠ l[k] := by
    intro i k hi hk hlt e
    have := List.pairwise_iff_getElem.1 h i k hi hk hlt
    rw [e, lexI_self] at this
    exact absurd this (by decide)
  rcases Nat.lt_or_ge i k with h1 | h1
  · exact key hi hk h1
  · exact fun e => key hk hi (by omega) e.symm
theorem min_asc (good : List Int → Bool) (c m : Nat) : Asc (minL good (vecs c m)) := List.Pairwise.sublist (minL_all (vecs_nn c m) (vecs_asc c m)).1 (vecs_asc c m)
theorem min_apart {good : List Int → Bool} {c m : Nat} {qs : List Row} (hq : qs.map Prod.snd = minL good (vecs c m)) {i k : Nat} (hi : i < qs.length) (hk : k < qs.length) (hne : i ≠ k) : leqI qs[i].2 qs[k].2 = false := by
  have ha : Asc (qs.map Prod.snd) := hq ▸ min_asc good c m
  have h1 := asc_get ha (i := i) (k := k) (by simpa using hi) (by simpa using hk) hne
  rw [List.getElem_map, List.getElem_map] at h1
  have mi : qs[i].2 ∈ minL good (vecs c m) := hq ▸ List.mem_map_of_mem (List.getElem_mem hi)
  have mk : qs[k].2 ∈ minL good (vecs c m) := hq ▸ List.mem_map_of_mem (List.getElem_mem hk)
  have xi := ((minL_all (good := good) (vecs_nn c m) (vecs_asc c m)).2 _).1 mi
  have xk := ((minL_all (good := good) (vecs_nn c m) (vecs_asc c m)).2 _).1 mk
  cases h : leqI qs[i].2 qs[k].2 with
  | false => rfl
  | true => exact absurd (xk.2.2 _ xi.1 xi.2.1 h) h1
theorem min_below {good : List Int → Bool} {c m : Nat} {x : List Int} {qs : List Row} (hq : qs.map Prod.snd = minL good (vecs c m)) (hx : x.length = c ∧ ∀ z ∈ x, 0 ≤ z) (hs : sumI x ≤ (m : Int)) (hg : good x = true) : qs.any (fun q => leqI q.2 x) = true := by
  have h0 := sumI_nn hx.2
  obtain ⟨y, hy, hyx⟩ := below_min (vecs_nn c m) m x ((mem_vecs c m x).2 ⟨hx.1, hx.2, hs⟩) hg hs
  have := ((minL_all (good := good) (vecs_nn c m) (vecs_asc c m)).2 y).2 hy
  rw [← hq] at this
  obtain ⟨q, hq1, rfl⟩ := List.mem_map.1 this
  exact List.any_eq_true.2 ⟨q, hq1, hyx⟩
theorem sumI_ub {M : Int} : ∀ {l : List Int}, (∀ y ∈ l, y ≤ M) → sumI l ≤ (l.length : Int) * M
  | [], _ => by simp [sumI]
  | a :: l, h => by
    have h0 := sumI_ub (l := l) (fun y hy => h y (by simp [hy]))
    have ha := h a (by simp)
    have e : sumI (a :: l) = a + sumI l := rfl
    rw [e, List.length_cons, show ((l.length + 1 : Nat) : Int) * M = (l.length : Int) * M + M by rw [Int.natCast_add, Int.add_mul]; simp]
    omega
theorem asc_ext {c : Nat} : ∀ {l1 l2 : List (List Int)}, (∀ v ∈ l1, v.length = c) → (∀ v ∈ l2, v.length = c) → Asc l1 → Asc l2 → (∀ x, x ∈ l1 ↔ x ∈ l2) → l1 = l2
  | [], [], _, _, _, _, _ => rfl
  | [], b :: _, _, _, _, _, h => by have := (h b).2 (by simp); simp at this
  | a :: _, [], _, _, _, _, h => by have := (h a).1 (by simp); simp at this
  | a :: t1, b :: t2, n1, n2, h1, h2, h => by
    obtain ⟨g1, g1'⟩ := List.pairwise_cons.1 h1
    obtain ⟨g2, g2'⟩ := List.pairwise_cons.1 h2
    have e : a = b := by
      rcases List.mem_cons.1 ((h a).1 (by simp)) with h3 | h3
      · exact h3
      · rcases List.mem_cons.1 ((h b).2 (by simp)) with h4 | h4
        · exact h4.symm
        · have a1 := g2 a h3
          have a2 := lexI_flip b a (by rw [n1 a (by simp), n2 b (by simp)]) a1
          rw [g1 b h4] at a2
          exact absurd a2 (by decide)
    subst e
    have ne1 : ∀ x ∈ t1, x ≠ a := fun x hx e => by have := g1 x hx; rw [e, lexI_self] at this; exact absurd this (by decide)
    have ne2 : ∀ x ∈ t2, x ≠ a := fun x hx e => by have := g2 x hx; rw [e, lexI_self] at this; exact absurd this (by decide)
    rw [asc_ext (fun v hv => n1 v (by simp [hv])) (fun v hv => n2 v (by simp [hv])) g1' g2' (fun x => ⟨fun hx => by
      rcases List.mem_cons.1 ((h x).1 (by simp [hx])) with h3 | h3
      · exact absurd h3 (ne1 x hx)
      · exact h3, fun hx => by
      rcases List.mem_cons.1 ((h x).2 (by simp [hx])) with h3 | h3
      · exact absurd h3 (ne2 x hx)
      · exact h3⟩)]
theorem min_more {good : List Int → Bool} {c n : Nat} : (minL good (vecs c (n + 1))).filter (fun x => decide (sumI x ≤ (n : Int))) = minL good (vecs c n) := by
  have a1 := minL_all (good := good) (vecs_nn c n) (vecs_asc c n)
  have a2 := minL_all (good := good) (vecs_nn c (n + 1)) (vecs_asc c (n + 1))
  refine asc_ext (c := c) (fun v hv => ?_) (fun v hv => ?_) ((min_asc good c (n + 1)).sublist List.filter_sublist) (min_asc good c n) (fun x => ?_)
  · exact (vecs_nn c (n + 1) v (((a2.2 v).1 (List.mem_filter.1 hv).1).1)).1
  · exact (vecs_nn c n v (((a1.2 v).1 hv).1)).1
  · rw [List.mem_filter, a1.2 x, a2.2 x, decide_eq_true_eq]
    constructor
    · rintro ⟨⟨h1, h2, h3⟩, h4⟩
      have h5 := (mem_vecs c (n + 1) x).1 h1
      refine ⟨(mem_vecs c n x).2 ⟨h5.1, h5.2.1, h4⟩, h2, fun y hy hg hl => h3 y ?_ hg hl⟩
      have h6 := (mem_vecs c n y).1 hy
      exact (mem_vecs c (n + 1) y).2 ⟨h6.1, h6.2.1, by omega⟩
    · rintro ⟨h1, h2, h3⟩
      have h5 := (mem_vecs c n x).1 h1
      refine ⟨⟨(mem_vecs c (n + 1) x).2 ⟨h5.1, h5.2.1, by omega⟩, h2, fun y hy hg hl => h3 y ?_ hg hl⟩, h5.2.2⟩
      have h6 := (mem_vecs c (n + 1) y).1 hy
      refine (mem_vecs c n y).2 ⟨h6.1, h6.2.1, ?_⟩
      have := leq_sum y x (by rw [h6.1, h5.1]) hl
      omega
theorem minL_congr {g1 g2 : List Int → Bool} (h : ∀ x, g1 x = g2 x) (xs : List (List Int)) : minL g1 xs = minL g2 xs := by
  have : g1 = g2 := funext h
  rw [this]
theorem MatD.slice {w : World} {d : Nat} {v : Value} {ps : List Row} (h : MatD w d v ps) : ∃ a cap, v = .slice a ps.length cap := by obtain ⟨b, h1, h2⟩ := h; exact h2.slice
theorem pair_take {w0 w : World} {p : Value} {d : Nat} {x y : Int} {r n : Nat} (hs : St w0 w p d) (hn : n = r) (h1 : 1 ≤ n) (h2 : n ≤ 2) (hx : 0 ≤ x ∧ x ≤ 4) (hy : 0 ≤ y ∧ y ≤ 4) :
    RightOk r ([x, y].take n) ∧ Vec (w.alloc (.cells #[.int .i64 x, .int .i64 y] 3)) d (.slice (some ⟨w.heap.size, 0, none⟩) n 2) ([x, y].take n) := by
  have hb : ∀ z ∈ ([x, y] : List Int).take n, 0 ≤ z ∧ z ≤ 4 := fun z hz => by
    have := List.mem_of_mem_take hz
    simp only [List.mem_cons, List.not_mem_nil, or_false] at this
    rcases this with rfl | rfl
    · exact hx
    · exact hy
  have hl : (([x, y] : List Int).take n).length = n := by rw [List.length_take]; simp; omega
  refine ⟨⟨by rw [hl, hn], fun z hz => by have := hb z hz; omega⟩, (rowb _ n 2 (heap_new _ rfl) hl (by unfold maxLen; omega) (fun z hz => by have := hb z hz; omega) (by rw [List.map_take]; rfl) h2).1, ?_⟩
  intro g hg
  simp only [Value.ownBlock, Option.some.injEq] at hg
  have := hs.lt
  omega
theorem any_snoc2 (P : Row → Bool) (ps : List Row) (k : Nat) (h : k < ps.length) : (ps.take (k + 1)).any P = ((ps.take k).any P || P (ps[k])) := any_snoc P ps k h
end Go.Proofs.Ytgcfafjgaifmiaa
