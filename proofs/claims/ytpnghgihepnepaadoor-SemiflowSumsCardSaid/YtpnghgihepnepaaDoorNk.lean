/- The sanity check of law 10. -/
import Derived.Test.YtpnghgihepnepaaDoorNj
namespace Go.Proofs.YtpnghgihepnepaaDoor
open Go.RowKit
set_option linter.unusedVariables false

theorem lst1 {α β : Type} {qs : List (β × α)} {a : α} (h : qs.map Prod.snd = [a]) : ∃ v, qs = [(v, a)] := by
  match qs, h with
  | [(v, x)], h => simp at h; exact ⟨v, by rw [h]⟩
theorem lst2 {α β : Type} {qs : List (β × α)} {a b : α} (h : qs.map Prod.snd = [a, b]) : ∃ v u, qs = [(v, a), (u, b)] := by
  match qs, h with
  | [(v, x), (u, y)], h => simp at h; exact ⟨v, u, by rw [h.1, h.2]⟩
theorem red1 (v : Value) (k : Nat) (hk : 1 ≤ k) (hk3 : k ≤ 3) : redN ([(v, [1, -1, 0])], [], 1) k = ([(v, [1, -1, 0])], [0], 1) := by
  obtain rfl | rfl | rfl : k = 1 ∨ k = 2 ∨ k = 3 := by omega
  · rfl
  · rfl
  · rfl
theorem red2 (v u : Value) (k : Nat) (hk : 1 ≤ k) (hk3 : k ≤ 2) : redN ([(v, [2, 4]), (u, [1, 2])], [], 1) k = ([(v, [2, 4]), (u, [0, 0])], [0], 2) := by
  obtain rfl | rfl : k = 1 ∨ k = 2 := by omega
  · rfl
  · rfl
theorem fit1 (v0 : Value) : RedFit [(v0, [1, -1, 0])] 3 := by
  intro qs hq
  obtain ⟨v, rfl⟩ := lst1 hq
  rw [red1 v 3 (by omega) (by omega)]
  refine ⟨fun k hk => ?_, (by show -4000000000000000000 ≤ (1 : Int) ∧ (1 : Int) ≤ 4000000000000000000; decide), ?_⟩
  · by_cases h0 : k = 0
    · subst h0
      intro i hi t ht hne
      have hi0 : some 0 = some i := hi
      obtain rfl : 0 = i := by simpa using hi0
      have ht2 : t < 1 := ht
      exact absurd (show t = 0 by omega) hne
    · rw [red1 v k (by omega) (by omega)]
      intro i hi
      cases hi
  · intro q hq x hx
    rw [List.mem_singleton.1 hq] at hx
    simp at hx
    rcases hx with rfl | rfl | rfl <;> decide
theorem fit2 (v0 u0 : Value) : RedFit [(v0, [2, 4]), (u0, [1, 2])] 2 := by
  intro qs hq
  obtain ⟨v, u, rfl⟩ := lst2 hq
  rw [red2 v u 2 (by omega) (by omega)]
  refine ⟨fun k hk => ?_, (by show -4000000000000000000 ≤ (2 : Int) ∧ (2 : Int) ≤ 4000000000000000000; decide), ?_⟩
  · by_cases h0 : k = 0
    · subst h0
      intro i hi t ht hne
      have hi0 : some 0 = some i := hi
      obtain rfl : 0 = i := by simpa using hi0
      have ht2 : t < 2 := ht
      obtain rfl : t = 1 := by have : t ≠ 0 := hne; omega
      intro j hj
      have hj2 : j < 2 := hj
      obtain rfl | rfl : j = 0 ∨ j = 1 := by omega
      · refine .inr ?_; show (-4000000000000000000 ≤ (1 : Int) * 2 ∧ (1 : Int) * 2 ≤ 4000000000000000000) ∧ (-4000000000000000000 ≤ (1 : Int) * 2 ∧ (1 : Int) * 2 ≤ 4000000000000000000); decide
      · refine .inr ?_; show (-4000000000000000000 ≤ (2 : Int) * 2 ∧ (2 : Int) * 2 ≤ 4000000000000000000) ∧ (-4000000000000000000 ≤ (1 : Int) * 4 ∧ (1 : Int) * 4 ≤ 4000000000000000000); decide
    · obtain rfl : k = 1 := by omega
      rw [red2 v u 1 (by omega) (by omega)]
      intro i hi
      cases hi
  · intro q hq x hx
    simp at hq
    rcases hq with rfl | rfl
    · simp at hx; rcases hx with rfl | rfl <;> decide
    · simp at hx; subst hx; decide
theorem ker1 (v : Value) : kerOf (redN ([(v, [1, -1, 0])], [], 1) 3) 3 = [[1, 1, 0], [0, 0, 1]] := by
  rw [red1 v 3 (by omega) (by omega)]
  show (kerN [[1, -1, 0]] 3 1 [0] 3).2 = _
  decide

theorem rowb {w : World} {g : Nat} {cs : Array Value} {e : TypeId} {f : Nat × Nat} (xs : List Int) (n cap : Nat) (h : w.heap[g]? = some (.cells cs e f)) (hn : xs.length = n) (hm : n ≤ maxLen)
    (hb : ∀ x ∈ xs, -9223372036854775808 ≤ x ∧ x ≤ 9223372036854775807) (hc : cs.toList.take n = xs.map (Value.int .i64)) (hk : n ≤ cap) : RowOk w (.slice (some ⟨g, 0, none⟩) n cap, xs) := by
  refine ⟨ints_blk xs n cap h hn hm hb hc, Good.some _ hk, fun g' hg => ?_⟩
  simp only [Value.ownBlock, Option.some.injEq] at hg
  subst hg
  exact (Array.getElem?_eq_some_iff.1 h).1
theorem size_al (w : World) (o : Obj) : (w.alloc o).heap.size = w.heap.size + 1 := by show (w.heap.push _).size = _; simp
theorem lit1 (w : World) (xs : List Int) (n : Nat) (hn : xs.length = n) (hm : n ≤ 100) (hb : ∀ x ∈ xs, -9223372036854775808 ≤ x ∧ x ≤ 9223372036854775807) :
    RowsP ((w.alloc (.cells (xs.map (Value.int .i64)).toArray 3)).alloc (.cells #[.slice (some ⟨w.heap.size, 0, none⟩) n n] 22)) (.slice (some ⟨w.heap.size + 1, 0, none⟩) 1 1) [(.slice (some ⟨w.heap.size, 0, none⟩) n n, xs)] := by
  refine rows_blk _ 1 1 (heap_new _ (size_al _ _).symm) rfl (by decide) rfl ?_
  intro p hp
  rw [List.mem_singleton.1 hp]
  exact rowb xs n n (heap_old _ (heap_new _ rfl)) hn (by unfold maxLen; omega) hb (by rw [List.take_of_length_le (by simp [hn])]) (Nat.le_refl _)
theorem lit2 (w : World) (xs ys : List Int) (n : Nat) (hn : xs.length = n) (hn2 : ys.length = n) (hm : n ≤ 100) (hb : ∀ x ∈ xs, -9223372036854775808 ≤ x ∧ x ≤ 9223372036854775807) (hb2 : ∀ x ∈ ys, -9223372036854775808 ≤ x ∧ x ≤ 9223372036854775807) :
    RowsP (((w.alloc (.cells (xs.map (Value.int .i64)).toArray 3)).alloc (.cells (ys.map (Value.int .i64)).toArray 3)).alloc (.cells #[.slice (some ⟨w.heap.size, 0, none⟩) n n, .slice (some ⟨w.heap.size + 1, 0, none⟩) n n] 22)) (.slice (some ⟨w.heap.size + 1 + 1, 0, none⟩) 2 2) [(.slice (some ⟨w.heap.size, 0, none⟩) n n, xs), (.slice (some ⟨w.heap.size + 1, 0, none⟩) n n, ys)] := by
  refine rows_blk _ 2 2 (heap_new _ (by rw [size_al, size_al])) rfl (by decide) rfl ?_
  intro p hp
  simp only [List.mem_cons, List.not_mem_nil, or_false] at hp
  rcases hp with rfl | rfl
  · exact rowb xs n n (heap_old _ (heap_old _ (heap_new _ rfl))) hn (by unfold maxLen; omega) hb (by rw [List.take_of_length_le (by simp [hn])]) (Nat.le_refl _)
  · exact rowb ys n n (heap_old _ (heap_new _ (size_al _ _).symm)) hn2 (by unfold maxLen; omega) hb2 (by rw [List.take_of_length_le (by simp [hn2])]) (Nat.le_refl _)
theorem ker_cells {w : World} {base : Nat} {v : Value} {ks : List Row} (h : MatO w base v ks) (hk : ks.map Prod.snd = [[1, 1, 0], [0, 0, 1]]) :
    ∃ g c b0 c0 b1 c1, v = .slice (some ⟨g, 0, none⟩) 2 c ∧ w.cell? ⟨g, 0, none⟩ = some (.slice (some ⟨b0, 0, none⟩) 3 c0) ∧ w.cell? ⟨g, 1, none⟩ = some (.slice (some ⟨b1, 0, none⟩) 3 c1) ∧
      w.cell? ⟨b0, 0, none⟩ = some (.int .i64 1) ∧ w.cell? ⟨b0, 1, none⟩ = some (.int .i64 1) ∧ w.cell? ⟨b1, 2, none⟩ = some (.int .i64 1) := by
  obtain ⟨v0, v1, rfl⟩ := lst2 hk
  obtain ⟨g, c, rfl, -⟩ := h.head (by simp)
  obtain ⟨b0, c0, e0, -⟩ := h.row (i := 0) (by simp) (by simp)
  obtain ⟨b1, c1, e1, -⟩ := h.row (i := 1) (by simp) (by simp)
  have k0 := (h.own.cell 0 (by simp)).1
  have k1 := (h.own.cell 1 (by simp)).1
  rw [e0] at k0
  rw [e1] at k1
  exact ⟨g, c, b0, c0, b1, c1, rfl, k0, k1, (h.cell (i := 0) (by simp) e0 (k := 0) (by simp)).1, (h.cell (i := 0) (by simp) e0 (k := 1) (by simp)).1, (h.cell (i := 1) (by simp) e1 (k := 2) (by simp)).1⟩
end Go.Proofs.YtpnghgihepnepaaDoor
