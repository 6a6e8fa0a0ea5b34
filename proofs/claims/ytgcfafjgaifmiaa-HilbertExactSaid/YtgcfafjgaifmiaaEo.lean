/- What the laws of stage 12 share. -/
import Derived.Test.YtgcfafjgaifmiaaEn
import Derived.Test.YtgcfafjgaifmiaaGt
import Derived.Test.YtgcfafjgaifmiaaNc
namespace Go.Proofs.Ytgcfafjgaifmiaa
open Go.RowKit
set_option linter.unusedVariables false

theorem lst1 {α β : Type} {qs : List (β × α)} {a : α} (h : qs.map Prod.snd = [a]) : ∃ v, qs = [(v, a)] := by
  match qs, h with
  | [(v, x)], h => simp at h; exact ⟨v, by rw [h]⟩
theorem lst2 {α β : Type} {qs : List (β × α)} {a b : α} (h : qs.map Prod.snd = [a, b]) : ∃ v u, qs = [(v, a), (u, b)] := by
  match qs, h with
  | [(v, x), (u, y)], h => simp at h; exact ⟨v, u, by rw [h.1, h.2]⟩
theorem rowb {w : World} {g : Nat} {cs : Array Value} {e : TypeId} {f : Nat × Nat} (xs : List Int) (n cap : Nat) (h : w.heap[g]? = some (.cells cs e f)) (hn : xs.length = n) (hm : n ≤ maxLen)
    (hb : ∀ x ∈ xs, -9223372036854775808 ≤ x ∧ x ≤ 9223372036854775807) (hc : cs.toList.take n = xs.map (Value.int .i64)) (hk : n ≤ cap) : RowOk w (.slice (some ⟨g, 0, none⟩) n cap, xs) := by
  refine ⟨ints_blk xs n cap h hn hm hb hc, Good.some _ hk, fun g' hg => ?_⟩
  simp only [Value.ownBlock, Option.some.injEq] at hg
  subst hg
  exact (Array.getElem?_eq_some_iff.1 h).1
theorem size_al (w : World) (o : Obj) : (w.alloc o).heap.size = w.heap.size + 1 := by show (w.heap.push _).size = _; simp
theorem lit1 (w : World) (xs : List Int) (n : Nat) (hn : xs.length = n) (hm : n ≤ 100) (hb : ∀ x ∈ xs, -9223372036854775808 ≤ x ∧ x ≤ 9223372036854775807) :
    RowsP ((w.alloc (.cells (xs.map (Value.int .i64)).toArray 3)).alloc (.cells #[.slice (some ⟨w.heap.size, 0, none⟩) n n] 22)) (.slice (some ⟨w.heap.size + 1, 0, none⟩) 1 1) [(.slice (some ⟨w.heap.size, 0, none⟩) n n, xs)] := by
  refine rows_blk _ 1 1 (heap_new _ (size_al _ _).symm) rfl (by decide) rfl ?_
  intro p hp
  rw [List.mem_singleton.1 hp]
  exact rowb xs n n (heap_old _ (heap_new _ rfl)) hn (by unfold maxLen; omega) hb (by rw [List.take_of_length_le (by simp [hn])]) (Nat.le_refl _)
theorem lit2 (w : World) (xs ys : List Int) (n : Nat) (hn : xs.length = n) (hn2 : ys.length = n) (hm : n ≤ 100) (hb : ∀ x ∈ xs, -9223372036854775808 ≤ x ∧ x ≤ 9223372036854775807) (hb2 : ∀ x ∈ ys, -9223372036854775808 ≤ x ∧ x ≤ 9223372036854775807) :
    RowsP (((w.alloc (.cells (xs.map (Value.int .i64)).toArray 3)).alloc (.cells (ys.map (Value.int .i64)).toArray 3)).alloc (.cells #[.slice (some ⟨w.heap.size, 0, none⟩) n n, .slice (some ⟨w.heap.size + 1, 0, none⟩) n n] 22)) (.slice (some ⟨w.heap.size + 1 + 1, 0, none⟩) 2 2) [(.slice (some ⟨w.heap.size, 0, none⟩) n n, xs), (.slice (some ⟨w.heap.size + 1, 0, none⟩) n n, ys)] := by
  refine rows_blk _ 2 2 (heap_new _ (by rw [size_al, size_al])) rfl (by decide) rfl ?_
  intro p hp
  simp only [List.mem_cons, List.not_mem_nil, or_false] at hp
  rcases hp with rfl | rfl
  · exact rowb xs n n (heap_old _ (heap_old _ (heap_new _ rfl))) hn (by unfold maxLen; omega) hb (by rw [List.take_of_length_le (by simp [hn])]) (Nat.le_refl _)
  · exact rowb ys n n (heap_old _ (heap_new _ (size_al _ _).symm)) hn2 (by unfold maxLen; omega) hb2 (by rw [List.take_of_length_le (by simp [hn2])]) (Nat.le_refl _)
/-- A matrix made behind a deck. -/
def MatD (w : World) (d : Nat) (v : Value) (ps : List Row) : Prop := ∃ base, d < base ∧ MatO w base v ps
theorem MatD.step {w w' : World} {d : Nat} {v : Value} {ps : List Row} (h : MatD w d v ps) (g : w.grownBy w' none) : MatD w' d v ps := by obtain ⟨b, h1, h2⟩ := h; exact ⟨b, h1, h2.same g⟩
theorem MatD.deal {w w' : World} {d : Nat} {v : Value} {ps : List Row} (h : MatD w d v ps) (g : w.grownBy w' (some d)) : MatD w' d v ps := by obtain ⟨b, h1, h2⟩ := h; exact ⟨b, h1, h2.kept g (by rintro j ⟨⟩; exact h1)⟩
theorem MatD.rows {w : World} {d : Nat} {v : Value} {ps : List Row} (h : MatD w d v ps) : RowsP w v ps := by obtain ⟨b, h1, h2⟩ := h; exact h2.rowsP
theorem MatD.mk {w0 w w' : World} {p : Value} {d : Nat} {v : Value} {ps : List Row} (hs : St w0 w p d) (h : MatO w' w.heap.size v ps) : MatD w' d v ps := ⟨_, hs.lt, h⟩
theorem dealt_ok {r c : Nat} {ps : List Row} (hl : ps.length = r) (h : DealtM c ps) (hr1 : 1 ≤ r) (hr : r ≤ 12) (hc1 : 1 ≤ c) (hc : c ≤ 12) (h6 : r ≤ 6 ∨ c ≤ 6) : MatOkP r c ps := ⟨hl, hr1, hr, hc1, hc, h6, h⟩

end Go.Proofs.Ytgcfafjgaifmiaa
