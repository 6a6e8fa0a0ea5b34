/- The sanity check of law 10. -/
import Derived.Test.YtpnghgihepnepaaNj
namespace Go.Proofs.Ytpnghgihepnepaa
open Go.RowKit
set_option linter.unusedVariables false

theorem lst1 {α β : Type} {qs : List (β × α)} {a : α} (h : qs.map Prod.snd = [a]) : ∃ v, qs = [(v, a)] := by
  match qs, h with
  | [(v, x)], h => simp at h; exact ⟨v, by rw [h]⟩
theorem lst2 {α β : Type} {qs : List (β × α)} {a b : α} (h : qs.map Prod.snd = [a, b]) : ∃ v u, qs = [(v, a), (u, b)] := by
  match qs, h with
  | [(v, x), (u, y)], h => simp at h; exact ⟨v, u, by rw [h.1, h.2]⟩
theorem red1 (v : Value) (k : Nat) (hk : 1 ≤ k) (hk3 : k ≤ 3) : redN ([(v, [1, -1, 0])], [], 1) k = ([(v, [1, -1, 0])], [0], 1) := by
  obtain rfl | rfl | rfl : k = 1 ∨ k = 2 ∨ k = 3 := by omega
  · rfl
  · rfl
  · rfl
theorem red2 (v u : Value) (k : Nat) (hk : 1 ≤ k) (hk3 : k ≤ 2) : redN ([(v, [2, 4]), (u, [1, 2])], [], 1) k = ([(v, [2, 4]), (u, [0, 0])], [0], 2) := by
  obtain rfl | rfl : k = 1 ∨ k = 2 := by omega
  · rfl
  · rfl
theorem fit1 (v0 : Value) : RedFit [(v0, [1, -1, 0])] 3 := by
  intro qs hq
  obtain ⟨v, rfl⟩ := lst1 hq
  rw [red1 v 3 (by omega) (by omega)]
  refine ⟨fun k hk => ?_, (by show -4000000000000000000 ≤ (1 : Int) ∧ (1 : Int) ≤ 4000000000000000000; decide), ?_⟩
  · by_cases h0 : k = 0
    · subst h0
      intro i hi t ht hne
      have hi0 : some 0 = some i := hi
      obtain rfl : 0 = i := by simpa using hi0
      have ht2 : t < 1 := ht
      exact absurd (show t = 0 by omega) hne
    · rw [red1 v k (by omega) (by omega)]
      intro i hi
      cases hi
  · intro q hq x hx
    rw [List.mem_singleton.1 hq] at hx
    simp at hx
    rcases hx with rfl | rfl | rfl <;> decide
theorem fit2 (v0 u0 : Value) : RedFit [(v0, [2, 4]), (u0, [1, 2])] 2 := by
  intro qs hq
  obtain ⟨v, u, rfl⟩ := lst2 hq
  rw [red2 v u 2 (by omega) (by omega)]
  refine ⟨fun k hk => ?_, (by show -4000000000000000000 ≤ (2 : Int) ∧ (2 : Int) ≤ 4000000000000000000; decide), ?_⟩
  · by_cases h0 : k = 0
    · subst h0
      intro i hi t ht hne
      have hi0 : some 0 = some i := hi
      obtain rfl : 0 = i := by simpa using hi0
      have ht2 : t < 2 := ht
      obtain rfl : t = 1 := by have : t ≠ 0 := hne; omega
      intro j hj
      have hj2 : j < 2 := hj
      obtain rfl | rfl : j = 0 ∨ j = 1 := by omega
      · refine .inr ?_; show (-4000000000000000000 ≤ (1 : Int) * 2 ∧ (1 : Int) * 2 ≤ 4000000000000000000) ∧ (-4000000000000000000 ≤ (1 : Int) * 2 ∧ (1 : Int) * 2 ≤ 4000000000000000000); decide
      · refine .inr ?_; show (-4000000000000000000 ≤ (2 : Int) * 2 ∧ (2 : Int) * 2 ≤ 4000000000000000000) ∧ (-4000000000000000000 ≤ (1 : Int) * 4 ∧ (1 : Int) * 4 ≤ 4000000000000000000); decide
    · obtain rfl : k = 1 := by omega
      rw [red2 v u 1 (by omega) (by omega)]
      intro i hi
      cases hi
  · intro q hq x hx
    simp at hq
    rcases hq with rfl | rfl
    · simp at hx; rcases hx with rfl | rfl <;> decide
    · simp at hx; subst hx; decide
theorem ker1 (v : Value) : kerOf (redN ([(v, [1, -1, 0])], [], 1) 3) 3 = [[1, 1, 0], [0, 0, 1]] := by
  rw [red1 v 3 (by omega) (by omega)]
  show (kerN [[1, -1, 0]] 3 1 [0] 3).2 = _
  decide

theorem rowb {w : World} {g : Nat} {cs : Array Value} {e : TypeId} {f : Nat × Nat} (xs : List Int) (n cap : Nat) (h : w.heap[g]? = some (.cells cs e f)) (hn : xs.length = n) (hm : n ≤ maxLen)
    (hb : ∀ x ∈ xs, -9223372036854775808 ≤ x ∧ x ≤ 9223372036854775807) (hc : cs.toList.take n = xs.map (Value.int .i64)) (hk : n ≤ cap) : RowOk w (.slice (some ⟨g, 0, none⟩) n cap, xs) := by
  refine ⟨ints_blk xs n cap h hn hm hb hc, Good.some _ hk, fun g' hg => ?_⟩
  simp only [Value.ownBlock, Option.some.injEq] at hg
  subst hg
  exact (Array.getElem?_eq_some_iff.1 h).1
theorem size_al (w : World) (o : Obj) : (w.alloc o).heap.size = w.heap.size + 1 := by show (w.heap.push _).size = _; simp
theorem lit1 (w : World) (xs : List Int) (n : Nat) (hn : xs.length = n) (hm : n ≤ 100) (hb : ∀ x ∈ xs, -9223372036854775808 ≤ x ∧ x ≤ 9223372036854775807) :
    RowsP ((w.alloc (.cells (xs.map (Value.int .i64)).toArray 3)).alloc (.cells #[.slice (some ⟨w.heap.size, 0, none⟩) n n] 22)) (.slice (some ⟨w.heap.size + 1, 0, none⟩) 1 1) [(.slice (some ⟨w.heap.size, 0, none⟩) n n, xs)] := by
  refine rows_blk _ 1 1 (heap_new _ (size_al _ _).symm) rfl (by decide) rfl ?_
  intro p hp
  rw [List.mem_singleton.1 hp]
  exact rowb xs n n (heap_old _ (heap_new _ rfl)) hn (by unfold maxLen; omega) hb (by rw [List.take_of_length_le (by simp [hn])]) (Nat.le_refl _)
theorem lit2 (w : World) (xs ys : List Int) (n : Nat) (hn : xs.length = n) (hn2 : ys.length = n) (hm : n ≤ 100) (hb : ∀ x ∈ xs, -9223372036854775808 ≤ x ∧ x ≤ 9223372036854775807) (hb2 : ∀ x ∈ ys, -9223372036854775808 ≤ x ∧ x ≤ 9223372036854775807) :
    RowsP (((w.alloc (.cells (xs.map (Value.int .i64)).toArray 3)).alloc (.cells (ys.map (Value.int .i64)).toArray 3)).alloc (.cells #[.slice (some ⟨w.heap.size, 0, none⟩) n n, .slice (some ⟨w.heap.size + 1, 0, none⟩) n n] 22)) (.slice (some ⟨w.heap.size + 1 + 1, 0, none⟩) 2 2) [(.slice (some ⟨w.heap.size, 0, none⟩) n n, xs), (.slice (some ⟨w.heap.size + 1, 0, none⟩) n n, ys)] := by
  refine rows_blk _ 2 2 (heap_new _ (by rw [size_al, size_al])) rfl (by decide) rfl ?_
  intro p hp
  simp only [List.mem_cons, List.not_mem_nil, or_false] at hp
  rcases hp with rfl | rfl
  · exact rowb xs n n (heap_old _ (heap_old _ (heap_new _ rfl))) hn (by unfold maxLen; omega) hb (by rw [List.take_of_length_le (by simp [hn])]) (Nat.le_refl _)
  · exact rowb ys n n (heap_old _ (heap_new _ (size_al _ _).symm)) hn2 (by unfold maxLen; omega) hb2 (by rw [List.take_of_length_le (by simp [hn2])]) (Nat.le_refl _)
theorem ker_cells {w : World} {base : Nat} {v : Value} {ks : List Row} (h : MatO w base v ks) (hk : ks.map Prod.snd = [[1, 1, 0], [0, 0, 1]]) :
    ∃ g c b0 c0 b1 c1, v = .slice (some ⟨g, 0, none⟩) 2 c ∧ w.cell? ⟨g, 0, none⟩ = some (.slice (some ⟨b0, 0, none⟩) 3 c0) ∧ w.cell? ⟨g, 1, none⟩ = some (.slice (some ⟨b1, 0, none⟩) 3 c1) ∧
      w.cell? ⟨b0, 0, none⟩ = some (.int .i64 1) ∧ w.cell? ⟨b0, 1, none⟩ = some (.int .i64 1) ∧ w.cell? ⟨b1, 2, none⟩ = some (.int .i64 1) := by
  obtain ⟨v0, v1, rfl⟩ := lst2 hk
  obtain ⟨g, c, rfl, -⟩ := h.head (by simp)
  obtain ⟨b0, c0, e0, -⟩ := h.row (i := 0) (by simp) (by simp)
  obtain ⟨b1, c1, e1, -⟩ := h.row (i := 1) (by simp) (by simp)
  have k0 := (h.own.cell 0 (by simp)).1
  have k1 := (h.own.cell 1 (by simp)).1
  rw [e0] at k0
  rw [e1] at k1
  exact ⟨g, c, b0, c0, b1, c1, rfl, k0, k1, (h.cell (i := 0) (by simp) e0 (k := 0) (by simp)).1, (h.cell (i := 0) (by simp) e0 (k := 1) (by simp)).1, (h.cell (i := 1) (by simp) e1 (k := 2) (by simp)).1⟩
set_option maxRecDepth 100000 in
set_option maxHeartbeats 2000000 in
theorem awake10_any (w : World) : Calls Try.prog 8 #[] w fun e w' => e = .returned (.bool true) ∧ w.grownBy w' none := by
  go_enter Try.func8, Try.ntmps8
  go_wp2_with fail
  refine (Kernel_any (r := 1) (c := 3) (lit1 w [1, -1, 0] 3 rfl (by omega) (by decide)) ⟨rfl, by omega, by omega, by omega, by omega, by omega, by simp⟩ (fit1 _)).mono ?_
  rintro e w1 ⟨qs, v, ks, hq, rfl, hM, hk, hg⟩
  obtain ⟨vq, rfl⟩ := lst1 hq
  rw [ker1] at hk
  obtain ⟨g, cg, b0, c0, b1, c1, rfl, k0, k1, k2, k3, k4⟩ := ker_cells hM hk
  have G1 := Lib.hid (grown_trans (grown_aft (World.grownBy_alloc w _ none)) hg)
  have K := Lib.hid (And.intro k0 (And.intro k1 (And.intro k2 (And.intro k3 k4))))
  clear hM hk hg hq k0 k1 k2 k3 k4
  go_wp2_with fail
  refine (Rank_any (r := 2) (c := 2) (lit2 w1 [2, 4] [1, 2] 2 rfl rfl (by omega) (by decide) (by decide)) ⟨rfl, by omega, by omega, by omega, by omega, by omega, by simp⟩ (fit2 _ _)).mono ?_
  rintro e w2 ⟨qs, hq, rfl, hg⟩
  obtain ⟨v0, u0, rfl⟩ := lst2 hq
  rw [red2 v0 u0 2 (by omega) (by omega)]
  have G2 := Lib.hid (grown_trans (grown_aft (grown_aft (World.grownBy_alloc w1 _ none))) hg)
  clear hg hq
  go_wp2_with fail
  refine (Apply_any (r := 1) (c := 2) (x := [3, 4]) ((lit1 w2 [1, 2] 2 rfl (by omega) (by decide)).same (World.grownBy_alloc _ _ none)) ⟨rfl, by omega, by omega, by omega, by omega, by omega, by simp⟩ (rowb [3, 4] 2 2 (heap_new _ (by rw [size_al, size_al])) rfl (by decide) (by decide) rfl (Nat.le_refl _)).1 rfl (by decide)).mono ?_
  rintro e w3 ⟨v3, rfl, ho, hg⟩
  have e11 : List.map (fun q : Row => dotL q.2 [3, 4]) [(Value.slice (some ⟨w2.heap.size, 0, none⟩) 2 2, [1, 2])] = [11] := rfl
  rw [e11] at ho
  obtain ⟨g3, c3, rfl, hc3⟩ : ∃ g c, v3 = .slice (some ⟨g, 0, none⟩) 1 c ∧ w3.cell? ⟨g, 0, none⟩ = some (.int .i64 11) := by
    obtain ⟨a, c, rfl⟩ := ownI_sl' ho
    rcases ho.2 with ⟨_, h0⟩ | ⟨g, cap, cur, hv, -⟩
    · simp at h0
    · simp only [Value.slice.injEq] at hv
      obtain ⟨rfl, -, rfl⟩ := hv
      exact ⟨g, c, rfl, (OwnI.cell ho 0 (by simp)).1⟩
  have G3 := Lib.hid (grown_trans (grown_aft (grown_aft (World.grownBy_alloc w2 _ none))) hg)
  have GA := Lib.hid (grown_trans G2.out G3.out)
  have k0 := GA.out.cell K.out.1 (by simp); have k1 := GA.out.cell K.out.2.1 (by simp); have k2 := GA.out.cell K.out.2.2.1 (by simp); have k3 := GA.out.cell K.out.2.2.2.1 (by simp); have k4 := GA.out.cell K.out.2.2.2.2 (by simp)
  clear ho hg e11
  go_wp2_with fail
  refine (Check10_any (r := 1) (c := 1) (lit1 w3 [0] 1 rfl (by omega) (by decide)) ⟨rfl, by omega, by omega, by omega, by omega, by omega, by simp⟩).mono ?_
  rintro e w4 ⟨rfl, rfl⟩
  go_wp2_with fail
  go_ret
  exact ⟨rfl, grown_trans (grown_trans G1.out GA.out) (grown_aft (World.grownBy_alloc _ _ none))⟩

end Go.Proofs.Ytpnghgihepnepaa
