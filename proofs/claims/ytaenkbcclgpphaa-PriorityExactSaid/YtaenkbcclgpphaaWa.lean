/- The sanity check of the second law file answers true. -/
import Derived.Test.YtaenkbcclgpphaaMf
import Derived.Test.YtaenkbcclgpphaaDr
namespace Go.Proofs.Ytaenkbcclgpphaa
open Go.RowKit
set_option linter.unusedVariables false

theorem row_lit {w : World} {g : Nat} {cs : Array Value} {e : TypeId} {f : Nat × Nat} (xs : List Int) (n cap : Nat) (h : w.heap[g]? = some (.cells cs e f)) (hn : xs.length = n) (hm : n ≤ maxLen)
    (hb : ∀ x ∈ xs, -9223372036854775808 ≤ x ∧ x ≤ 9223372036854775807) (hc : cs.toList.take n = xs.map (Value.int .i64)) (hk : n ≤ cap) : RowOk w (.slice (some ⟨g, 0, none⟩) n cap, xs) := by
  refine ⟨ints_blk xs n cap h hn hm hb hc, Good.some _ hk, fun g' hg => ?_⟩
  simp only [Value.ownBlock, Option.some.injEq] at hg
  subst hg
  exact (Array.getElem?_eq_some_iff.1 h).1
theorem merge01 : mergeR [0] [1] = [[0, 1], [1, 0]] ∧ mergeE [0] [1] = 0 := by
  have h : mergesL [] [0] [1] = [[0, 1], [1, 0]] := by simp [mergesL]
  have he : mergeE [0] [1] = 0 := by decide
  refine ⟨?_, he⟩
  rw [mergeR, he, h]; decide
theorem embed01 : embedR [0, 1] [0, 2, 1] = some [0, 2] := by decide
theorem drops44 : dropsL [4, 4] = [[4]] := by decide
theorem heap_two {w : World} {x : Obj} (o : Obj) : ((w.alloc x).alloc o).heap[w.heap.size]? = some x := heap_old _ (heap_new _ rfl)
theorem heap_two' {w : World} {x : Obj} (o : Obj) : ((w.alloc x).alloc o).heap[w.heap.size + 1]? = some o := heap_new _ (by show _ = (w.heap.push _).size; simp)
theorem two_rows {qs : List Row} {x y : List Int} (h : qs.map Prod.snd = [x, y]) : ∃ u v, qs = [(u, x), (v, y)] := by
  match qs, h with
  | [(u, _), (v, _)], rfl => exact ⟨u, v, rfl⟩

set_option maxRecDepth 100000 in
set_option maxHeartbeats 4000000 in
theorem awake02_any (w : World) :
    Calls Try.prog 13 #[] w fun e w' => e = .returned (.bool true) ∧ w.grownBy w' none := by
  go_enter Try.func13, Try.ntmps13
  go_wp2_with fail
  refine (mergeW_any _ _ [0] [1] _ (row_lit [0] 1 1 (cs := #[.int .i64 0]) (e := 3) (f := (0, 0)) (heap_two _) rfl (by decide) (by decide) rfl (Nat.le_refl _)) (row_lit [1] 1 1 (cs := #[.int .i64 1]) (e := 3) (f := (0, 0)) (heap_two' _) rfl (by decide) (by decide) rfl (Nat.le_refl _))).mono ?_
  rintro e w1 ⟨v, qs, rfl, ho, hq, hg⟩
  rw [merge01.1] at hq
  rw [merge01.2]
  obtain ⟨u0, u1, rfl⟩ := two_rows hq
  have hr := ho.rows
  obtain ⟨_, _, rfl, _, hc, hrow⟩ := hr
  obtain ⟨b, off, rfl, hx⟩ := RowsP.at hc (k := 0) (by simp)
  have h0 := hrow _ (List.getElem_mem (l := [(u0, [0, 1]), (u1, [1, 0])]) (n := 0) (by simp))
  have hx0 := h0.1
  obtain ⟨_, _, hv0, _, _, hc0⟩ := hx0
  dsimp only [List.getElem_cons_zero] at hx hv0 hc0
  subst hv0
  rcases hc0 with hc0 | ⟨b0, off0, rfl, hc0⟩
  · simp at hc0
  have hy := hc0 0 (by decide)
  simp at hx hy
  have HG := Lib.hid (grown_trans (grown_trans (World.grownBy_alloc w _ none) (World.grownBy_alloc _ _ none)) hg)
  have HX : Hid (w1.cell? ⟨b, off, none⟩ = some (.slice (some ⟨b0, off0, none⟩) 2 _) ∧ w1.cell? ⟨b0, off0, none⟩ = some (.int .i64 0)) := Lib.hid ⟨hx, hy⟩
  clear hc hrow h0 hx hy hc0 ho hg hq
  go_wp2_with fail
  refine (embedW_any _ _ [0, 1] [0, 2, 1] _ (row_lit [0, 1] 2 2 (cs := #[.int .i64 0, .int .i64 1]) (e := 3) (f := (0, 0)) (heap_two _) rfl (by decide) (by decide) rfl (Nat.le_refl _)).1 (row_lit [0, 2, 1] 3 3 (cs := #[.int .i64 0, .int .i64 2, .int .i64 1]) (e := 3) (f := (0, 0)) (heap_two' _) rfl (by decide) (by decide) rfl (Nat.le_refl _)).1).mono ?_
  rintro e w2 ⟨v2, rfl, ho2, hg2⟩
  rw [embed01] at ho2 ⊢
  have HG2 := Lib.hid (grown_trans (grown_trans (World.grownBy_alloc w1 _ none) (World.grownBy_alloc _ _ none)) hg2)
  have HG3 := Lib.hid (grown_trans HG.out HG2.out)
  have HI := Lib.hid (ho2.ints (by decide))
  obtain ⟨a3, cap3, rfl, -, -, hc⟩ := HI.out
  rcases hc with hc | ⟨b3, off3, rfl, hc⟩
  · simp at hc
  have c1 := hc 1 (by decide)
  simp at c1
  have hx := HG2.out.cell HX.out.1 (by simp)
  have hy := HG2.out.cell HX.out.2 (by simp)
  clear hc ho2 hg2
  go_wp2_with fail
  refine (leqW_any _ _ [] [3] _ ⟨none, 0, rfl, Nat.zero_le _, by simp, .inl rfl⟩ (row_lit [3] 1 1 (cs := #[.int .i64 3]) (e := 3) (f := (0, 0)) (heap_new _ rfl) rfl (by decide) (by decide) rfl (Nat.le_refl _)).1).mono ?_
  rintro e w4 ⟨rfl, hg4⟩
  rw [show leqW [] [3] = true by decide]
  have HG4 := Lib.hid (grown_trans (World.grownBy_alloc w2 _ none) hg4)
  clear hg4 hx hy c1
  go_wp2_with fail
  refine (drops_any _ [4, 4] _ (row_lit [4, 4] 2 2 (cs := #[.int .i64 4, .int .i64 4]) (e := 3) (f := (0, 0)) (heap_new _ rfl) rfl (by decide) (by decide) rfl (Nat.le_refl _))).mono ?_
  rintro e w5 ⟨v5, q5, rfl, ho5, hq5, hg5⟩
  rw [drops44] at hq5
  have hl5 : q5.length = 1 := by have := congrArg List.length hq5; simpa using this
  obtain ⟨a5, c5, rfl⟩ := ho5.slice
  rw [hl5]
  have HG5 := Lib.hid (grown_trans HG4.out (grown_trans (World.grownBy_alloc w4 _ none) hg5))
  clear ho5 hg5 hq5 hl5
  go_wp2_with fail
  refine (validW_any _ [0, 2] _ (HI.out.same HG5.out)).mono ?_; rintro e w6 ⟨rfl, rfl⟩
  rw [show validW [0, 2] = true by decide]
  go_wp2_with fail
  go_ret
  exact ⟨rfl, grown_trans HG3.out HG5.out⟩

end Go.Proofs.Ytaenkbcclgpphaa
