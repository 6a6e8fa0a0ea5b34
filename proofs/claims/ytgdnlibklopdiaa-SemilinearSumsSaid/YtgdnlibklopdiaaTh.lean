/- The sanity check of law 13. -/
import Derived.Test.YtgdnlibklopdiaaTg
namespace Go.Proofs.Ytgdnlibklopdiaa
open Go.RowKit
set_option linter.unusedVariables false

theorem least01 {r : Option (List Int)} (h : Least [[1, 1], [2, 0]] [3, 1] r) : r = some [1, 1] := by
  cases r with
  | none => exact absurd (show Sol [[1, 1], [2, 0]] [1, 1] [3, 1] by simp [Sol, subk]) (h _)
  | some ks =>
    have h1 := h.1
    match ks, h1 with
    | [a, b], h1 =>
      simp [Sol, subk] at h1
      have e1 : a = 1 := by omega
      have e2 : b = 1 := by omega
      rw [e1, e2]
theorem valid01 : ValidS 2 [1, 0] [[1, 1], [2, 0]] := by
  refine ⟨by omega, by omega, rfl, by simp, ?_, by simp, ?_⟩
  · intro p hp
    simp only [List.mem_cons, List.not_mem_nil, or_false] at hp
    rcases hp with rfl | rfl
    · exact ⟨⟨rfl, by simp⟩, ⟨1, by simp, by omega⟩, by simp⟩
    · exact ⟨⟨rfl, by simp⟩, ⟨2, by simp, by omega⟩, by simp⟩
  · simp [Asc, compareI, lexI]
theorem any01 : SolE [[1, 1], [2, 0]] (lessL [1, 0] [1, 0]) := ⟨[0, 0], by simp [Sol, subk, lessL]⟩
theorem within01 : WithinP [1, 0] [[1, 1], [2, 0]] [1, 0] [[1, 1], [2, 0]] := by
  refine ⟨any01, ?_⟩
  intro p hp
  simp only [List.mem_cons, List.not_mem_nil, or_false] at hp
  rcases hp with rfl | rfl
  · exact ⟨[1, 0], by simp [Sol, subk]⟩
  · exact ⟨[0, 1], by simp [Sol, subk]⟩

def LitW (w : World) : World := (((((w.alloc (.cells #[.int .i64 1, .int .i64 0] 3)).alloc (.cells #[.int .i64 1, .int .i64 1] 3)).alloc (.cells #[.int .i64 2, .int .i64 0] 3)).alloc (.cells #[.slice (some ⟨w.heap.size + 1, 0, none⟩) 2 2, .slice (some ⟨w.heap.size + 1 + 1, 0, none⟩) 2 2] 22)).alloc (.cells #[.slice (some ⟨w.heap.size, 0, none⟩) 2 2, .slice (some ⟨w.heap.size + 1 + 1 + 1, 0, none⟩) 2 2] 49))
def litU (w : World) : SetE := ((.slice (some ⟨w.heap.size, 0, none⟩) 2 2, .slice (some ⟨w.heap.size + 1 + 1 + 1, 0, none⟩) 2 2), ([1, 0], [[1, 1], [2, 0]]))
theorem lit_row {w : World} {g : Nat} {x y : Int} {e : TypeId} {f : Nat × Nat} (h : w.heap[g]? = some (.cells #[.int .i64 x, .int .i64 y] e f)) (hb : -9223372036854775808 ≤ x ∧ x ≤ 9223372036854775807 ∧ -9223372036854775808 ≤ y ∧ y ≤ 9223372036854775807) : RowOk w (.slice (some ⟨g, 0, none⟩) 2 2, [x, y]) :=
  row_blk [x, y] 2 2 h rfl (by decide) (by intro z hz; simp at hz; rcases hz with rfl | rfl <;> omega) rfl (Nat.le_refl _)
theorem lit_facts (w : World) : SetOk (LitW w) 2 (litU w) ∧ (LitW w).cell? ⟨w.heap.size + 1 + 1 + 1 + 1, 0, none⟩ = some (.slice (some ⟨w.heap.size, 0, none⟩) 2 2) ∧ (LitW w).cell? ⟨w.heap.size + 1 + 1 + 1 + 1, 1, none⟩ = some (.slice (some ⟨w.heap.size + 1 + 1 + 1, 0, none⟩) 2 2) ∧ w.grownBy (LitW w) none ∧ w.heap.size + 1 + 1 + 1 + 1 + 1 = (LitW w).heap.size := by
  have h0 : (LitW w).heap[w.heap.size]? = some (.cells #[.int .i64 1, .int .i64 0] 3 (0, 0)) := (heap_old _ (heap_old _ (heap_old _ (heap_old _ (heap_new _ rfl)))))
  have h1 : (LitW w).heap[w.heap.size + 1]? = some (.cells #[.int .i64 1, .int .i64 1] 3 (0, 0)) := (heap_old _ (heap_old _ (heap_old _ (heap_new _ (by show _ = (w.heap.push _).size; simp)))))
  have h2 : (LitW w).heap[w.heap.size + 1 + 1]? = some (.cells #[.int .i64 2, .int .i64 0] 3 (0, 0)) := (heap_old _ (heap_old _ (heap_new _ (by show _ = ((w.heap.push _).push _).size; simp))))
  have h3 : (LitW w).heap[w.heap.size + 1 + 1 + 1]? = some (.cells #[.slice (some ⟨w.heap.size + 1, 0, none⟩) 2 2, .slice (some ⟨w.heap.size + 1 + 1, 0, none⟩) 2 2] 22 (0, 0)) := (heap_old _ (heap_new _ (by show _ = (((w.heap.push _).push _).push _).size; simp)))
  have h4 : (LitW w).heap[w.heap.size + 1 + 1 + 1 + 1]? = some (.cells #[.slice (some ⟨w.heap.size, 0, none⟩) 2 2, .slice (some ⟨w.heap.size + 1 + 1 + 1, 0, none⟩) 2 2] 49 (0, 0)) := (heap_new _ (by show _ = ((((w.heap.push _).push _).push _).push _).size; simp))
  refine ⟨⟨⟨_, _, [(.slice (some ⟨w.heap.size + 1, 0, none⟩) 2 2, [1, 1]), (.slice (some ⟨w.heap.size + 1 + 1, 0, none⟩) 2 2, [2, 0])], rfl, lit_row h0 (by omega), rows_blk _ 2 2 h3 rfl (by decide) rfl ?_, Good.some _ (Nat.le_refl _), rfl⟩, valid01⟩, (cells_of h4).1, (cells_of h4).2, grown_after (grown_after (grown_after (grown_after (grown_after (grown_refl _ _))))), ?_⟩
  · intro q hq
    simp only [List.mem_cons, List.not_mem_nil, or_false] at hq
    rcases hq with rfl | rfl
    · exact lit_row h1 (by omega)
    · exact lit_row h2 (by omega)
  · show _ = (((((w.heap.push _).push _).push _).push _).push _).size
    simp
/-- The cells of a row of two numbers. -/
theorem two_at {w : World} {v : Value} {x y : Int} (h : RowOk w (v, [x, y])) : ∃ b off c, v = .slice (some ⟨b, off, none⟩) 2 c ∧ w.cell? ⟨b, off, none⟩ = some (.int .i64 x) ∧ w.cell? ⟨b, off + 1, none⟩ = some (.int .i64 y) := by
  obtain ⟨⟨a, cap, hv, -, -, hc⟩, -, -⟩ := h
  rcases hc with hc | ⟨b, off, rfl, hc⟩
  · simp at hc
  · exact ⟨b, off, cap, hv, by simpa using hc 0 (by simp), by simpa using hc 1 (by simp)⟩

set_option maxRecDepth 100000 in
set_option maxHeartbeats 2000000 in
theorem awake13_any (w : World) :
    Calls Try.prog 35 #[] w fun e w' => e = .returned (.bool true) ∧ w.grownBy w' none := by
  go_enter Try.func35, Try.ntmps35
  go_wp2_with fail
  obtain ⟨hS, hb0, hb1, hgW, hsz⟩ := lit_facts w
  generalize hW : World.alloc _ (.cells #[.slice (some ⟨w.heap.size, 0, none⟩) 2 2, .slice (some ⟨w.heap.size + 1 + 1 + 1, 0, none⟩) 2 2] 49) = W
  have hWL : LitW w = W := hW
  rw [hWL] at hS hb0 hb1 hgW hsz
  clear hW hWL
  generalize hbx : w.heap.size + 1 + 1 + 1 + 1 = bx at *
  have S1 := Lib.hid hS; have C0 := Lib.hid hb0; have C1 := Lib.hid hb1; have GW := Lib.hid hgW
  clear hS hb0 hb1 hgW hbx
  have g1 : Hid (W.grownBy (W.alloc (.cells #[.int .i64 4, .int .i64 1] 3)) none) := Lib.hid (World.grownBy_alloc _ _ _)
  refine (Times_any 2 _ _ [1, 0] [4, 1] [[1, 1], [2, 0]] _ (S1.out.same g1.out).1 valid01 (lit_row (heap_new _ hsz) (by omega)) rfl (by decide)).mono ?_
  rintro e w2 ⟨r, hl, v2, rfl, ho, hg⟩
  obtain rfl := least01 hl
  have hr2 := ho.row (xs := [1, 1]) (by simp)
  have R2 := Lib.hid hr2
  obtain ⟨b2, o2, c2, rfl, q0, q1⟩ := two_at hr2
  have G2 := Lib.hid (grown_trans g1.out hg)
  clear hl ho hg g1 hr2
  have c0 := G2.out.cell C0.out (by simp); have c1 := G2.out.cell C1.out (by simp)
  go_wp2_with fail
  have g2 : Hid (W.grownBy (w2.alloc (.cells #[.int .i64 0, .int .i64 3] 3)) none) := Lib.hid (grown_after G2.out)
  refine (Shift_any 2 (litU w) _ [0, 3] _ (S1.out.same g2.out) (lit_row (heap_new _ rfl) (by omega)) rfl (by decide) (by simp [sumL, litU])).mono ?_
  rintro e w3 ⟨vb3, vp3, q3, rfl, hr3, hp3, -, -, hg3, -, -⟩
  have e3 : sumL (litU w).2.1 [0, 3] = [1, 3] := rfl
  rw [e3] at hr3
  have R3 := Lib.hid hr3
  obtain ⟨b3, o3, c3, rfl, -, -⟩ := two_at hr3
  obtain ⟨a3, cp3, rfl, -, -, -⟩ := hp3
  have G3 := Lib.hid (grown_trans g2.out hg3)
  replace R2 := Lib.hid (R2.out.same (grown_trans (World.grownBy_alloc _ _ none) hg3))
  clear hr3 hg3 e3 c0 c1 q0 q1 g2
  have hg4 : w3.grownBy (w3.alloc (.cells #[.slice (some ⟨b3, o3, none⟩) 2 c3, .slice a3 q3.length cp3] 49)) none := World.grownBy_alloc _ _ _
  have T0 := Lib.hid (cells_of (heap_new (w := w3) (.cells #[.slice (some ⟨b3, o3, none⟩) 2 c3, .slice a3 q3.length cp3] 49) rfl)).1
  have G4 := Lib.hid (grown_trans G3.out hg4)
  replace R2 := Lib.hid (R2.out.same hg4); replace R3 := Lib.hid (R3.out.same hg4)
  have k0 := G4.out.cell C0.out (by simp); have k1 := G4.out.cell C1.out (by simp)
  clear hg4
  obtain ⟨b2', o2', c2', hv2, m0, m1⟩ := two_at R2.out
  simp only [Value.slice.injEq, Option.some.injEq, Addr.mk.injEq, and_true] at hv2
  obtain ⟨⟨rfl, rfl⟩, -, rfl⟩ := hv2
  go_wp2_with fail
  clear k0 k1 m0 m1
  have g5 : Hid ((w3.alloc (.cells #[.slice (some ⟨b3, o3, none⟩) 2 c3, .slice a3 q3.length cp3] 49)).grownBy ((w3.alloc (.cells #[.slice (some ⟨b3, o3, none⟩) 2 c3, .slice a3 q3.length cp3] 49)).alloc (.cells #[.int .i64 4, .int .i64 1] 3)) none) := Lib.hid (World.grownBy_alloc _ _ _)
  have hr5 : RowOk ((w3.alloc (.cells #[.slice (some ⟨b3, o3, none⟩) 2 c3, .slice a3 q3.length cp3] 49)).alloc (.cells #[.int .i64 4, .int .i64 1] 3)) (.slice (some ⟨w3.heap.size + 1, 0, none⟩) 2 2, [4, 1]) := lit_row (heap_new _ (by show _ = (w3.heap.push _).size; simp)) (by omega)
  refine (proves_any 2 _ _ _ [1, 0] [4, 1] [1, 1] [[1, 1], [2, 0]] _ (S1.out.same (grown_trans G4.out g5.out)).1 valid01 hr5 (R2.out.same g5.out) rfl (by simp)).mono ?_
  rintro e w6 ⟨rfl, hg6⟩
  rw [show (madeL [1, 0] [[1, 1], [2, 0]] [1, 1] == [4, 1]) = true by decide]
  have g6 := grown_trans g5.out hg6
  have G6 := Lib.hid (grown_trans G4.out g6)
  replace R3 := Lib.hid (R3.out.same g6); replace T0 := Lib.hid (g6.cell T0.out (by simp))
  clear hg6 g6 g5 hr5 R2
  have k0 := G6.out.cell C0.out (by simp); have k1 := G6.out.cell C1.out (by simp)
  go_wp2_with fail
  clear k0 k1
  have g7 : Hid (w6.grownBy ((w6.alloc (.cells #[.slice (some ⟨w.heap.size, 0, none⟩) 2 2, .slice (some ⟨w.heap.size + 1 + 1 + 1, 0, none⟩) 2 2] 49)).alloc (.cells #[.int .i64 1, .int .i64 0] 3)) none) := Lib.hid (grown_after (grown_after (grown_refl _ _)))
  have hr7 : RowOk ((w6.alloc (.cells #[.slice (some ⟨w.heap.size, 0, none⟩) 2 2, .slice (some ⟨w.heap.size + 1 + 1 + 1, 0, none⟩) 2 2] 49)).alloc (.cells #[.int .i64 1, .int .i64 0] 3)) (.slice (some ⟨w6.heap.size + 1, 0, none⟩) 2 2, [1, 0]) := lit_row (heap_new _ (by show _ = (w6.heap.push _).size; simp)) (by omega)
  have hc7 : CellsS ((w6.alloc (.cells #[.slice (some ⟨w.heap.size, 0, none⟩) 2 2, .slice (some ⟨w.heap.size + 1 + 1 + 1, 0, none⟩) 2 2] 49)).alloc (.cells #[.int .i64 1, .int .i64 0] 3)) w6.heap.size 0 ([litU w].map Prod.fst) := cells_one (heap_old _ (heap_new _ rfl))
  refine (has_any 2 w6.heap.size 0 1 [litU w] _ [1, 0] _ (by omega) (by omega) hc7 (by intro u hu; rw [List.mem_singleton.1 hu]; exact S1.out.same (grown_trans G6.out g7.out)) (by simp) hr7 rfl (by decide)).mono ?_
  rintro e w7 ⟨B, rfl, hB, hg7⟩
  have hB1 : B = true := hB.2 ⟨litU w, by simp, any01⟩
  subst hB1
  have g8 := grown_trans g7.out hg7
  have G7 := Lib.hid (grown_trans G6.out g8)
  replace R3 := Lib.hid (R3.out.same g8); replace T0 := Lib.hid (g8.cell T0.out (by simp))
  clear hB hg7 g8 g7 hr7 hc7
  have k0 := G7.out.cell C0.out (by simp); have k1 := G7.out.cell C1.out (by simp)
  have t0 := T0.out
  obtain ⟨b3', o3', c3', hv3, -, m1⟩ := two_at R3.out
  simp only [Value.slice.injEq, Option.some.injEq, Addr.mk.injEq, and_true] at hv3
  obtain ⟨⟨rfl, rfl⟩, -, rfl⟩ := hv3
  go_wp2_with fail
  clear k0 k1 t0 m1
  refine (Within_any 2 (litU w) (litU w) _ (S1.out.same G7.out) (S1.out.same G7.out)).mono ?_
  rintro e w8 ⟨B, rfl, hB, hg8⟩
  have hB1 : B = true := hB.2 within01
  subst hB1
  have G8 := Lib.hid (grown_trans G7.out hg8)
  clear hB hg8
  have k0 := G8.out.cell C0.out (by simp); have k1 := G8.out.cell C1.out (by simp)
  go_wp2_with fail
  clear k0 k1
  have g9 : Hid (w8.grownBy (w8.alloc (.cells #[.slice (some ⟨w.heap.size, 0, none⟩) 2 2, .slice (some ⟨w.heap.size + 1 + 1 + 1, 0, none⟩) 2 2] 49)) none) := Lib.hid (World.grownBy_alloc _ _ _)
  refine (check_any 2 (by omega) (by omega) [(.slice (some ⟨w.heap.size, 0, none⟩) 2 2, .slice (some ⟨w.heap.size + 1 + 1 + 1, 0, none⟩) 2 2)] w8.heap.size 0 1 _ (cells_one (heap_new _ rfl)) (by intro u hu; rw [List.mem_singleton.1 hu]; exact ⟨_, _, (S1.out.same (grown_trans G8.out g9.out)).1, valid01⟩) (by simp)).mono ?_
  rintro e w9 ⟨rfl, hg9⟩
  have G9 := Lib.hid (grown_trans GW.out (grown_trans (grown_trans G8.out g9.out) hg9))
  clear hg9
  go_wp2_with fail
  go_ret
  exact ⟨rfl, G9.out⟩

end Go.Proofs.Ytgdnlibklopdiaa
