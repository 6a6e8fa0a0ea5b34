/- limit: the laws' sanity check. -/
import Derived.Test.YtahffjoehjpfkaaZn
namespace Go.Proofs.Ytahffjoehjpfkaa
open Go.RowKit
set_option linter.unusedVariables false

theorem row_lit2 (w : World) (x y : Int) (hx : -9223372036854775808 ≤ x ∧ x ≤ 9223372036854775807) (hy : -9223372036854775808 ≤ y ∧ y ≤ 9223372036854775807) :
    RowOk (w.alloc (.cells #[.int .i64 x, .int .i64 y] 3)) (.slice (some ⟨w.heap.size, 0, none⟩) 2 2, [x, y]) := by
  have ho : OwnI (w.alloc (.cells #[.int .i64 x, .int .i64 y] 3)) w.heap.size (.slice (some ⟨w.heap.size, 0, none⟩) 2 2) [x, y] := World.ownsRow_lit w #[.int .i64 x, .int .i64 y] 2 (Nat.le_refl _) (by decide) rfl
  exact ho.row (by
    intro z hz
    simp only [List.mem_cons, List.not_mem_nil, or_false] at hz
    rcases hz with rfl | rfl
    · exact hx
    · exact hy)
/-- A row of a list, with its cells of later worlds. -/
theorem rows_cell {w : World} {a : Option Addr} {n c k : Nat} {qs : List Row} (h : RowsP w (.slice a n c) qs) (hk : k < qs.length) : ∃ b off a' c', a = some ⟨b, off, none⟩ ∧ (∀ W, w.grownBy W none → W.cell? ⟨b, off + k, none⟩ = some (.slice a' (qs[k]).2.length c')) ∧
    ∀ i, i < (qs[k]).2.length → ∃ b' o', a' = some ⟨b', o', none⟩ ∧ ∀ W, w.grownBy W none → W.cell? ⟨b', o' + i, none⟩ = some (.int .i64 ((qs[k]).2[i]?.getD 0)) := by
  obtain ⟨a1, c1, hv, -, hc, hr⟩ := h
  simp only [Value.slice.injEq] at hv
  obtain ⟨rfl, -, rfl⟩ := hv
  obtain ⟨b, off, rfl, hx⟩ := RowsP.at hc hk
  obtain ⟨⟨a', c', hv, -, -, hcc⟩, -, -⟩ := hr _ (List.getElem_mem hk)
  rw [hv] at hx
  refine ⟨b, off, a', c', rfl, fun W g => g.cell hx (by simp), fun i hi => ?_⟩
  obtain ⟨b', o', rfl, h2⟩ := Ints.at hcc hi
  exact ⟨b', o', rfl, fun W g => g.cell h2 (by simp)⟩
theorem snd_any (qs : List Row) (f : List Int → Bool) : qs.any (fun q => f q.2) = (qs.map Prod.snd).any f := by rw [List.any_map]; rfl
theorem limOk21 : LimOk 2 [[1, 1099511627776], [1099511627776, 0]] := ⟨by decide, by decide, by decide, by decide, by unfold Asc; decide, by decide⟩
set_option maxRecDepth 20000 in
set_option maxHeartbeats 2000000 in
theorem awake08_any (w : World) : Calls Try.prog 7 #[] w fun e w' => e = .returned (.bool true) ∧ w.grownBy w' none := by
  go_enter Try.func7, Try.ntmps7
  go_wp2_with fail
  have hr0 := row_lit2 w 2 1 (by decide) (by decide)
  have hp0 := ownP_lit1 hr0
  have hg0 : w.grownBy ((w.alloc (.cells #[.int .i64 2, .int .i64 1] 3)).alloc (.cells #[.slice (some ⟨w.heap.size, 0, none⟩) 2 2] 22)) none := grown_trans (World.grownBy_alloc _ _ none) (World.grownBy_alloc _ _ none)
  have hsz : (w.alloc (.cells #[.int .i64 2, .int .i64 1] 3)).heap.size = w.heap.size + 1 := by show (w.heap.push _).size = _; simp
  dsimp only at hp0
  rw [hsz] at hp0
  generalize ((w.alloc (.cells #[.int .i64 2, .int .i64 1] 3)).alloc (.cells #[.slice (some ⟨w.heap.size, 0, none⟩) 2 2] 22)) = W0 at *
  have P0 := Lib.hid hp0; have G0 := Lib.hid hg0
  clear hr0 hp0 hg0 hsz
  refine (below_any 2 _ _ _ P0.out.rows (by decide) (by decide) (by simp) (by intro p hp; rw [List.mem_singleton.1 hp]; exact ⟨rfl, by show finiteB [2, 1] = true; decide⟩)).mono ?_
  rintro e w1 ⟨R, hch, hn, hg1, hcase⟩
  have hR := below21 hch
  subst hR
  rcases hcase with ⟨-, v1, q1, rfl, hr1, hd1, hm1, -⟩ | ⟨h5, -⟩
  case inr => simp at h5
  have G1 := Lib.hid (grown_trans G0.out hg1)
  have X1 := Lib.hid hr1; have X2 := Lib.hid hd1; have X3 := Lib.hid hm1
  have HLK : Hid (LimOk 2 (q1.map Prod.snd)) := Lib.hid (by rw [hm1]; exact limOk21)
  have hl1 : q1.length = 2 := by have := congrArg List.length hm1; simpa using this
  have e0 : (q1[0]'(by omega)).2 = [1, 1099511627776] := by
    have h5 : (q1.map Prod.snd)[0]? = some [1, 1099511627776] := by rw [hm1]; rfl
    rw [List.getElem?_map, List.getElem?_eq_getElem (by omega)] at h5
    simpa using h5
  have e1 : (q1[1]'(by omega)).2 = [1099511627776, 0] := by
    have h5 : (q1.map Prod.snd)[1]? = some [1099511627776, 0] := by rw [hm1]; rfl
    rw [List.getElem?_map, List.getElem?_eq_getElem (by omega)] at h5
    simpa using h5
  obtain ⟨a1, c1, rfl⟩ : ∃ a c, v1 = .slice a 2 c := by obtain ⟨a, c, h, -⟩ := hr1; rw [hl1] at h; exact ⟨a, c, h⟩
  obtain ⟨b, off, x0, y0, rfl, hc0, hi0⟩ := rows_cell hr1 (k := 0) (by omega)
  obtain ⟨b', off', x1, y1, hbb, hc1, hi1⟩ := rows_cell hr1 (k := 1) (by omega)
  simp only [Option.some.injEq, Addr.mk.injEq, and_true] at hbb
  obtain ⟨rfl, rfl⟩ := hbb
  rw [e0] at hc0 hi0
  rw [e1] at hc1 hi1
  obtain ⟨b0, o0, rfl, hj0⟩ := hi0 0 (by decide)
  obtain ⟨b0', o0', hbb, hj1⟩ := hi0 1 (by decide)
  simp only [Option.some.injEq, Addr.mk.injEq, and_true] at hbb
  obtain ⟨rfl, rfl⟩ := hbb
  obtain ⟨b1, o1, rfl, hj2⟩ := hi1 1 (by decide)
  have HC : Hid (∀ W, w1.grownBy W none → W.cell? ⟨b, off, none⟩ = some (.slice (some ⟨b0, o0, none⟩) 2 y0) ∧ W.cell? ⟨b, off + 1, none⟩ = some (.slice (some ⟨b1, o1, none⟩) 2 y1) ∧ W.cell? ⟨b0, o0, none⟩ = some (.int .i64 1) ∧ W.cell? ⟨b0, o0 + 1, none⟩ = some (.int .i64 1099511627776) ∧ W.cell? ⟨b1, o1 + 1, none⟩ = some (.int .i64 0)) :=
    Lib.hid (fun W g => ⟨hc0 W g, hc1 W g, hj0 W g, hj1 W g, hj2 W g⟩)
  clear hc0 hc1 hi0 hi1 hj0 hj1 hj2 e0 e1 hch hn hr1 hd1 hm1 hg1
  go_wp2_with fail
  refine (above_ok 2 _ q1 _ X1.out (by decide) (by decide) (by omega) (fun p hp => by
    have h5 : p.2 ∈ q1.map Prod.snd := List.mem_map_of_mem hp
    rw [X3.out] at h5
    revert h5
    generalize p.2 = z
    intro h5
    simp only [List.mem_cons, List.not_mem_nil, or_false] at h5
    rcases h5 with rfl | rfl <;> decide) (fun R hR => by rw [X3.out] at hR; rw [above21 hR]; decide)).mono ?_
  rintro e w2 ⟨R, v2, q2, hch, hn, rfl, hr2, hd2, hm2, hg2, -⟩
  rw [X3.out] at hch
  have hR := above21 hch
  subst hR
  have G2 := Lib.hid hg2
  have hl2 : q2.length = 1 := by have := congrArg List.length hm2; simpa using this
  have e2 : (q2[0]'(by omega)).2 = [2, 1] := by
    have h5 : (q2.map Prod.snd)[0]? = some [2, 1] := by rw [hm2]; rfl
    rw [List.getElem?_map, List.getElem?_eq_getElem (by omega)] at h5
    simpa using h5
  obtain ⟨a2, c2, rfl⟩ : ∃ a c, v2 = .slice a 1 c := by obtain ⟨a, c, h, -⟩ := hr2; rw [hl2] at h; exact ⟨a, c, h⟩
  obtain ⟨b2, off2, x2, y2, rfl, hc2, hi2⟩ := rows_cell hr2 (k := 0) (by omega)
  rw [e2] at hc2 hi2
  obtain ⟨b3, o3, rfl, hj3⟩ := hi2 0 (by decide)
  have d0 := hc2 w2 (grown_refl _ _)
  have d1 := hj3 w2 (grown_refl _ _)
  obtain ⟨k0, k1, k2, k3, k4⟩ := HC.out w2 hg2
  rw [Nat.add_zero] at d0 d1
  have d2 : ((([2, 1] : List Int)[0]?).getD 0) = 2 := rfl
  rw [d2] at d1
  clear hch hn hr2 hd2 hm2 hg2 hc2 hi2 hj3 e2 hl2 d2
  have HG12 := Lib.hid (grown_trans G1.out G2.out)
  go_wp2_with fail
  clear d0 d1 k0 k1 k2 k3 k4
  have hgA := World.grownBy_alloc w2 (.cells #[.int .i64 9, .int .i64 0] 3) none
  refine (has_any 2 _ _ q1 [9, 0] _ (X1.out.same (grown_trans G2.out hgA)) X2.out HLK.out (row_lit2 w2 9 0 (by decide) (by decide)) rfl (by decide)).mono ?_
  rintro e w3 ⟨rfl, hg3⟩
  have G3 := Lib.hid (grown_trans G2.out (grown_trans hgA hg3))
  rw [snd_any q1 (leqI [9, 0]), X3.out]
  rw [show ([[1, 1099511627776], [1099511627776, 0]] : List (List Int)).any (leqI [9, 0]) = true by decide]
  clear hg3 hgA
  go_wp2_with fail
  have hgB := World.grownBy_alloc w3 (.cells #[.int .i64 2, .int .i64 1] 3) none
  refine (has_any 2 _ _ q1 [2, 1] _ (X1.out.same (grown_trans G3.out hgB)) X2.out HLK.out (row_lit2 w3 2 1 (by decide) (by decide)) rfl (by decide)).mono ?_
  rintro e w4 ⟨rfl, hg4⟩
  have G4 := Lib.hid (grown_trans G3.out (grown_trans hgB hg4))
  rw [snd_any q1 (leqI [2, 1]), X3.out]
  rw [show ([[1, 1099511627776], [1099511627776, 0]] : List (List Int)).any (leqI [2, 1]) = false by decide]
  clear hg4 hgB
  go_wp2_with fail
  refine (check_ok 2 _ q1 _ (X1.out.same G4.out) X2.out HLK.out).mono ?_
  rintro e w5 ⟨rfl, hg5⟩
  have G5 := Lib.hid (grown_trans G4.out hg5)
  clear hg5
  go_wp2_with fail
  go_ret
  exact ⟨rfl, grown_trans G1.out G5.out⟩
end Go.Proofs.Ytahffjoehjpfkaa
