/- The sanity check of law 12. -/
import Derived.Test.YtgcfafjgaifmiaaEo
namespace Go.Proofs.Ytgcfafjgaifmiaa
open Go.ChangeShapes Go.WideShapes Go.ChangeAt Go.RowKit
set_option linter.unusedVariables false

/-- A cell of a row of rows. -/
theorem rowcell {w : World} {a : Option Addr} {n cap : Nat} {qs : List Row} (h : RowsP w (.slice a n cap) qs) (k : Nat) (row : List Int) (hk : (qs.map Prod.snd)[k]? = some row) (h0 : 0 < row.length) :
    ∃ b off b2 o2 c2, a = some ⟨b, off, none⟩ ∧ w.cell? ⟨b, off + k, none⟩ = some (.slice (some ⟨b2, o2, none⟩) row.length c2) ∧ ∀ j, j < row.length → w.cell? ⟨b2, o2 + j, none⟩ = some (.int .i64 (row[j]?.getD 0)) := by
  have hlt : k < qs.length := by
    have := (List.getElem?_eq_some_iff.1 hk).1
    simpa using this
  have e : qs[k].2 = row := by
    rw [List.getElem?_map, List.getElem?_eq_getElem hlt] at hk
    simpa using hk
  obtain ⟨b, off, a2, c2, rfl, hc, hr, hi⟩ := h.row hlt
  rw [e] at hc hi
  obtain ⟨_, _, hv, _, _, hx⟩ := hi
  simp only [Value.slice.injEq] at hv
  obtain ⟨rfl, -, -⟩ := hv
  rcases hx with rfl | ⟨b2, o2, rfl, hx⟩
  · simp at h0
  · exact ⟨b, off, b2, o2, c2, rfl, hc, hx⟩
theorem vec1 (w : World) (xs : List Int) (n : Nat) (hn : xs.length = n) (hm : n ≤ 100) (hb : ∀ x ∈ xs, -9223372036854775808 ≤ x ∧ x ≤ 9223372036854775807) :
    Ints (w.alloc (.cells (xs.map (Value.int .i64)).toArray 3)) (.slice (some ⟨w.heap.size, 0, none⟩) n n) xs :=
  (rowb xs n n (heap_new _ rfl) hn (by unfold maxLen; omega) hb (by rw [List.take_of_length_le (by simp [hn])]) (Nat.le_refl _)).1
theorem awake_split {L : List (List Int)} (h : SplitOk [[2, 1]] [4, 2] L) : L = [[2, 1], [2, 1]] := by
  have key : ∀ {i : Nat} {p : List Int}, ([[2, 1]] : List (List Int))[i]? = some p → i = 0 ∧ p = [2, 1] := by
    intro i p h
    match i, h with
    | 0, h => simp at h; exact ⟨rfl, h.symm⟩
    | _ + 1, h => simp at h
  cases h with
  | nil h => exact absurd h (by decide)
  | cons i h1 h2 h3 h4 =>
    obtain ⟨rfl, rfl⟩ := key h2
    cases h4 with
    | nil h => exact absurd h (by decide)
    | cons i h1 h2 h3 h4 =>
      obtain ⟨rfl, rfl⟩ := key h2
      cases h4 with
      | nil h => rfl
      | cons i h1 h2 h3 h4 => exact absurd h1 (by decide)
theorem awake_sol (v : Value) : solB [(v, [1, -2])] (zerosL 1) [4, 2] = true := rfl
set_option maxRecDepth 100000 in
theorem awake_free (v : Value) : minL (goodB [(v, [1, -2])] (zerosL 1) someB) (vecs 2 4) = [[2, 1]] := by rfl
set_option maxRecDepth 100000 in
theorem awake_free6 (v : Value) : minL (goodB [(v, [1, -2])] (zerosL 1) someB) (vecs 2 6) = [[2, 1]] := by rfl
set_option maxRecDepth 100000 in
theorem awake_min (v : Value) : minL (goodB [(v, [1, -2])] [1] (fun _ => true)) (vecs 2 4) = [[1, 0]] := by rfl
theorem awake_ok (v : Value) : MatOkP 1 2 [(v, [1, -2])] := ⟨rfl, by omega, by omega, by omega, by omega, by omega, by simp⟩
set_option maxRecDepth 100000 in
set_option maxHeartbeats 4000000 in
theorem awake12_any (w : World) : Calls Try.prog 8 #[] w fun e w' => e = .returned (.bool true) ∧ w.grownBy w' none := by
  go_enter Try.func8, Try.ntmps8
  go_wp2_with fail
  have HA := Lib.hid (lit1 w [1, -2] 2 rfl (by omega) (by decide))
  have HG0 := Lib.hid (show w.grownBy ((w.alloc (.cells ([1, -2].map (Value.int .i64)).toArray 3)).alloc (.cells #[.slice (some ⟨w.heap.size, 0, none⟩) 2 2] 22)) none from grown_aft (World.grownBy_alloc w _ none))
  refine (Free_any (mst := 4) HA.out (awake_ok _) (by omega) (by omega) (by omega)).mono ?_
  rintro e w1 ⟨v1, f, rfl, ho, hq, hg⟩
  rw [awake_free] at hq
  obtain ⟨af, cf, rfl⟩ := ho.slice
  have hfl : f.length = 1 := by rw [← List.length_map (f := Prod.snd), hq]; rfl
  obtain ⟨b, off, b2, o2, c2, rfl, k1, k2⟩ := rowcell ho.rowsP 0 [2, 1] (by rw [hq]; rfl) (by decide)
  have k3 := k2 0 (by decide); have k4 := k2 1 (by decide)
  simp only [Nat.add_zero] at k1 k3 k4
  have K := Lib.hid (And.intro k1 (And.intro k3 k4))
  have G1 := Lib.hid hg
  rw [hfl]
  clear ho hq hg k1 k2 k3 k4 hfl
  go_wp2_with fail
  refine (Split_any (r := 1) (c := 2) (x := [4, 2]) (s := 6) (HA.out.same (grown_aft G1.out)) (awake_ok _) (by omega) (by omega) (vec1 w1 [4, 2] 2 rfl (by omega) (by decide)) ⟨by decide, by decide⟩ (by decide) (by omega) (awake_sol _)).mono ?_
  rintro e w2 ⟨v2, s, rfl, hr, hgd, hs, hg, -⟩
  rw [awake_free6] at hs
  have hq := awake_split hs
  obtain ⟨aS, cs, rfl, -⟩ : ∃ a cap, v2 = .slice a s.length cap ∧ True := by obtain ⟨a, cap, h, -⟩ := hr; exact ⟨a, cap, h, trivial⟩
  have hsl : s.length = 2 := by rw [← List.length_map (f := Prod.snd), hq]; rfl
  obtain ⟨bs, offs, b3, o3, c3, rfl, s1, s2⟩ := rowcell hr 1 [2, 1] (by rw [hq]; rfl) (by decide)
  obtain ⟨bs', offs', b4, o4, c4, e4, s5, -⟩ := rowcell hr 0 [2, 1] (by rw [hq]; rfl) (by decide)
  cases e4
  have s3 := s2 0 (by decide)
  simp only [Nat.add_zero] at s3 s5
  have HS0 : Hid (Ints w2 (.slice (some ⟨b4, o4, none⟩) 2 c4) [2, 1]) := Lib.hid (by
    obtain ⟨b9, off9, a9, c9, e1, h1, h2, h3⟩ := hr.row (k := 0) (by omega)
    cases e1
    rw [Nat.add_zero, s5] at h1
    have e2 : s[0].2 = [2, 1] := by
      have : (s.map Prod.snd)[0]? = some [2, 1] := by rw [hq]; rfl
      rw [List.getElem?_map, List.getElem?_eq_getElem (by omega)] at this
      simpa using this
    rw [e2] at h1 h3
    cases h1
    exact h3)
  have SS := Lib.hid (And.intro s1 (And.intro s3 s5))
  have G2 := Lib.hid (grown_trans (World.grownBy_alloc w1 _ none) hg)
  rw [hsl]
  clear hr hgd hs hg hq s1 s2 s3 s5 hsl
  go_wp2_with fail
  refine (Minimal_any (r := 1) (c := 2) (bs := [1]) (mst := 4) (HA.out.same (grown_aft (grown_trans G1.out G2.out))) (awake_ok _) (by omega) (by omega) (vec1 w2 [1] 1 rfl (by omega) (by decide)) ⟨by decide, by decide⟩ (by omega)).mono ?_
  rintro e w3 ⟨v3, x, rfl, ho, hq, hg⟩
  rw [awake_min] at hq
  obtain ⟨ax, cx, rfl⟩ := ho.slice
  have hxl : x.length = 1 := by rw [← List.length_map (f := Prod.snd), hq]; rfl
  obtain ⟨bx, ox, b5, o5, c5, rfl, x1, x2⟩ := rowcell ho.rowsP 0 [1, 0] (by rw [hq]; rfl) (by decide)
  have x3 := x2 0 (by decide)
  simp only [Nat.add_zero] at x1 x3
  have G3 := Lib.hid (grown_trans (World.grownBy_alloc w2 _ none) hg)
  rw [hxl]
  clear ho hq hg x2 hxl
  have G23 := Lib.hid (grown_trans G2.out G3.out)
  have G123 := Lib.hid (grown_trans G1.out G23.out)
  have k1 := G23.out.cell K.out.1 (by simp); have k3 := G23.out.cell K.out.2.1 (by simp); have k4 := G23.out.cell K.out.2.2 (by simp)
  have s1 := G3.out.cell SS.out.1 (by simp); have s3 := G3.out.cell SS.out.2.1 (by simp); have s5 := G3.out.cell SS.out.2.2 (by simp)
  go_wp2_with fail
  refine (hcheck_any (r := 1) (c := 2) (bs := [1]) (HA.out.same (grown_aft G123.out)) (awake_ok _) (by omega) (by omega) (vec1 w3 [1] 1 rfl (by omega) (by decide)) ⟨by decide, by decide⟩).mono ?_
  rintro e w4 ⟨rfl, hw⟩
  replace hw := hw.symm
  subst hw
  have s5' : ((w3.alloc (.cells #[.int .i64 1] 3)).alloc (.cells #[.int .i64 0] 3)).cell? ⟨bs, offs, none⟩ = _ := (grown_aft (World.grownBy_alloc w3 _ none)).cell s5 (by simp)
  clear k1 k3 k4 s1 s3 x1 x3
  go_wp2_with fail
  have hz0 : Ints ((w3.alloc (.cells #[.int .i64 1] 3)).alloc (.cells #[.int .i64 0] 3)) (.slice (some ⟨w3.heap.size + 1, 0, none⟩) 1 1) [0] := by
    have := vec1 (w3.alloc (.cells #[.int .i64 1] 3)) [0] 1 rfl (by omega) (by decide)
    rw [size_al] at this
    exact this
  refine (hsolves_any (r := 1) (c := 2) (bs := [0]) (x := [2, 1]) (HA.out.same (grown_aft (grown_aft G123.out))) (awake_ok _) (by omega) (by omega) hz0 ⟨by decide, by decide⟩ (HS0.out.same (grown_aft (grown_aft G3.out))) ⟨by decide, by decide⟩).mono ?_
  rintro e w5 ⟨rfl, hg⟩
  have G5 := Lib.hid (grown_trans (grown_aft (grown_aft G123.out)) hg)
  clear hg s5 s5' hz0
  rw [show ∀ v, solB [(v, [1, -2])] [0] [2, 1] = true from fun _ => rfl]
  go_wp2_with fail
  go_ret
  exact ⟨rfl, grown_trans HG0.out G5.out⟩
end Go.Proofs.Ytgcfafjgaifmiaa
