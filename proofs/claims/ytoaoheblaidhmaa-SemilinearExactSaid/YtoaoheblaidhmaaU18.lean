/- Texts Th, Ti, Gd in one. -/
import Derived.Test.YtoaoheblaidhmaaU16
import Derived.Test.YtoaoheblaidhmaaRows
import Derived.Test.YtoaoheblaidhmaaU1
namespace Go.Proofs.Ytoaoheblaidhmaa
open Go.RowKit
set_option linter.unusedVariables false

theorem least01 {r : Option (List Int)} (h : Least [[1, 1], [2, 0]] [3, 1] r) : r = some [1, 1] := by
  cases r with
  | none => exact absurd (show Sol [[1, 1], [2, 0]] [1, 1] [3, 1] by simp [Sol, subk]) (h _)
  | some ks =>
    have h1 := h.1
    match ks, h1 with
    | [a, b], h1 =>
      simp [Sol, subk] at h1
      have e1 : a = 1 := by omega
      have e2 : b = 1 := by omega
      rw [e1, e2]
theorem valid01 : ValidS 2 [1, 0] [[1, 1], [2, 0]] := by
  refine ⟨by omega, by omega, rfl, by simp, ?_, by simp, ?_⟩
  · intro p hp
    simp only [List.mem_cons, List.not_mem_nil, or_false] at hp
    rcases hp with rfl | rfl
    · exact ⟨⟨rfl, by simp⟩, ⟨1, by simp, by omega⟩, by simp⟩
    · exact ⟨⟨rfl, by simp⟩, ⟨2, by simp, by omega⟩, by simp⟩
  · simp [Asc, compareI, lexI]
theorem any01 : SolE [[1, 1], [2, 0]] (lessL [1, 0] [1, 0]) := ⟨[0, 0], by simp [Sol, subk, lessL]⟩
theorem within01 : WithinP [1, 0] [[1, 1], [2, 0]] [1, 0] [[1, 1], [2, 0]] := by
  refine ⟨any01, ?_⟩
  intro p hp
  simp only [List.mem_cons, List.not_mem_nil, or_false] at hp
  rcases hp with rfl | rfl
  · exact ⟨[1, 0], by simp [Sol, subk]⟩
  · exact ⟨[0, 1], by simp [Sol, subk]⟩

def LitW (w : World) : World := (((((w.alloc (.cells #[.int .i64 1, .int .i64 0] 3)).alloc (.cells #[.int .i64 1, .int .i64 1] 3)).alloc (.cells #[.int .i64 2, .int .i64 0] 3)).alloc (.cells #[.slice (some ⟨w.heap.size + 1, 0, none⟩) 2 2, .slice (some ⟨w.heap.size + 1 + 1, 0, none⟩) 2 2] 22)).alloc (.cells #[.slice (some ⟨w.heap.size, 0, none⟩) 2 2, .slice (some ⟨w.heap.size + 1 + 1 + 1, 0, none⟩) 2 2] 26))
def litU (w : World) : SetE := ((.slice (some ⟨w.heap.size, 0, none⟩) 2 2, .slice (some ⟨w.heap.size + 1 + 1 + 1, 0, none⟩) 2 2), ([1, 0], [[1, 1], [2, 0]]))
theorem lit_row {w : World} {g : Nat} {x y : Int} {e : TypeId} {f : Nat × Nat} (h : w.heap[g]? = some (.cells #[.int .i64 x, .int .i64 y] e f)) (hb : -9223372036854775808 ≤ x ∧ x ≤ 9223372036854775807 ∧ -9223372036854775808 ≤ y ∧ y ≤ 9223372036854775807) : RowOk w (.slice (some ⟨g, 0, none⟩) 2 2, [x, y]) :=
  row_blk [x, y] 2 2 h rfl (by decide) (by intro z hz; simp at hz; rcases hz with rfl | rfl <;> omega) rfl (Nat.le_refl _)
theorem lit_facts (w : World) : SetOk (LitW w) 2 (litU w) ∧ (LitW w).cell? ⟨w.heap.size + 1 + 1 + 1 + 1, 0, none⟩ = some (.slice (some ⟨w.heap.size, 0, none⟩) 2 2) ∧ (LitW w).cell? ⟨w.heap.size + 1 + 1 + 1 + 1, 1, none⟩ = some (.slice (some ⟨w.heap.size + 1 + 1 + 1, 0, none⟩) 2 2) ∧ w.grownBy (LitW w) none ∧ w.heap.size + 1 + 1 + 1 + 1 + 1 = (LitW w).heap.size := by
  have h0 : (LitW w).heap[w.heap.size]? = some (.cells #[.int .i64 1, .int .i64 0] 3 (0, 0)) := (heap_old _ (heap_old _ (heap_old _ (heap_old _ (heap_new _ rfl)))))
  have h1 : (LitW w).heap[w.heap.size + 1]? = some (.cells #[.int .i64 1, .int .i64 1] 3 (0, 0)) := (heap_old _ (heap_old _ (heap_old _ (heap_new _ (by show _ = (w.heap.push _).size; simp)))))
  have h2 : (LitW w).heap[w.heap.size + 1 + 1]? = some (.cells #[.int .i64 2, .int .i64 0] 3 (0, 0)) := (heap_old _ (heap_old _ (heap_new _ (by show _ = ((w.heap.push _).push _).size; simp))))
  have h3 : (LitW w).heap[w.heap.size + 1 + 1 + 1]? = some (.cells #[.slice (some ⟨w.heap.size + 1, 0, none⟩) 2 2, .slice (some ⟨w.heap.size + 1 + 1, 0, none⟩) 2 2] 22 (0, 0)) := (heap_old _ (heap_new _ (by show _ = (((w.heap.push _).push _).push _).size; simp)))
  have h4 : (LitW w).heap[w.heap.size + 1 + 1 + 1 + 1]? = some (.cells #[.slice (some ⟨w.heap.size, 0, none⟩) 2 2, .slice (some ⟨w.heap.size + 1 + 1 + 1, 0, none⟩) 2 2] 26 (0, 0)) := (heap_new _ (by show _ = ((((w.heap.push _).push _).push _).push _).size; simp))
  refine ⟨⟨⟨_, _, [(.slice (some ⟨w.heap.size + 1, 0, none⟩) 2 2, [1, 1]), (.slice (some ⟨w.heap.size + 1 + 1, 0, none⟩) 2 2, [2, 0])], rfl, lit_row h0 (by omega), rows_blk _ 2 2 h3 rfl (by decide) rfl ?_, Good.some _ (Nat.le_refl _), rfl⟩, valid01⟩, (cells_of h4).1, (cells_of h4).2, grown_after (grown_after (grown_after (grown_after (grown_after (grown_refl _ _))))), ?_⟩
  · intro q hq
    simp only [List.mem_cons, List.not_mem_nil, or_false] at hq
    rcases hq with rfl | rfl
    · exact lit_row h1 (by omega)
    · exact lit_row h2 (by omega)
  · show _ = (((((w.heap.push _).push _).push _).push _).push _).size
    simp
/-- The cells of a row of two numbers. -/
theorem two_at {w : World} {v : Value} {x y : Int} (h : RowOk w (v, [x, y])) : ∃ b off c, v = .slice (some ⟨b, off, none⟩) 2 c ∧ w.cell? ⟨b, off, none⟩ = some (.int .i64 x) ∧ w.cell? ⟨b, off + 1, none⟩ = some (.int .i64 y) := by
  obtain ⟨⟨a, cap, hv, -, -, hc⟩, -, -⟩ := h
  rcases hc with hc | ⟨b, off, rfl, hc⟩
  · simp at hc
  · exact ⟨b, off, cap, hv, by simpa using hc 0 (by simp), by simpa using hc 1 (by simp)⟩

set_option maxRecDepth 100000 in
set_option maxHeartbeats 2000000 in
theorem awake13_any (w : World) :
    Calls Try.prog 8 #[] w fun e w' => e = .returned (.bool true) ∧ w.grownBy w' none := by
  go_enter Try.func8, Try.ntmps8
  go_wp2_with fail
  obtain ⟨hS, hb0, hb1, hgW, hsz⟩ := lit_facts w
  generalize hW : World.alloc _ (.cells #[.slice (some ⟨w.heap.size, 0, none⟩) 2 2, .slice (some ⟨w.heap.size + 1 + 1 + 1, 0, none⟩) 2 2] 26) = W
  have hWL : LitW w = W := hW
  rw [hWL] at hS hb0 hb1 hgW hsz
  clear hW hWL
  generalize hbx : w.heap.size + 1 + 1 + 1 + 1 = bx at *
  have S1 := Lib.hid hS; have C0 := Lib.hid hb0; have C1 := Lib.hid hb1; have GW := Lib.hid hgW
  clear hS hb0 hb1 hgW hbx
  have g1 : Hid (W.grownBy (W.alloc (.cells #[.int .i64 4, .int .i64 1] 3)) none) := Lib.hid (World.grownBy_alloc _ _ _)
  refine (Times_any 2 _ _ [1, 0] [4, 1] [[1, 1], [2, 0]] _ (S1.out.same g1.out).1 valid01 (lit_row (heap_new _ hsz) (by omega)) rfl (by decide)).mono ?_
  rintro e w2 ⟨r, hl, v2, rfl, ho, hg⟩
  obtain rfl := least01 hl
  have hr2 := ho.row (xs := [1, 1]) (by simp)
  have R2 := Lib.hid hr2
  obtain ⟨b2, o2, c2, rfl, q0, q1⟩ := two_at hr2
  have G2 := Lib.hid (grown_trans g1.out hg)
  clear hl ho hg g1 hr2
  have c0 := G2.out.cell C0.out (by simp); have c1 := G2.out.cell C1.out (by simp)
  go_wp2_with fail
  have g2 : Hid (W.grownBy (w2.alloc (.cells #[.int .i64 0, .int .i64 3] 3)) none) := Lib.hid (grown_after G2.out)
  refine (Shift_any 2 (litU w) _ [0, 3] _ (S1.out.same g2.out) (lit_row (heap_new _ rfl) (by omega)) rfl (by decide) (by simp [sumL, litU])).mono ?_
  rintro e w3 ⟨vb3, vp3, q3, rfl, hr3, hp3, -, -, hg3, -, -⟩
  have e3 : sumL (litU w).2.1 [0, 3] = [1, 3] := rfl
  rw [e3] at hr3
  have R3 := Lib.hid hr3
  obtain ⟨b3, o3, c3, rfl, -, -⟩ := two_at hr3
  obtain ⟨a3, cp3, rfl, -, -, -⟩ := hp3
  have G3 := Lib.hid (grown_trans g2.out hg3)
  replace R2 := Lib.hid (R2.out.same (grown_trans (World.grownBy_alloc _ _ none) hg3))
  clear hr3 hg3 e3 c0 c1 q0 q1 g2
  have hg4 : w3.grownBy (w3.alloc (.cells #[.slice (some ⟨b3, o3, none⟩) 2 c3, .slice a3 q3.length cp3] 26)) none := World.grownBy_alloc _ _ _
  have T0 := Lib.hid (cells_of (heap_new (w := w3) (.cells #[.slice (some ⟨b3, o3, none⟩) 2 c3, .slice a3 q3.length cp3] 26) rfl)).1
  have G4 := Lib.hid (grown_trans G3.out hg4)
  replace R2 := Lib.hid (R2.out.same hg4); replace R3 := Lib.hid (R3.out.same hg4)
  have k0 := G4.out.cell C0.out (by simp); have k1 := G4.out.cell C1.out (by simp)
  clear hg4
  obtain ⟨b2', o2', c2', hv2, m0, m1⟩ := two_at R2.out
  simp only [Value.slice.injEq, Option.some.injEq, Addr.mk.injEq, and_true] at hv2
  obtain ⟨⟨rfl, rfl⟩, -, rfl⟩ := hv2
  go_wp2_with fail
  clear k0 k1 m0 m1
  have g5 : Hid ((w3.alloc (.cells #[.slice (some ⟨b3, o3, none⟩) 2 c3, .slice a3 q3.length cp3] 26)).grownBy ((w3.alloc (.cells #[.slice (some ⟨b3, o3, none⟩) 2 c3, .slice a3 q3.length cp3] 26)).alloc (.cells #[.int .i64 4, .int .i64 1] 3)) none) := Lib.hid (World.grownBy_alloc _ _ _)
  have hr5 : RowOk ((w3.alloc (.cells #[.slice (some ⟨b3, o3, none⟩) 2 c3, .slice a3 q3.length cp3] 26)).alloc (.cells #[.int .i64 4, .int .i64 1] 3)) (.slice (some ⟨w3.heap.size + 1, 0, none⟩) 2 2, [4, 1]) := lit_row (heap_new _ (by show _ = (w3.heap.push _).size; simp)) (by omega)
  refine (proves_any 2 _ _ _ [1, 0] [4, 1] [1, 1] [[1, 1], [2, 0]] _ (S1.out.same (grown_trans G4.out g5.out)).1 valid01 hr5 (R2.out.same g5.out) rfl (by simp)).mono ?_
  rintro e w6 ⟨rfl, hg6⟩
  rw [show (madeL [1, 0] [[1, 1], [2, 0]] [1, 1] == [4, 1]) = true by decide]
  have g6 := grown_trans g5.out hg6
  have G6 := Lib.hid (grown_trans G4.out g6)
  replace R3 := Lib.hid (R3.out.same g6); replace T0 := Lib.hid (g6.cell T0.out (by simp))
  clear hg6 g6 g5 hr5 R2
  have k0 := G6.out.cell C0.out (by simp); have k1 := G6.out.cell C1.out (by simp)
  go_wp2_with fail
  clear k0 k1
  have g7 : Hid (w6.grownBy ((w6.alloc (.cells #[.slice (some ⟨w.heap.size, 0, none⟩) 2 2, .slice (some ⟨w.heap.size + 1 + 1 + 1, 0, none⟩) 2 2] 26)).alloc (.cells #[.int .i64 1, .int .i64 0] 3)) none) := Lib.hid (grown_after (grown_after (grown_refl _ _)))
  have hr7 : RowOk ((w6.alloc (.cells #[.slice (some ⟨w.heap.size, 0, none⟩) 2 2, .slice (some ⟨w.heap.size + 1 + 1 + 1, 0, none⟩) 2 2] 26)).alloc (.cells #[.int .i64 1, .int .i64 0] 3)) (.slice (some ⟨w6.heap.size + 1, 0, none⟩) 2 2, [1, 0]) := lit_row (heap_new _ (by show _ = (w6.heap.push _).size; simp)) (by omega)
  have hc7 : CellsS ((w6.alloc (.cells #[.slice (some ⟨w.heap.size, 0, none⟩) 2 2, .slice (some ⟨w.heap.size + 1 + 1 + 1, 0, none⟩) 2 2] 26)).alloc (.cells #[.int .i64 1, .int .i64 0] 3)) w6.heap.size 0 ([litU w].map Prod.fst) := cells_one (heap_old _ (heap_new _ rfl))
  refine (has_any 2 w6.heap.size 0 1 [litU w] _ [1, 0] _ (by omega) (by omega) hc7 (by intro u hu; rw [List.mem_singleton.1 hu]; exact S1.out.same (grown_trans G6.out g7.out)) (by simp) hr7 rfl (by decide)).mono ?_
  rintro e w7 ⟨B, rfl, hB, hg7⟩
  have hB1 : B = true := hB.2 ⟨litU w, by simp, any01⟩
  subst hB1
  have g8 := grown_trans g7.out hg7
  have G7 := Lib.hid (grown_trans G6.out g8)
  replace R3 := Lib.hid (R3.out.same g8); replace T0 := Lib.hid (g8.cell T0.out (by simp))
  clear hB hg7 g8 g7 hr7 hc7
  have k0 := G7.out.cell C0.out (by simp); have k1 := G7.out.cell C1.out (by simp)
  have t0 := T0.out
  obtain ⟨b3', o3', c3', hv3, -, m1⟩ := two_at R3.out
  simp only [Value.slice.injEq, Option.some.injEq, Addr.mk.injEq, and_true] at hv3
  obtain ⟨⟨rfl, rfl⟩, -, rfl⟩ := hv3
  go_wp2_with fail
  clear k0 k1 t0 m1
  refine (Within_any 2 (litU w) (litU w) _ (S1.out.same G7.out) (S1.out.same G7.out)).mono ?_
  rintro e w8 ⟨B, rfl, hB, hg8⟩
  have hB1 : B = true := hB.2 within01
  subst hB1
  have G8 := Lib.hid (grown_trans G7.out hg8)
  clear hB hg8
  have k0 := G8.out.cell C0.out (by simp); have k1 := G8.out.cell C1.out (by simp)
  go_wp2_with fail
  clear k0 k1
  have g9 : Hid (w8.grownBy (w8.alloc (.cells #[.slice (some ⟨w.heap.size, 0, none⟩) 2 2, .slice (some ⟨w.heap.size + 1 + 1 + 1, 0, none⟩) 2 2] 26)) none) := Lib.hid (World.grownBy_alloc _ _ _)
  refine (check_any 2 (by omega) (by omega) [(.slice (some ⟨w.heap.size, 0, none⟩) 2 2, .slice (some ⟨w.heap.size + 1 + 1 + 1, 0, none⟩) 2 2)] w8.heap.size 0 1 _ (cells_one (heap_new _ rfl)) (by intro u hu; rw [List.mem_singleton.1 hu]; exact ⟨_, _, (S1.out.same (grown_trans G8.out g9.out)).1, valid01⟩) (by simp)).mono ?_
  rintro e w9 ⟨rfl, hg9⟩
  have G9 := Lib.hid (grown_trans GW.out (grown_trans (grown_trans G8.out g9.out) hg9))
  clear hg9
  go_wp2_with fail
  go_ret
  exact ⟨rfl, G9.out⟩

end Go.Proofs.Ytoaoheblaidhmaa

namespace Go.Proofs.Ytoaoheblaidhmaa
open Go.RowKit
set_option linter.unusedVariables false

/-- A slice of slices, all of it behind a block. -/
def FarR (d : Nat) (v : Value) (ps : List Row) : Prop := (∀ g, v.ownBlock = some g → d < g) ∧ ∀ p ∈ ps, ∀ g, p.1.ownBlock = some g → d < g
def GotF (d : Nat) (rs : List (List Int)) (w : World) (e : Ending) (w' : World) : Prop := ∃ v qs, e = .returned v ∧ RowsP w' v qs ∧ Good v ∧ qs.map Prod.snd = rs ∧ w.grownBy w' none ∧ FarR d v qs
theorem farR_put {d k : Nat} {u v : Value} {ps : List Row} {p : Row} (h : FarR d u ps) (hp : ∀ g, p.1.ownBlock = some g → d < g) (hv : ∀ g, v.ownBlock = some g → d < g) : FarR d v ([] ++ ps.take k ++ [p] ++ ps.drop k) := by
  refine ⟨hv, fun q hq g hg => ?_⟩
  simp only [List.nil_append, List.mem_append, List.mem_singleton] at hq
  rcases hq with (hq | rfl) | hq
  · exact h.2 q (List.mem_of_mem_take hq) g hg
  · exact hp g hg
  · exact h.2 q (List.mem_of_mem_drop hq) g hg

set_option maxRecDepth 100000 in
set_option maxHeartbeats 4000000 in
theorem put_far (d : Nat) (vl vr : Value) (ps : List Row) (r : List Int) (w : World) (h : RowsP w vl ps) (hgl : Good vl) (h' : RowOk w (vr, r)) (hl : ps.length ≤ 1000000) (hlr : r.length ≤ 1000000) (hfd : d < w.heap.size) (hfr : FarR d vl ps) :
    Calls Try.prog 34 #[vl, vr] w (GotF d (putL (ps.map Prod.snd) r) w) := by
  have HFR := Lib.hid hfr; have HFD := Lib.hid hfd
  have H := Lib.hid h; have H' := Lib.hid h'; have HGL := Lib.hid hgl
  obtain ⟨a, cap, rfl, -, -, -⟩ := h
  clear h' hgl hfr hfd
  go_enter Try.func34, Try.ntmps34
  go_wp2_with fail
  go_loopw [5] (fun i wr => ∃ k n : Nat, k ≤ ps.length ∧ i = .int .i64 k ∧ Hid (∀ j, j < k → compareI ((ps.map Prod.snd)[j]?.getD []) r < 0) ∧ wr = w.drewN n) (fun i _ => ps.length - (intOf i).toNat)
  case atStart => exact ⟨0, 0, Nat.zero_le _, rfl, Lib.hid (by omega), rfl⟩
  case round =>
    obtain ⟨k, n, hk, rfl, HA, rfl⟩ := hrel
    by_cases hlt : k < ps.length
    · have h1 : (k : Int) < (ps.length : Int) := by omega
      have h1' : decide (k < ps.length) = true := by simpa using hlt
      obtain ⟨_, _, hv, _, hc, hr⟩ := H.out
      simp only [Value.slice.injEq] at hv
      obtain ⟨rfl, -, -⟩ := hv
      obtain ⟨b, off, rfl, hx⟩ := RowsP.at hc hlt
      have R1 := Lib.hid (hr _ (List.getElem_mem hlt))
      have S1 := Lib.hid (snd_at ps k hlt)
      clear hc hr
      generalize ps[k] = p at *
      by_cases hp : compareI p.2 r < 0
      · have h3 : decide (compareI p.2 r < 0) = true := by simpa using hp
        have HP := Lib.hid hp
        clear hp
        go_wp2_with fail
        refine (rcompare_any _ _ _ _ _ (R1.out.same (grown_drewN _ _ none)).1 (H'.out.same (grown_drewN _ _ none)).1).mono ?_
        rintro e w1 ⟨rfl, m, rfl⟩
        go_wp2_with fail
        go_roundw
        case rel => exact ⟨k + 1, n + m, by omega, by go_num, Lib.hid (fun j hj => by
          rcases Nat.lt_or_ge j k with h | h
          · exact HA.out j h
          · obtain rfl : j = k := by omega
            rw [S1.out]; exact HP.out), by simp⟩
        case measure => simp [intOf]; omega
      · have h3 : decide (compareI p.2 r < 0) = false := by simpa using hp
        have HP := Lib.hid (Int.not_lt.1 hp)
        clear hp
        go_wp2_with fail
        refine (rcompare_any _ _ _ _ _ (R1.out.same (grown_drewN _ _ none)).1 (H'.out.same (grown_drewN _ _ none)).1).mono ?_
        rintro e w1 ⟨rfl, m, rfl⟩
        go_wp2_with fail
        by_cases he : p.2 = r
        · have h4 : (p.2 == r) = true := by simp [he]
          have HE := Lib.hid he
          clear he
          refine (same_any _ _ _ _ _ (R1.out.same (grown_drewN _ _ none)).1 (H'.out.same (grown_drewN _ _ none)).1).mono ?_
          rintro e w2 ⟨rfl, m2, rfl⟩
          go_wp2_with fail
          go_ret
          exact ⟨_, ps, rfl, H.out.same (grown_drewN _ _ none), HGL.out, by rw [putL_at r (ps.map Prod.snd) k (by simpa using hk) HA.out (fun _ => by rw [S1.out]; exact Int.not_lt.2 HP.out), if_pos ⟨by simpa using hlt, by rw [S1.out, HE.out]⟩], grown_drewN _ _ none, HFR.out⟩
        · have h4 : (p.2 == r) = false := by simp [he]
          have HE : Hid (putL (ps.map Prod.snd) r = (ps.map Prod.snd).take k ++ r :: (ps.map Prod.snd).drop k) := Lib.hid (by rw [putL_at r (ps.map Prod.snd) k (by simpa using hk) HA.out (fun _ => by rw [S1.out]; exact Int.not_lt.2 HP.out), if_neg (by rw [S1.out]; exact fun h => he h.2)])
          clear he
          refine (same_any _ _ _ _ _ (R1.out.same (grown_drewN _ _ none)).1 (H'.out.same (grown_drewN _ _ none)).1).mono ?_
          rintro e w2 ⟨rfl, m2, rfl⟩
          obtain ⟨at', ct, hrun, hrt⟩ := rows_tail H.out HGL.out hk
          have RT := Lib.hid hrt
          have RH := Lib.hid (rows_head H.out hk)
          have HRW := Lib.hid (rows_rows H.out)
          have G : Hid (w.grownBy (w.drewN (n + m + m2)).drew none) := Lib.hid (grown_trans (grown_drewN _ _ none) (grown_drew _ none))
          have hk9 : ([] : List Row).length + (ps.take k).length ≤ 1000000000000 := by simp; omega
          have hk10 : (ps.take k).length ≤ 1000000000000 := by simp; omega
          have hk11 : ∀ p : Row, ([] ++ ps.take k ++ [p]).length + (ps.drop k).length ≤ 1000000000000 := by intro p; simp; omega
          have j1 : (0 : Int) ≤ (k : Int) := by omega
          have j2 : (k : Int) ≤ (cap : Int) := by have := HGL.out.2 _ _ _ rfl; omega
          clear hrt
          go_wp2_with fail
          go_region_law (first
            | (refine step_app_all rfl (.const (.slice none 0 0)) (.tmp 36) rfl _ (.slice none 0 0) [] (by kernel_rfl) (OwnP.nil _ _) (.slice (some ⟨b, off, none⟩) k cap) (ps.take k) (by kernel_rfl) (RH.out.same (by first | exact G.out | exact grown_after G.out)) (nil_far _) hk9 (Nat.le_refl _) ?_; intro a37 n37 c37 w37 hn37 ho hg; have C37 := Lib.hid ho; replace G : Hid (w.grownBy w37 none) := Lib.hid (grown_trans (by first | exact G.out | exact grown_after G.out) hg); have B37 := G.out.size; clear hn37 ho hg)
            | (refine step_call 39 57 _ _ _ _ _ Try.f57 _ Try.func57 (by kernel_rfl) rfl [vr] (by kernel_rfl) _ (rcopy_any _ _ _ (H'.out.same (by first | exact G.out | exact grown_after G.out)) hlr) ?_; rintro e w39 ⟨v39, rfl, ho, hg⟩; obtain ⟨a39, c39, rfl⟩ := ownI_open ho; refine ⟨_, rfl, ?_⟩; have F39 := Lib.hid (copy_far C37.out ho); have D39 : Hid (∀ g, (Value.slice a39 r.length c39).ownBlock = some g → d < g) := Lib.hid (fun g h => Nat.lt_of_lt_of_le HFD.out (Nat.le_trans (World.grownBy.size (by first | exact G.out | exact grown_after G.out)) (ho.fresh g h).1)); have C39 := Lib.hid (ho.row H'.out.bdd); replace G : Hid (w.grownBy w39 none) := Lib.hid (grown_trans (by first | exact G.out | exact grown_after G.out) hg); replace C37 := Lib.hid (C37.out.same hg); clear ho hg)
            | (refine step_app_row rfl (.tmp 37) (.tmp 40) rfl _ (.slice a37 n37 c37) _ (by kernel_rfl) (C37.out.same (World.grownBy_alloc _ _ none)) w39.heap.size (.slice a39 r.length c39, r) (by kernel_rfl) (cell_new rfl) (C39.out.same (World.grownBy_alloc _ _ none)) F39.out hk10 (Nat.le_trans G.out.size (World.grownBy_alloc w39 _ none).size) ?_; intro v41 w41 ho hg; have C41 := Lib.hid ho; replace G : Hid (w.grownBy w41 none) := Lib.hid (grown_then (by first | exact G.out | exact grown_after G.out) hg (fun j hj => .inl (C37.out.fresh j hj).1)); clear ho hg)
            | (refine step_app_all rfl (.tmp 41) (.tmp 44) rfl _ v41 _ (by kernel_rfl) C41.out (.slice at' (ps.length - k) ct) (ps.drop k) (by kernel_rfl) (RT.out.same G.out) (far_of (fun p hp => HRW.out p (List.mem_of_mem_drop hp)) C41.out (Nat.le_refl _)) (hk11 _) G.out.size ?_; intro a45 n45 c45 w45 hn45 ho hg; have C45 := Lib.hid ho; replace G : Hid (w.grownBy w45 none) := Lib.hid (grown_then G.out hg (fun j hj => .inl (C41.out.fresh j hj).1)); clear hn45 ho hg))
          all_goals
            go_wp2_with fail
            go_ret
            exact ⟨_, _, rfl, C45.out.rows, C45.out.good, by rw [HE.out, ← List.map_take, ← List.map_drop]; simp, G.out, farR_put HFR.out D39.out (fun g h => Nat.lt_of_lt_of_le HFD.out (C45.out.fresh g h).1)⟩
    · have h1 : ¬ (k : Int) < (ps.length : Int) := by omega
      have h1' : decide (k < ps.length) = false := by simpa using hlt
      have HE : Hid (putL (ps.map Prod.snd) r = (ps.map Prod.snd).take k ++ r :: (ps.map Prod.snd).drop k) := Lib.hid (by rw [putL_at r (ps.map Prod.snd) k (by simpa using hk) HA.out (fun h => absurd h (by simpa using hlt)), if_neg (fun h => hlt (by simpa using h.1))])
      go_wp2_with fail
      obtain ⟨at', ct, hrun, hrt⟩ := rows_tail H.out HGL.out hk
      have RT := Lib.hid hrt
      have RH := Lib.hid (rows_head H.out hk)
      have HRW := Lib.hid (rows_rows H.out)
      have G : Hid (w.grownBy (w.drewN n).drew none) := Lib.hid (grown_trans (grown_drewN _ _ none) (grown_drew _ none))
      have hk9 : ([] : List Row).length + (ps.take k).length ≤ 1000000000000 := by simp; omega
      have hk10 : (ps.take k).length ≤ 1000000000000 := by simp; omega
      have hk11 : ∀ p : Row, ([] ++ ps.take k ++ [p]).length + (ps.drop k).length ≤ 1000000000000 := by intro p; simp; omega
      have j1 : (0 : Int) ≤ (k : Int) := by omega
      have j2 : (k : Int) ≤ (cap : Int) := by have := HGL.out.2 _ _ _ rfl; omega
      clear hrt
      go_wp2_with fail
      go_region_law (first
        | (refine step_app_all rfl (.const (.slice none 0 0)) (.tmp 36) rfl _ (.slice none 0 0) [] (by kernel_rfl) (OwnP.nil _ _) (.slice a k cap) (ps.take k) (by kernel_rfl) (RH.out.same (by first | exact G.out | exact grown_after G.out)) (nil_far _) hk9 (Nat.le_refl _) ?_; intro a37 n37 c37 w37 hn37 ho hg; have C37 := Lib.hid ho; replace G : Hid (w.grownBy w37 none) := Lib.hid (grown_trans (by first | exact G.out | exact grown_after G.out) hg); have B37 := G.out.size; clear hn37 ho hg)
        | (refine step_call 39 57 _ _ _ _ _ Try.f57 _ Try.func57 (by kernel_rfl) rfl [vr] (by kernel_rfl) _ (rcopy_any _ _ _ (H'.out.same (by first | exact G.out | exact grown_after G.out)) hlr) ?_; rintro e w39 ⟨v39, rfl, ho, hg⟩; obtain ⟨a39, c39, rfl⟩ := ownI_open ho; refine ⟨_, rfl, ?_⟩; have F39 := Lib.hid (copy_far C37.out ho); have D39 : Hid (∀ g, (Value.slice a39 r.length c39).ownBlock = some g → d < g) := Lib.hid (fun g h => Nat.lt_of_lt_of_le HFD.out (Nat.le_trans (World.grownBy.size (by first | exact G.out | exact grown_after G.out)) (ho.fresh g h).1)); have C39 := Lib.hid (ho.row H'.out.bdd); replace G : Hid (w.grownBy w39 none) := Lib.hid (grown_trans (by first | exact G.out | exact grown_after G.out) hg); replace C37 := Lib.hid (C37.out.same hg); clear ho hg)
        | (refine step_app_row rfl (.tmp 37) (.tmp 40) rfl _ (.slice a37 n37 c37) _ (by kernel_rfl) (C37.out.same (World.grownBy_alloc _ _ none)) w39.heap.size (.slice a39 r.length c39, r) (by kernel_rfl) (cell_new rfl) (C39.out.same (World.grownBy_alloc _ _ none)) F39.out hk10 (Nat.le_trans G.out.size (World.grownBy_alloc w39 _ none).size) ?_; intro v41 w41 ho hg; have C41 := Lib.hid ho; replace G : Hid (w.grownBy w41 none) := Lib.hid (grown_then (by first | exact G.out | exact grown_after G.out) hg (fun j hj => .inl (C37.out.fresh j hj).1)); clear ho hg)
        | (refine step_app_all rfl (.tmp 41) (.tmp 44) rfl _ v41 _ (by kernel_rfl) C41.out (.slice at' (ps.length - k) ct) (ps.drop k) (by kernel_rfl) (RT.out.same G.out) (far_of (fun p hp => HRW.out p (List.mem_of_mem_drop hp)) C41.out (Nat.le_refl _)) (hk11 _) G.out.size ?_; intro a45 n45 c45 w45 hn45 ho hg; have C45 := Lib.hid ho; replace G : Hid (w.grownBy w45 none) := Lib.hid (grown_then G.out hg (fun j hj => .inl (C41.out.fresh j hj).1)); clear hn45 ho hg))
      all_goals
        go_wp2_with fail
        go_ret
        exact ⟨_, _, rfl, C45.out.rows, C45.out.good, by rw [HE.out, ← List.map_take, ← List.map_drop]; simp, G.out, farR_put HFR.out D39.out (fun g h => Nat.lt_of_lt_of_le HFD.out (C45.out.fresh g h).1)⟩

end Go.Proofs.Ytoaoheblaidhmaa

namespace Go.Proofs.Ytoaoheblaidhmaa
open Go.RowKit
set_option linter.unusedVariables false

theorem few_any (a : Option Addr) (len cap : Nat) (w : World) :
    Calls Try.prog 9 #[.slice a len cap] w fun e w' => e = .returned (.bool (decide ((len : Int) ≤ 400))) ∧ w' = w := by
  go_enter Try.func9, Try.ntmps9
  go_wp2
  go_ret
  exact ⟨rfl, rfl⟩

/-- p is a pointer to a deck in block d. -/
def Deck (w : World) (p : Value) (d : Nat) : Prop :=
  ∃ a xs cap at_ st, p = .pointer (some ⟨d, 0, none⟩) ∧ w.heap[d]? = some (.cells #[.slice a (List.length xs) cap, .int .i64 (at_ : Nat), .int .u64 st] 54 (0, 0)) ∧
    Ints w (.slice a xs.length cap) xs ∧ (xs = [] ∨ ∀ b, a = some b → b.block < d) ∧ 0 ≤ st ∧ st ≤ 18446744073709551615

theorem Deck.lt {w : World} {p : Value} {d : Nat} (h : Deck w p d) : d < w.heap.size := by
  obtain ⟨a, xs, cap, k, st, -, hh, -⟩ := h
  exact (Array.getElem?_eq_some_iff.1 hh).1

theorem deck_list {w w' : World} {a : Option Addr} {xs : List Int} {cap d : Nat} {row : Option Nat} (hi : Ints w (.slice a xs.length cap) xs)
    (hn : xs = [] ∨ ∀ b, a = some b → b.block < d) (g : w.grownBy w' row) (hr : ∀ k, row = some k → d ≤ k) : Ints w' (.slice a xs.length cap) xs := by
  rcases hn with rfl | hn
  · obtain ⟨a', cap', hv, hl, hb, -⟩ := hi
    exact ⟨a', cap', hv, hl, hb, .inl rfl⟩
  · refine hi.kept g fun k hk e => ?_
    have := hr k hk
    cases a with
    | none => simp [Value.ownBlock] at e
    | some b => simp only [Value.ownBlock, Option.some.injEq] at e; have := hn b rfl; omega

theorem Deck.kept {w w' : World} {p : Value} {d : Nat} {row : Option Nat} (h : Deck w p d) (g : w.grownBy w' row) (hr : ∀ k, row = some k → d < k) : Deck w' p d := by
  have hd := h.lt
  obtain ⟨a, xs, cap, k, st, rfl, hh, hi, hn, h0, h1⟩ := h
  exact ⟨a, xs, cap, k, st, rfl, by rw [g.block d hd (by intro e; have := hr d e.symm; omega)]; exact hh, deck_list hi hn g (fun k hk => Nat.le_of_lt (hr k hk)), hn, h0, h1⟩

theorem new_any (a : Option Addr) (cap : Nat) (xs : List Int) (w : World) (h : Ints w (.slice a xs.length cap) xs) :
    Calls Try.prog 11 #[.slice a xs.length cap] w fun e w' => e = .returned (.pointer (some ⟨w.heap.size, 0, none⟩)) ∧ w' = w.alloc (.cells #[.slice a xs.length cap, .int .i64 0, .int .u64 11400714819323198485] 54) := by
  have H := Lib.hid h
  clear h
  go_enter Try.func11, Try.ntmps11
  go_wp2
  go_ret
  exact ⟨rfl, rfl⟩

theorem deck_one {w : World} {d : Nat} {a : Option Addr} {xs : List Int} {cap k : Nat} {st : Int}
    (hh : w.heap[d]? = some (.cells #[.slice a xs.length cap, .int .i64 (k : Nat), .int .u64 st] 54 (0, 0)))
    (hi : Ints w (.slice a xs.length cap) xs) (hn : xs = [] ∨ ∀ b, a = some b → b.block < d) (n m : Nat) (z : Int) (h0 : 0 ≤ z) (h1 : z ≤ 18446744073709551615) :
    Deck (((w.drewN n).setCell ⟨d, 2, none⟩ (.int .u64 z)).drewN m) (.pointer (some ⟨d, 0, none⟩)) d ∧ w.grownBy (((w.drewN n).setCell ⟨d, 2, none⟩ (.int .u64 z)).drewN m) (some d) := by
  have g : w.grownBy (((w.drewN n).setCell ⟨d, 2, none⟩ (.int .u64 z)).drewN m) (some d) :=
    grown_trans (grown_drewN w n _) (grown_trans (grown_set (w.drewN n) ⟨d, 2, none⟩ _) (grown_drewN _ m _))
  refine ⟨⟨a, xs, cap, k, z, rfl, ?_, deck_list hi hn g (by rintro j ⟨⟩; exact Nat.le_refl _), hn, h0, h1⟩, g⟩
  · rw [World.heap_drewN, heap_set (w := w.drewN n) hh _]
    rfl

theorem deck_two {w : World} {d : Nat} {a : Option Addr} {xs : List Int} {cap k : Nat} {st : Int}
    (hh : w.heap[d]? = some (.cells #[.slice a xs.length cap, .int .i64 (k : Nat), .int .u64 st] 54 (0, 0)))
    (hi : Ints w (.slice a xs.length cap) xs) (hn : xs = [] ∨ ∀ b, a = some b → b.block < d) (n m : Nat) (z : Int) (h0 : 0 ≤ z) (h1 : z ≤ 18446744073709551615) :
    Deck ((((w.drewN n).setCell ⟨d, 1, none⟩ (.int .i64 ((k : Int) + 1))).setCell ⟨d, 2, none⟩ (.int .u64 z)).drewN m) (.pointer (some ⟨d, 0, none⟩)) d ∧
      w.grownBy ((((w.drewN n).setCell ⟨d, 1, none⟩ (.int .i64 ((k : Int) + 1))).setCell ⟨d, 2, none⟩ (.int .u64 z)).drewN m) (some d) := by
  have g : w.grownBy ((((w.drewN n).setCell ⟨d, 1, none⟩ (.int .i64 ((k : Int) + 1))).setCell ⟨d, 2, none⟩ (.int .u64 z)).drewN m) (some d) :=
    grown_trans (grown_drewN w n _) (grown_trans (grown_set (w.drewN n) ⟨d, 1, none⟩ _) (grown_trans (grown_set _ ⟨d, 2, none⟩ _) (grown_drewN _ m _)))
  refine ⟨⟨a, xs, cap, k + 1, z, rfl, ?_, deck_list hi hn g (by rintro j ⟨⟩; exact Nat.le_refl _), hn, h0, h1⟩, g⟩
  · rw [World.heap_drewN, heap_set (heap_set (w := w.drewN n) hh _) _]
    rfl

set_option maxHeartbeats 1000000 in
theorem long_any (p : Value) (d : Nat) (w : World) (h : Deck w p d) :
    Calls Try.prog 33 #[p] w fun e w' => ∃ y : Int, e = .returned (.int .u64 y) ∧ 0 ≤ y ∧ y ≤ 18446744073709551615 ∧ Deck w' p d ∧ w.grownBy w' (some d) := by
  obtain ⟨a, xs, cap, k, st, rfl, hh, hI, hne, hs0, hs1⟩ := h
  have c0 : w.cell? ⟨d, 0, none⟩ = some (.slice a xs.length cap) := by simp [World.cell?, hh]
  have c1 : w.cell? ⟨d, 1, none⟩ = some (.int .i64 (k : Nat)) := by simp [World.cell?, hh]
  have c2 : w.cell? ⟨d, 2, none⟩ = some (.int .u64 st) := by simp [World.cell?, hh]
  have f1 : w.frozen? ⟨d, 1, none⟩ = false := by simp [World.frozen?, hh]
  have f2 : w.frozen? ⟨d, 2, none⟩ = false := by simp [World.frozen?, hh]
  have HH := Lib.hid hh
  have HI := Lib.hid hI
  have HN := Lib.hid hne
  obtain ⟨a', cap', hv, hl, hb, hc⟩ := hI
  simp only [Value.slice.injEq] at hv
  obtain ⟨rfl, -, rfl⟩ := hv
  unfold maxLen at hl
  clear hh hne
  by_cases hlt : k < xs.length
  · obtain ⟨b, off, rfl, hx⟩ := Ints.at hc hlt
    have hbd := Ints.bd hb hlt
    have h1 : (k : Int) < (xs.length : Int) := by omega
    clear hb hc
    generalize xs[k]?.getD 0 = x at *
    go_enter Try.func33, Try.ntmps33
    go_wp2
    go_quiet (fail)
    go_wp2
    go_quiet (fail)
    go_wp2
    go_quiet (fail)
    go_wp2
    go_ret
    have hw1 := wf_u64 (wf_wrap .u64 (IntKind.u64.wrap (IntKind.u64.wrap (st + IntKind.u64.wrap x) * 6364136223846793005) + 1442695040888963407))
    exact ⟨_, rfl, (wf_u64 (wf_bits _ _ _ _)).1, (wf_u64 (wf_bits _ _ _ _)).2, deck_two HH.out HI.out HN.out _ _ _ hw1.1 hw1.2⟩
  · have h1 : ¬ (k : Int) < (xs.length : Int) := by omega
    clear hb hc
    go_enter Try.func33, Try.ntmps33
    go_wp2
    go_quiet (fail)
    go_wp2
    go_quiet (fail)
    go_wp2
    go_ret
    have hw1 := wf_u64 (wf_wrap .u64 (IntKind.u64.wrap (st * 6364136223846793005) + 1442695040888963407))
    exact ⟨_, rfl, (wf_u64 (wf_bits _ _ _ _)).1, (wf_u64 (wf_bits _ _ _ _)).2, deck_one HH.out HI.out HN.out _ _ _ hw1.1 hw1.2⟩

theorem next_any (p : Value) (d : Nat) (n : Int) (w : World) (h : Deck w p d) (h1 : 1 ≤ n) (h2 : n ≤ 4611686018427387904) :
    Calls Try.prog 12 #[p, .int .i64 n] w fun e w' => ∃ y : Int, e = .returned (.int .i64 y) ∧ 0 ≤ y ∧ y < n ∧ Deck w' p d ∧ w.grownBy w' (some d) := by
  have H := Lib.hid h
  clear h
  go_enter Try.func12, Try.ntmps12
  go_wp2_with fail
  refine (long_any _ _ _ H.out).mono ?_
  rintro e w' ⟨y, rfl, hy0, hy1, hd, hg⟩
  have HD := Lib.hid hd; have HG := Lib.hid hg
  clear hd hg H
  go_wp2_with fail
  go_ret
  exact ⟨_, rfl, Int.emod_nonneg _ (by omega), Int.emod_lt_of_pos _ (by omega), HD.out, HG.out⟩

end Go.Proofs.Ytoaoheblaidhmaa
