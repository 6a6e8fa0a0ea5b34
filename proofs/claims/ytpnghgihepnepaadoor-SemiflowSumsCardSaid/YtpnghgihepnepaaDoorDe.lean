/- The sanity check of law 11. -/
import Derived.Test.YtpnghgihepnepaaDoorDd
namespace Go.Proofs.YtpnghgihepnepaaDoor
open Go.RowKit
set_option linter.unusedVariables false

theorem ex_flow {y : List Int} (h : Flow [[1], [-1]] 1 y) : ∃ a, y = [a, a] := by
  obtain ⟨h1, h2⟩ := h
  match y, h1 with
  | [a, b], _ =>
    have := h2 0 (by omega)
    have e : a * 1 + (b * (-1) + 0) = 0 := this
    exact ⟨a, by rw [show b = a by omega]⟩
theorem ex_mk (a : Int) : Flow [[1], [-1]] 1 [a, a] := by
  refine ⟨rfl, fun j hj => ?_⟩
  obtain rfl : j = 0 := by omega
  show a * 1 + (a * (-1) + 0) = 0
  omega
theorem ex_at : FlowAt [[1], [-1]] 1 (bitB 3) [1, 1] := by
  refine ⟨ex_mk 1, fun i hi _ => ?_, fun i hi h => ?_, by decide, fun x hx _ a b ha hb => ?_⟩
  · have hi2 : i < 2 := hi
    obtain rfl | rfl : i = 0 ∨ i = 1 := by omega
    · decide
    · decide
  · exfalso
    have hi2 : i < 2 := hi
    obtain rfl | rfl : i = 0 ∨ i = 1 := by omega
    · exact absurd h (by decide +kernel)
    · exact absurd h (by decide +kernel)
  · obtain ⟨z, rfl⟩ := ex_flow hx
    have ha2 : a < 2 := ha
    have hb2 : b < 2 := hb
    obtain rfl | rfl : a = 0 ∨ a = 1 := by omega
    · obtain rfl | rfl : b = 0 ∨ b = 1 := by omega
      · rfl
      · rfl
    · obtain rfl | rfl : b = 0 ∨ b = 1 := by omega
      · rfl
      · rfl
theorem ex_all {s : Nat} {y : List Int} (h1 : 1 ≤ s) (h2 : s < 2 ^ 2) (h : FlowAt [[1], [-1]] 1 (bitB s) y) : y = [1, 1] := by
  have h4 : s < 4 := h2
  obtain ⟨z, rfl⟩ := ex_flow h.flow
  obtain rfl | rfl | rfl : s = 1 ∨ s = 2 ∨ s = 3 := by omega
  · have e1 : (0 : Int) < z := h.on 0 (by show 0 < 2; omega) (by decide +kernel)
    have e2 : z = 0 := h.out 1 (by show 1 < 2; omega) (by decide +kernel)
    omega
  · have e1 : (0 : Int) < z := h.on 1 (by show 1 < 2; omega) (by decide +kernel)
    have e2 : z = 0 := h.out 0 (by show 0 < 2; omega) (by decide +kernel)
    omega
  · exact h.uniq ex_at
theorem ex_list {fs : List Row} (h : OfL [[1], [-1]] 1 (2 ^ 2) (fs.map Prod.snd)) : ∃ v, fs = [(v, [1, 1])] := by
  have hin : [1, 1] ∈ fs.map Prod.snd := h.got 3 (by omega) (by decide) _ ex_at
  have hall : ∀ y ∈ fs.map Prod.snd, y = [1, 1] := fun y hy => by obtain ⟨s, h1, h2, h3, -⟩ := h.all y hy; exact ex_all h1 h2 h3
  have hnd := h.nodup
  match fs with
  | [] => simp at hin
  | [(v, y)] => exact ⟨v, by rw [hall y (by simp)]⟩
  | (v, y) :: (u, z) :: t =>
    exfalso
    have e1 := hall y (by simp)
    have e2 := hall z (by simp)
    rw [List.map_cons, List.map_cons, List.nodup_cons] at hnd
    exact hnd.1 (by show y ∈ _; rw [e1, ← e2]; simp)
set_option maxRecDepth 100000 in
set_option maxHeartbeats 2000000 in
theorem awake11_any (w : World) (hT : TabW w) : Calls Tryd.prog 8 #[] w fun e w' => e = .returned (.bool true) ∧ w.grownBy w' none := by
  have HT := Lib.hid hT
  have HA : Hid (w.grownBy (((w.alloc (.cells ([1].map (Value.int .i64)).toArray 3)).alloc (.cells ([-1].map (Value.int .i64)).toArray 3)).alloc (.cells #[.slice (some ⟨w.heap.size, 0, none⟩) 1 1, .slice (some ⟨w.heap.size + 1, 0, none⟩) 1 1] 22)) none) := Lib.hid (grown_aft (grown_aft (World.grownBy_alloc w _ none)))
  have HC0 := Lib.hid (lit2 w [1] [-1] 1 rfl rfl (by omega) (by decide) (by decide))
  have HOK : Hid (MatOkP 2 1 [(Value.slice (some ⟨w.heap.size, 0, none⟩) 1 1, [1]), (Value.slice (some ⟨w.heap.size + 1, 0, none⟩) 1 1, [-1])]) := Lib.hid ⟨rfl, by omega, by omega, by omega, by omega, by omega, by simp⟩
  obtain ⟨cs, hcs⟩ : ∃ cs, cs = [(Value.slice (some ⟨w.heap.size, 0, none⟩) 1 1, [1]), (Value.slice (some ⟨w.heap.size + 1, 0, none⟩) 1 1, [(-1 : Int)])] := ⟨_, rfl⟩
  rw [← hcs] at HC0 HOK
  have HCM : Hid (cs.map Prod.snd = [[1], [-1]]) := Lib.hid (by rw [hcs]; rfl)
  clear hT hcs
  go_enter Tryd.func8, Tryd.ntmps8
  go_wp2_with fail
  refine (of_any HC0.out HOK.out (by omega) (HT.out.same HA.out)).mono ?_
  rintro e w1 ⟨v, fs, rfl, hF, hL, -, hg⟩
  rw [HCM.out] at hL
  obtain ⟨vy, rfl⟩ := ex_list hL
  have G1 := Lib.hid (grown_trans HA.out hg)
  have HC1 := Lib.hid (HC0.out.same hg)
  obtain ⟨af, cf, rfl, -⟩ : ∃ a cap, v = .slice a 1 cap ∧ True := by obtain ⟨a, cap, h, -⟩ := hF; exact ⟨a, cap, h, trivial⟩
  obtain ⟨bf, off, a2, c2, rfl, hc1, -, hi⟩ := hF.row (k := 0) (by simp)
  have hc1' : w1.cell? ⟨bf, off, none⟩ = some (.slice a2 2 c2) := hc1
  have HI : Hid (Ints w1 (.slice a2 2 c2) [1, 1]) := Lib.hid hi
  obtain ⟨_, _, hxv, -, -, hxc⟩ := hi
  simp only [Value.slice.injEq] at hxv
  obtain ⟨rfl, -, rfl⟩ := hxv
  obtain ⟨by', oy, rfl, hy0⟩ := Ints.at hxc (show 0 < 2 by omega)
  obtain ⟨by2, oy2, hby, hy1⟩ := Ints.at hxc (show 1 < 2 by omega)
  obtain ⟨rfl, rfl⟩ : _ ∧ _ := by simpa using hby
  have hy0' : w1.cell? ⟨by', oy, none⟩ = some (.int .i64 1) := hy0
  have hy1' : w1.cell? ⟨by', oy + 1, none⟩ = some (.int .i64 1) := hy1
  have K := Lib.hid (And.intro hc1' (And.intro hy0' hy1'))
  clear hF hL hg hc1 hc1' hxc hy0 hy1 hby hy0' hy1'
  go_wp2_with fail
  have r2 : Hid (Ints (w1.alloc (.cells #[.int .i64 2, .int .i64 3] 3)) (.slice (some ⟨w1.heap.size, 0, none⟩) 2 2) [2, 3]) := Lib.hid (rowb [2, 3] 2 2 (heap_new (w := w1) (.cells #[.int .i64 2, .int .i64 3] 3) rfl) rfl (by decide) (by decide) rfl (Nat.le_refl _)).1
  refine (bound_any (p := 0) (st := [2, 3]) (HC1.out.same (World.grownBy_alloc _ _ none)) HOK.out (by omega) ((HT.out.same G1.out).same (World.grownBy_alloc _ _ none)) r2.out rfl (by decide) (by omega)).mono ?_
  rintro e w2 ⟨b, ok, rfl, hok, hno, hg⟩
  rw [HCM.out] at hok hno
  have eok : ok = true := by
    cases ok with
    | true => rfl
    | false => exact absurd (show (0 : Int) < 1 by decide) (hno rfl 3 [1, 1] (by omega) (by decide) ex_at)
  subst eok
  have eb : b = 5 := by
    obtain ⟨s, y, h1, h2, h3, -, -, h4⟩ := hok rfl
    rw [ex_all h1 h2 h3] at h4
    exact h4
  subst eb
  have G2 := Lib.hid (grown_trans (World.grownBy_alloc w1 (.cells #[.int .i64 2, .int .i64 3] 3) none) hg)
  clear hok hno hg r2
  go_wp2_with fail
  have g3 : w2.grownBy ((w2.alloc (.cells #[.int .i64 1, .int .i64 1] 3)).alloc (.cells #[.int .i64 2, .int .i64 3] 3)) none := grown_aft (World.grownBy_alloc w2 _ none)
  have G3 := Lib.hid g3
  have r3 : Hid (Ints ((w2.alloc (.cells #[.int .i64 1, .int .i64 1] 3)).alloc (.cells #[.int .i64 2, .int .i64 3] 3)) (.slice (some ⟨w2.heap.size, 0, none⟩) 2 2) [1, 1]) := Lib.hid (rowb [1, 1] 2 2 (heap_old _ (heap_new (w := w2) (.cells #[.int .i64 1, .int .i64 1] 3) rfl)) rfl (by decide) (by decide) rfl (Nat.le_refl _)).1
  have r4 : Hid (Ints ((w2.alloc (.cells #[.int .i64 1, .int .i64 1] 3)).alloc (.cells #[.int .i64 2, .int .i64 3] 3)) (.slice (some ⟨w2.heap.size + 1, 0, none⟩) 2 2) [2, 3]) := Lib.hid (rowb [2, 3] 2 2 (heap_new (.cells #[.int .i64 2, .int .i64 3] 3) (size_al _ _).symm) rfl (by decide) (by decide) rfl (Nat.le_refl _)).1
  clear g3
  refine (value_any _ _ [1, 1] [2, 3] _ r3.out r4.out rfl (by decide) (by decide) (by decide)).mono ?_
  rintro e w3 ⟨rfl, hw⟩
  have e5 : dotL [1, 1] [2, 3] = 5 := rfl
  rw [e5]
  rw [← hw] at G3
  clear hw r3 r4 e5
  go_wp2_with fail
  have g4 : w3.grownBy ((w3.alloc (.cells #[.int .i64 2, .int .i64 3] 3)).alloc (.cells #[.int .i64 4, .int .i64 1] 3)) none := grown_aft (World.grownBy_alloc w3 _ none)
  have G4 := Lib.hid g4
  have r5 : Hid (Ints ((w3.alloc (.cells #[.int .i64 2, .int .i64 3] 3)).alloc (.cells #[.int .i64 4, .int .i64 1] 3)) (.slice (some ⟨w3.heap.size, 0, none⟩) 2 2) [2, 3]) := Lib.hid (rowb [2, 3] 2 2 (heap_old _ (heap_new (w := w3) (.cells #[.int .i64 2, .int .i64 3] 3) rfl)) rfl (by decide) (by decide) rfl (Nat.le_refl _)).1
  have r6 : Hid (Ints ((w3.alloc (.cells #[.int .i64 2, .int .i64 3] 3)).alloc (.cells #[.int .i64 4, .int .i64 1] 3)) (.slice (some ⟨w3.heap.size + 1, 0, none⟩) 2 2) [4, 1]) := Lib.hid (rowb [4, 1] 2 2 (heap_new (.cells #[.int .i64 4, .int .i64 1] 3) (size_al _ _).symm) rfl (by decide) (by decide) rfl (Nat.le_refl _)).1
  have G13 := Lib.hid (grown_trans G2.out G3.out)
  have G14 := Lib.hid (grown_trans G13.out g4)
  clear g4
  refine (allows_any (st := [2, 3]) (nw := [4, 1]) (HC1.out.same G14.out) HOK.out (by omega) ((HT.out.same G1.out).same G14.out) r5.out rfl (by decide) r6.out rfl (by decide) (fun y hy => by
    rw [HCM.out] at hy
    obtain ⟨z, rfl⟩ := ex_flow hy
    show z * 2 + (z * 3 + 0) = z * 4 + (z * 1 + 0)
    omega)).mono ?_
  rintro e w4 ⟨rfl, hg⟩
  have G15 := Lib.hid (grown_trans G14.out hg)
  have y0 := G15.out.cell K.out.1 (by simp); have y1 := G15.out.cell K.out.2.1 (by simp); have y2 := G15.out.cell K.out.2.2 (by simp)
  clear hg r5 r6
  go_wp2_with fail
  refine (holds_any (y := [1, 1]) (HC1.out.same G15.out) HOK.out (by omega) (HI.out.same G15.out) rfl (by decide)).mono ?_
  rintro e w5 ⟨bb, rfl, hbb, hw⟩
  subst hw
  have ebb : bb = true := hbb.2 ⟨by rw [HCM.out]; exact ex_mk 1, 0, by decide⟩
  subst ebb
  clear hbb
  go_wp2_with fail
  go_ret
  exact ⟨rfl, grown_trans G1.out G15.out⟩
end Go.Proofs.YtpnghgihepnepaaDoor
