/- Texts De, Df, Gr in one. -/
import Derived.Test.YtpnghgihepnepaaDoorU17
import Derived.BigQuiet
import Derived.Test.YtpnghgihepnepaaDoorRows
import Derived.Test.YtpnghgihepnepaaDoorU13
namespace Go.Proofs.YtpnghgihepnepaaDoor
open Go.RowKit
set_option linter.unusedVariables false

theorem ex_flow {y : List Int} (h : Flow [[1], [-1]] 1 y) : ∃ a, y = [a, a] := by
  obtain ⟨h1, h2⟩ := h
  match y, h1 with
  | [a, b], _ =>
    have := h2 0 (by omega)
    have e : a * 1 + (b * (-1) + 0) = 0 := this
    exact ⟨a, by rw [show b = a by omega]⟩
theorem ex_mk (a : Int) : Flow [[1], [-1]] 1 [a, a] := by
  refine ⟨rfl, fun j hj => ?_⟩
  obtain rfl : j = 0 := by omega
  show a * 1 + (a * (-1) + 0) = 0
  omega
theorem ex_at : FlowAt [[1], [-1]] 1 (bitB 3) [1, 1] := by
  refine ⟨ex_mk 1, fun i hi _ => ?_, fun i hi h => ?_, by decide, fun x hx _ a b ha hb => ?_⟩
  · have hi2 : i < 2 := hi
    obtain rfl | rfl : i = 0 ∨ i = 1 := by omega
    · decide
    · decide
  · exfalso
    have hi2 : i < 2 := hi
    obtain rfl | rfl : i = 0 ∨ i = 1 := by omega
    · exact absurd h (by decide +kernel)
    · exact absurd h (by decide +kernel)
  · obtain ⟨z, rfl⟩ := ex_flow hx
    have ha2 : a < 2 := ha
    have hb2 : b < 2 := hb
    obtain rfl | rfl : a = 0 ∨ a = 1 := by omega
    · obtain rfl | rfl : b = 0 ∨ b = 1 := by omega
      · rfl
      · rfl
    · obtain rfl | rfl : b = 0 ∨ b = 1 := by omega
      · rfl
      · rfl
theorem ex_all {s : Nat} {y : List Int} (h1 : 1 ≤ s) (h2 : s < 2 ^ 2) (h : FlowAt [[1], [-1]] 1 (bitB s) y) : y = [1, 1] := by
  have h4 : s < 4 := h2
  obtain ⟨z, rfl⟩ := ex_flow h.flow
  obtain rfl | rfl | rfl : s = 1 ∨ s = 2 ∨ s = 3 := by omega
  · have e1 : (0 : Int) < z := h.on 0 (by show 0 < 2; omega) (by decide +kernel)
    have e2 : z = 0 := h.out 1 (by show 1 < 2; omega) (by decide +kernel)
    omega
  · have e1 : (0 : Int) < z := h.on 1 (by show 1 < 2; omega) (by decide +kernel)
    have e2 : z = 0 := h.out 0 (by show 0 < 2; omega) (by decide +kernel)
    omega
  · exact h.uniq ex_at
theorem ex_list {fs : List Row} (h : OfL [[1], [-1]] 1 (2 ^ 2) (fs.map Prod.snd)) : ∃ v, fs = [(v, [1, 1])] := by
  have hin : [1, 1] ∈ fs.map Prod.snd := h.got 3 (by omega) (by decide) _ ex_at
  have hall : ∀ y ∈ fs.map Prod.snd, y = [1, 1] := fun y hy => by obtain ⟨s, h1, h2, h3, -⟩ := h.all y hy; exact ex_all h1 h2 h3
  have hnd := h.nodup
  match fs with
  | [] => simp at hin
  | [(v, y)] => exact ⟨v, by rw [hall y (by simp)]⟩
  | (v, y) :: (u, z) :: t =>
    exfalso
    have e1 := hall y (by simp)
    have e2 := hall z (by simp)
    rw [List.map_cons, List.map_cons, List.nodup_cons] at hnd
    exact hnd.1 (by show y ∈ _; rw [e1, ← e2]; simp)
set_option maxRecDepth 100000 in
set_option maxHeartbeats 2000000 in
theorem awake11_any (w : World) (hT : TabW w) : Calls Tryd.prog 8 #[] w fun e w' => e = .returned (.bool true) ∧ w.grownBy w' none := by
  have HT := Lib.hid hT
  have HA : Hid (w.grownBy (((w.alloc (.cells ([1].map (Value.int .i64)).toArray 3)).alloc (.cells ([-1].map (Value.int .i64)).toArray 3)).alloc (.cells #[.slice (some ⟨w.heap.size, 0, none⟩) 1 1, .slice (some ⟨w.heap.size + 1, 0, none⟩) 1 1] 22)) none) := Lib.hid (grown_aft (grown_aft (World.grownBy_alloc w _ none)))
  have HC0 := Lib.hid (lit2 w [1] [-1] 1 rfl rfl (by omega) (by decide) (by decide))
  have HOK : Hid (MatOkP 2 1 [(Value.slice (some ⟨w.heap.size, 0, none⟩) 1 1, [1]), (Value.slice (some ⟨w.heap.size + 1, 0, none⟩) 1 1, [-1])]) := Lib.hid ⟨rfl, by omega, by omega, by omega, by omega, by omega, by simp⟩
  obtain ⟨cs, hcs⟩ : ∃ cs, cs = [(Value.slice (some ⟨w.heap.size, 0, none⟩) 1 1, [1]), (Value.slice (some ⟨w.heap.size + 1, 0, none⟩) 1 1, [(-1 : Int)])] := ⟨_, rfl⟩
  rw [← hcs] at HC0 HOK
  have HCM : Hid (cs.map Prod.snd = [[1], [-1]]) := Lib.hid (by rw [hcs]; rfl)
  clear hT hcs
  go_enter Tryd.func8, Tryd.ntmps8
  go_wp2_with fail
  refine (of_any HC0.out HOK.out (by omega) (HT.out.same HA.out)).mono ?_
  rintro e w1 ⟨v, fs, rfl, hF, hL, -, hg⟩
  rw [HCM.out] at hL
  obtain ⟨vy, rfl⟩ := ex_list hL
  have G1 := Lib.hid (grown_trans HA.out hg)
  have HC1 := Lib.hid (HC0.out.same hg)
  obtain ⟨af, cf, rfl, -⟩ : ∃ a cap, v = .slice a 1 cap ∧ True := by obtain ⟨a, cap, h, -⟩ := hF; exact ⟨a, cap, h, trivial⟩
  obtain ⟨bf, off, a2, c2, rfl, hc1, -, hi⟩ := hF.row (k := 0) (by simp)
  have hc1' : w1.cell? ⟨bf, off, none⟩ = some (.slice a2 2 c2) := hc1
  have HI : Hid (Ints w1 (.slice a2 2 c2) [1, 1]) := Lib.hid hi
  obtain ⟨_, _, hxv, -, -, hxc⟩ := hi
  simp only [Value.slice.injEq] at hxv
  obtain ⟨rfl, -, rfl⟩ := hxv
  obtain ⟨by', oy, rfl, hy0⟩ := Ints.at hxc (show 0 < 2 by omega)
  obtain ⟨by2, oy2, hby, hy1⟩ := Ints.at hxc (show 1 < 2 by omega)
  obtain ⟨rfl, rfl⟩ : _ ∧ _ := by simpa using hby
  have hy0' : w1.cell? ⟨by', oy, none⟩ = some (.int .i64 1) := hy0
  have hy1' : w1.cell? ⟨by', oy + 1, none⟩ = some (.int .i64 1) := hy1
  have K := Lib.hid (And.intro hc1' (And.intro hy0' hy1'))
  clear hF hL hg hc1 hc1' hxc hy0 hy1 hby hy0' hy1'
  go_wp2_with fail
  have r2 : Hid (Ints (w1.alloc (.cells #[.int .i64 2, .int .i64 3] 3)) (.slice (some ⟨w1.heap.size, 0, none⟩) 2 2) [2, 3]) := Lib.hid (rowb [2, 3] 2 2 (heap_new (w := w1) (.cells #[.int .i64 2, .int .i64 3] 3) rfl) rfl (by decide) (by decide) rfl (Nat.le_refl _)).1
  refine (bound_any (p := 0) (st := [2, 3]) (HC1.out.same (World.grownBy_alloc _ _ none)) HOK.out (by omega) ((HT.out.same G1.out).same (World.grownBy_alloc _ _ none)) r2.out rfl (by decide) (by omega)).mono ?_
  rintro e w2 ⟨b, ok, rfl, hok, hno, hg⟩
  rw [HCM.out] at hok hno
  have eok : ok = true := by
    cases ok with
    | true => rfl
    | false => exact absurd (show (0 : Int) < 1 by decide) (hno rfl 3 [1, 1] (by omega) (by decide) ex_at)
  subst eok
  have eb : b = 5 := by
    obtain ⟨s, y, h1, h2, h3, -, -, h4⟩ := hok rfl
    rw [ex_all h1 h2 h3] at h4
    exact h4
  subst eb
  have G2 := Lib.hid (grown_trans (World.grownBy_alloc w1 (.cells #[.int .i64 2, .int .i64 3] 3) none) hg)
  clear hok hno hg r2
  go_wp2_with fail
  have g3 : w2.grownBy ((w2.alloc (.cells #[.int .i64 1, .int .i64 1] 3)).alloc (.cells #[.int .i64 2, .int .i64 3] 3)) none := grown_aft (World.grownBy_alloc w2 _ none)
  have G3 := Lib.hid g3
  have r3 : Hid (Ints ((w2.alloc (.cells #[.int .i64 1, .int .i64 1] 3)).alloc (.cells #[.int .i64 2, .int .i64 3] 3)) (.slice (some ⟨w2.heap.size, 0, none⟩) 2 2) [1, 1]) := Lib.hid (rowb [1, 1] 2 2 (heap_old _ (heap_new (w := w2) (.cells #[.int .i64 1, .int .i64 1] 3) rfl)) rfl (by decide) (by decide) rfl (Nat.le_refl _)).1
  have r4 : Hid (Ints ((w2.alloc (.cells #[.int .i64 1, .int .i64 1] 3)).alloc (.cells #[.int .i64 2, .int .i64 3] 3)) (.slice (some ⟨w2.heap.size + 1, 0, none⟩) 2 2) [2, 3]) := Lib.hid (rowb [2, 3] 2 2 (heap_new (.cells #[.int .i64 2, .int .i64 3] 3) (size_al _ _).symm) rfl (by decide) (by decide) rfl (Nat.le_refl _)).1
  clear g3
  refine (value_any _ _ [1, 1] [2, 3] _ r3.out r4.out rfl (by decide) (by decide) (by decide)).mono ?_
  rintro e w3 ⟨rfl, hw⟩
  have e5 : dotL [1, 1] [2, 3] = 5 := rfl
  rw [e5]
  rw [← hw] at G3
  clear hw r3 r4 e5
  go_wp2_with fail
  have g4 : w3.grownBy ((w3.alloc (.cells #[.int .i64 2, .int .i64 3] 3)).alloc (.cells #[.int .i64 4, .int .i64 1] 3)) none := grown_aft (World.grownBy_alloc w3 _ none)
  have G4 := Lib.hid g4
  have r5 : Hid (Ints ((w3.alloc (.cells #[.int .i64 2, .int .i64 3] 3)).alloc (.cells #[.int .i64 4, .int .i64 1] 3)) (.slice (some ⟨w3.heap.size, 0, none⟩) 2 2) [2, 3]) := Lib.hid (rowb [2, 3] 2 2 (heap_old _ (heap_new (w := w3) (.cells #[.int .i64 2, .int .i64 3] 3) rfl)) rfl (by decide) (by decide) rfl (Nat.le_refl _)).1
  have r6 : Hid (Ints ((w3.alloc (.cells #[.int .i64 2, .int .i64 3] 3)).alloc (.cells #[.int .i64 4, .int .i64 1] 3)) (.slice (some ⟨w3.heap.size + 1, 0, none⟩) 2 2) [4, 1]) := Lib.hid (rowb [4, 1] 2 2 (heap_new (.cells #[.int .i64 4, .int .i64 1] 3) (size_al _ _).symm) rfl (by decide) (by decide) rfl (Nat.le_refl _)).1
  have G13 := Lib.hid (grown_trans G2.out G3.out)
  have G14 := Lib.hid (grown_trans G13.out g4)
  clear g4
  refine (allows_any (st := [2, 3]) (nw := [4, 1]) (HC1.out.same G14.out) HOK.out (by omega) ((HT.out.same G1.out).same G14.out) r5.out rfl (by decide) r6.out rfl (by decide) (fun y hy => by
    rw [HCM.out] at hy
    obtain ⟨z, rfl⟩ := ex_flow hy
    show z * 2 + (z * 3 + 0) = z * 4 + (z * 1 + 0)
    omega)).mono ?_
  rintro e w4 ⟨rfl, hg⟩
  have G15 := Lib.hid (grown_trans G14.out hg)
  have y0 := G15.out.cell K.out.1 (by simp); have y1 := G15.out.cell K.out.2.1 (by simp); have y2 := G15.out.cell K.out.2.2 (by simp)
  clear hg r5 r6
  go_wp2_with fail
  refine (holds_any (y := [1, 1]) (HC1.out.same G15.out) HOK.out (by omega) (HI.out.same G15.out) rfl (by decide)).mono ?_
  rintro e w5 ⟨bb, rfl, hbb, hw⟩
  subst hw
  have ebb : bb = true := hbb.2 ⟨by rw [HCM.out]; exact ex_mk 1, 0, by decide⟩
  subst ebb
  clear hbb
  go_wp2_with fail
  go_ret
  exact ⟨rfl, grown_trans G1.out G15.out⟩
end Go.Proofs.YtpnghgihepnepaaDoor

namespace Go.Proofs.YtpnghgihepnepaaDoor
open Go.RowKit
set_option linter.unusedVariables false

set_option maxRecDepth 100000 in
set_option maxHeartbeats 2000000 in
theorem rcheck10_any {r c : Nat} {ps : List Row} {v : Value} {w : World} (h : RowsP w v ps) (hm : MatOkP r c ps) :
    Calls Tryd.prog 27 #[v] w fun e w' => e = .returned (.int .i64 0) ∧ w.grownBy w' none := by
  obtain ⟨hl, hr1, hr12, hc1, hc12, hrc, hq⟩ := hm
  obtain ⟨a, cap, rfl, -⟩ : ∃ a cap, v = .slice a ps.length cap ∧ True := by obtain ⟨a, cap, h, -⟩ := h; exact ⟨a, cap, h, trivial⟩
  have H := Lib.hid h; have HQ := Lib.hid hq; have HL := Lib.hid hl
  have h0 : 0 < ps.length := by omega
  obtain ⟨b, off, a2, c2, rfl, hc0, -, -⟩ := h.row h0
  have hlen0 := (hq _ (List.getElem_mem h0)).1
  rw [hlen0, Nat.add_zero] at hc0
  have HC0 := Lib.hid hc0
  have e0 : ¬ (ps.length : Int) < 1 := by omega
  have e1 : ¬ (12 : Int) < (ps.length : Int) := by omega
  have e2 : ¬ (c : Int) < 1 := by omega
  have e3 : ¬ (12 : Int) < (c : Int) := by omega
  have h1 : 0 < (ps.length : Int) := by omega
  have hp12 : ps.length ≤ 12 := by omega
  have HG : Hid (w.grownBy w none) := Lib.hid (grown_refl _ _)
  have HRC : Hid (ps.length ≤ 6 ∨ c ≤ 6) := Lib.hid (by omega)
  clear h hq hl hlen0 hr1 hr12 hrc
  go_enter Tryd.func27, Tryd.ntmps27
  by_cases e6 : ps.length ≤ 6
  all_goals first
    | (have e4 : ¬ (6 : Int) < (ps.length : Int) := by omega
       clear e6
       go_wp2_with fail
       clear e0 e1 e2 e3 e4 hc0)
    | (have e4 : (6 : Int) < (ps.length : Int) := by omega
       have e5 : ¬ (6 : Int) < (c : Int) := by have := HRC.out; omega
       clear e6
       go_wp2_with fail
       clear e0 e1 e2 e3 e4 e5 hc0)
  all_goals
    go_loopw [3] (fun i wr => ∃ k : Nat, i = .int .i64 k ∧ k ≤ ps.length ∧ Hid (w.grownBy wr none)) (fun i _ => ps.length - (intOf i).toNat)
    case atStart => exact ⟨0, rfl, Nat.zero_le _, HG⟩
    case round =>
      clear HG
      obtain ⟨k, rfl, hk, HG⟩ := hrel
      rename World => wk
      by_cases hkb : k < ps.length
      · have h2 : (k : Int) < (ps.length : Int) := by omega
        have i1 : IntKind.i64.wrap ((k : Int) + 1) = (k : Int) + 1 := IntWalk.i64_in _ (by omega)
        obtain ⟨b', off', ar, cr, hbe, hcr, -, hri⟩ := H.out.row hkb
        simp only [Option.some.injEq, Addr.mk.injEq, and_true] at hbe
        obtain ⟨rfl, rfl⟩ := hbe
        obtain ⟨hlen, hbd⟩ := HQ.out _ (List.getElem_mem hkb)
        have HBD := Lib.hid hbd; have HRI := Lib.hid hri
        generalize hzs : ps[k].2 = zs at *
        subst hlen
        clear hbd hri hzs
        have k1 : ((zs.length : Int) != (zs.length : Int)) = false := by simp
        have hcr2 := HG.out.cell hcr (by simp)
        have hc02 := HG.out.cell HC0.out (by simp)
        have HCR := Lib.hid hcr
        clear hcr
        go_wp2_with fail
        go_big_quiet (fail)
        have HW := Lib.hid (grown_trans HG.out (grown_drewN wk nq none))
        clear hcr2 hc02 HG
        generalize wk.drewN nq = wd at *
        go_wp2_with fail
        go_loopw [4] (fun i wr => ∃ j : Nat, i = .int .i64 j ∧ j ≤ zs.length ∧ Hid (w.grownBy wr none)) (fun i _ => zs.length - (intOf i).toNat)
        case atStart => exact ⟨0, rfl, Nat.zero_le _, HW⟩
        case round =>
          clear HW
          obtain ⟨j, rfl, hj, HG⟩ := hrel
          rename World => wt
          have hcr2 := HG.out.cell HCR.out (by simp)
          by_cases hjb : j < zs.length
          · have h3 : (j : Int) < (zs.length : Int) := by omega
            have i2 : IntKind.i64.wrap ((j : Int) + 1) = (j : Int) + 1 := IntWalk.i64_in _ (by omega)
            obtain ⟨_, _, hx, -, -, hxc⟩ := HRI.out
            simp only [Value.slice.injEq] at hx
            obtain ⟨rfl, -, rfl⟩ := hx
            obtain ⟨xb, xo, rfl, hcx⟩ := Ints.at hxc hjb
            have hcx2 := HG.out.cell hcx (by simp)
            have hb := mem_at (P := fun x => -16 ≤ x ∧ x ≤ 16) HBD.out hjb
            generalize zs[j]?.getD 0 = x at *
            have f1 : ¬ x < -16 := by omega
            have f2 : ¬ 16 < x := by omega
            clear hcx hxc
            go_wp2_with fail
            go_roundw
            case rel => exact ⟨j + 1, by go_num, by omega, HG⟩
            case measure => simp [intOf]; omega
          · obtain rfl : j = zs.length := by omega
            have h3 : ¬ (zs.length : Int) < (zs.length : Int) := by omega
            go_wp2_with fail
            go_roundw
            case rel => exact ⟨k + 1, by go_num, by omega, HG⟩
            case measure => simp [intOf]; omega
      · obtain rfl : k = ps.length := by omega
        have h2 : ¬ (ps.length : Int) < (ps.length : Int) := by omega
        go_wp2_with fail
        go_ret
        exact ⟨rfl, HG.out⟩

/-! ### What rules keep -/
theorem OwnI.head1 {w : World} {base : Nat} {v : Value} {xs : List Int} (h : OwnI w base v xs) (h1 : 1 ≤ xs.length) : ∃ g cap, v = .slice (some ⟨g, 0, none⟩) xs.length cap ∧ base ≤ g := by
  rcases h.2 with ⟨rfl, h0⟩ | ⟨g, cap, cur, rfl, hg, _⟩
  · omega
  · exact ⟨g, cap, rfl, hg⟩
theorem dot_step : ∀ (y a b L : List Int), a.length = y.length → b.length = y.length → L.length = y.length → (∀ t, t < y.length → L[t]?.getD 0 = a[t]?.getD 0 + b[t]?.getD 0) → dotL y L = dotL y a + dotL y b
  | [], _, _, _, _, _, _, _ => by simp [dotL]
  | q :: y, x :: a, z :: b, l :: L, h1, h2, h3, h => by
    have h0 : l = x + z := h 0 (by simp)
    have := dot_step y a b L (by simpa using h1) (by simpa using h2) (by simpa using h3) (fun t ht => by
      have := h (t + 1) (by simpa using ht)
      simpa using this)
    rw [dotL, dotL, dotL, this, h0, Int.mul_add]
    omega
theorem dot_nn : ∀ (y a : List Int), (∀ x ∈ y, 0 ≤ x) → (∀ x ∈ a, 0 ≤ x) → 0 ≤ dotL y a
  | [], _, _, _ => by simp [dotL]
  | _ :: _, [], _, _ => by simp [dotL]
  | q :: y, x :: a, h1, h2 => by
    have := dot_nn y a (fun z hz => h1 z (List.mem_cons_of_mem _ hz)) (fun z hz => h2 z (List.mem_cons_of_mem _ hz))
    have := Int.mul_nonneg (h1 q (List.mem_cons_self ..)) (h2 x (List.mem_cons_self ..))
    rw [dotL]; omega
theorem dot_ge : ∀ (y a : List Int) (p : Nat), (∀ x ∈ y, 0 ≤ x) → (∀ x ∈ a, 0 ≤ x) → y[p]?.getD 0 * a[p]?.getD 0 ≤ dotL y a
  | [], a, p, _, _ => by simp [dotL]
  | q :: y, [], p, _, _ => by simp [dotL]
  | q :: y, x :: a, 0, h1, h2 => by
    have := dot_nn y a (fun z hz => h1 z (List.mem_cons_of_mem _ hz)) (fun z hz => h2 z (List.mem_cons_of_mem _ hz))
    rw [dotL, List.getElem?_cons_zero, List.getElem?_cons_zero]
    simp only [Option.getD_some]; omega
  | q :: y, x :: a, p + 1, h1, h2 => by
    have h3 := dot_ge y a p (fun z hz => h1 z (List.mem_cons_of_mem _ hz)) (fun z hz => h2 z (List.mem_cons_of_mem _ hz))
    have := Int.mul_nonneg (h1 q (List.mem_cons_self ..)) (h2 x (List.mem_cons_self ..))
    rw [dotL, List.getElem?_cons_succ, List.getElem?_cons_succ]; omega
/-- What is reached: its numbers, its weighted sums. -/
structure KeepI (C : List (List Int)) (c r : Nat) (st : List Int) (M : Int) (nw : List Int) : Prop where
  len : nw.length = r
  bd : ∀ x ∈ nw, 0 ≤ x ∧ x ≤ M
  dot : ∀ y, Flow C c y → dotL y st = dotL y nw
def AddR (nw col : List Int) (r t : Nat) (L : List Int) : Prop := L.length = r ∧ ∀ q, q < r → L[q]?.getD 0 = if q < t then nw[q]?.getD 0 + col[q]?.getD 0 else nw[q]?.getD 0
theorem AddR.start {nw col : List Int} {r : Nat} (h : nw.length = r) : AddR nw col r 0 nw := ⟨h, fun q _ => by rw [if_neg (by omega)]⟩
theorem AddR.put {nw col L : List Int} {r t : Nat} (h : AddR nw col r t L) (ht : t < r) : AddR nw col r (t + 1) (L.set t (nw[t]?.getD 0 + col[t]?.getD 0)) := by
  refine ⟨by rw [List.length_set]; exact h.1, fun q hq => ?_⟩
  rw [List.getElem?_set]
  by_cases e : t = q
  · subst e
    rw [if_pos rfl, if_pos (by rw [h.1]; exact hq), if_pos (by omega)]; rfl
  · rw [if_neg e, h.2 q hq]
    by_cases e2 : q < t
    · rw [if_pos e2, if_pos (by omega)]
    · rw [if_neg e2, if_neg (by omega)]
theorem colP {ps : List Row} {j q : Nat} (hq : q < ps.length) : (colI (ps.map Prod.snd) j)[q]?.getD 0 = ps[q].2[j]?.getD 0 := by
  unfold colI
  rw [List.map_map, List.getElem?_map, List.getElem?_eq_getElem hq]; rfl
theorem KeepI.start {C : List (List Int)} {c r : Nat} {st : List Int} (h : st.length = r) (hb : ∀ x ∈ st, 0 ≤ x ∧ x ≤ 6) : KeepI C c r st 6 st := ⟨h, hb, fun _ _ => rfl⟩
theorem KeepI.step {C : List (List Int)} {c r j : Nat} {st nw L : List Int} {M : Int} (h : KeepI C c r st M nw) (hC : C.length = r) (hj : j < c) (hA : AddR nw (colI C j) r r L) (hcb : ∀ q, q < r → (colI C j)[q]?.getD 0 ≤ 16)
    (h0 : ∀ q, q < r → 0 ≤ nw[q]?.getD 0 + (colI C j)[q]?.getD 0) : KeepI C c r st (M + 16) L := by
  refine ⟨hA.1, fun x hx => ?_, fun y hy => ?_⟩
  · obtain ⟨q, hq, rfl⟩ := List.mem_iff_getElem.1 hx
    have h1 := hA.2 q (by rw [← hA.1]; exact hq)
    have hq2 : q < r := by rw [← hA.1]; exact hq
    rw [if_pos hq2, List.getElem?_eq_getElem hq] at h1
    simp only [Option.getD_some] at h1
    rw [h1]
    have h2 := h0 q hq2
    have h3 := hcb q hq2
    have h4 : nw[q]?.getD 0 ≤ M := by
      rw [List.getElem?_eq_getElem (by rw [h.len]; exact hq2)]
      exact (h.bd _ (List.getElem_mem _)).2
    omega
  · have hl : (colI C j).length = r := by unfold colI; rw [List.length_map, hC]
    have hyl : y.length = r := by rw [hy.1, hC]
    rw [dot_step y nw (colI C j) L (by rw [h.len, hyl]) (by rw [hl, hyl]) (by rw [hA.1, hyl]) (fun t ht => by
      have := hA.2 t (by omega)
      rwa [if_pos (by omega)] at this), hy.2 j hj, ← h.dot y hy]
    omega
theorem bound_le {C : List (List Int)} {c r p : Nat} {st nw : List Int} {M b : Int} (h : KeepI C c r st M nw) (hA : BoundA C c r st p b) : nw[p]?.getD 0 ≤ b := by
  obtain ⟨s, y, -, -, h3, h4, h5, rfl⟩ := hA
  rw [h.dot y h3.flow]
  have h6 := dot_ge y nw p h4 (fun x hx => (h.bd x hx).1)
  rw [Int.tdiv_eq_ediv_of_nonneg (dot_nn y nw h4 (fun x hx => (h.bd x hx).1))]
  exact (Int.le_ediv_iff_mul_le h5).2 (by rw [Int.mul_comm]; exact h6)
end Go.Proofs.YtpnghgihepnepaaDoor

namespace Go.Proofs.YtpnghgihepnepaaDoor
open Go.RowKit
set_option linter.unusedVariables false

theorem order_any (x y : Int) (w : World) :
    Calls Tryd.prog 42 #[.int .i64 x, .int .i64 y] w fun e w' => e = .returned (.int .i64 (orderI x y)) ∧ w' = w := by
  by_cases h1 : x < y
  · go_enter Tryd.func42, Tryd.ntmps42
    go_wp2
    go_ret
    exact ⟨ret_int (by unfold orderI; rw [if_pos (by omega)]), rfl⟩
  · by_cases h2 : y < x
    · go_enter Tryd.func42, Tryd.ntmps42
      go_wp2
      go_ret
      exact ⟨ret_int (by unfold orderI; rw [if_neg (by omega), if_pos (by omega)]), rfl⟩
    · go_enter Tryd.func42, Tryd.ntmps42
      go_wp2
      go_ret
      exact ⟨ret_int (by unfold orderI; rw [if_neg (by omega), if_neg (by omega)]), rfl⟩

theorem rcompare_any (va vb : Value) (xs ys : List Int) (w : World) (h : Ints w va xs) (h' : Ints w vb ys) :
    Calls Tryd.prog 26 #[va, vb] w fun e w' => e = .returned (.int .i64 (compareI xs ys)) ∧ Drew w w' := by
  obtain ⟨a, cap, rfl, hl, hb, hc⟩ := h
  obtain ⟨a', cap', rfl, hl1, hb', hc'⟩ := h'
  unfold maxLen at hl hl1
  clear hb hb'
  by_cases h3 : xs.length = ys.length
  · have H3 := Lib.hid h3
    have h4 : ((xs.length : Int) != (ys.length : Int)) = false := by simp [h3]
    have hle : xs.length ≤ ys.length := by omega
    have hge : ys.length ≤ xs.length := by omega
    clear h3
    go_enter Tryd.func26, Tryd.ntmps26
    go_wp2_with fail
    go_loopw [5] (fun i wr => ∃ k n : Nat, k ≤ xs.length ∧ i = .int .i64 k ∧ lexI (xs.take k) (ys.take k) = 0 ∧ wr = w.drewN n) (fun i _ => xs.length - (intOf i).toNat)
    case atStart => exact ⟨0, 0, Nat.zero_le _, rfl, by simp [lexI], rfl⟩
    case round =>
      obtain ⟨k, n, hk, rfl, ha, rfl⟩ := hrel
      have HA := Lib.hid ha
      clear ha
      by_cases hlt : k < xs.length
      · have hlt' : k < ys.length := by omega
        have HS := Lib.hid (lexI_snoc xs ys k hlt hlt' HA.out)
        have HT := Lib.hid (lexI_at xs ys k hlt hlt' HA.out)
        obtain ⟨b, off, rfl, hx⟩ := Ints.at hc hlt
        obtain ⟨b', off', rfl, hx'⟩ := Ints.at hc' hlt'
        have h1 : (k : Int) < (xs.length : Int) := by omega
        have h2 : (k : Int) < (ys.length : Int) := by omega
        clear hc hc'
        generalize xs[k]?.getD 0 = x at *
        generalize ys[k]?.getD 0 = y at *
        by_cases hp : x = y
        · have HP := Lib.hid (orderI_zero.2 hp)
          have h3 : (x != y) = false := by simp [hp]
          clear hp
          go_wp2_with fail
          go_quiet (fail)
          go_wp2_with fail
          go_roundw
          case rel => exact ⟨k + 1, _, by omega, by go_num, by rw [HS.out, HP.out], rfl⟩
          case measure => simp [intOf]; omega
        · have HP := Lib.hid (mt orderI_zero.1 hp)
          have h3 : (x != y) = true := by simp [hp]
          clear hp
          go_wp2_with fail
          go_quiet (fail)
          go_wp2_with fail
          go_quiet ((go_at_call 42; exact quiet_any (order_any _ _ _) (drew_ex _ _ _)))
          go_wp2_with fail
          go_ret
          exact ⟨ret_int (by rw [← HT.out HP.out]; have := H3.out; unfold compareI; rw [if_neg (by omega), if_neg (by omega)]), (Drew.mk _ _).trans ((Drew.mk _ _).trans (Drew.mk _ _))⟩
      · clear hc hc'
        go_wp2_with fail
        go_ret
        exact ⟨ret_int (by have ha := HA.out; have h3 := H3.out; rw [List.take_of_length_le (by omega), List.take_of_length_le (by omega)] at ha; unfold compareI; rw [if_neg (by omega), if_neg (by omega), ha]), Drew.mk _ _⟩
  · have H3 := Lib.hid h3
    have h4 : ((xs.length : Int) != (ys.length : Int)) = true := by simp; omega
    clear h3
    go_enter Tryd.func26, Tryd.ntmps26
    go_wp2_with (go_at_call 42; refine (order_any _ _ _).mono ?_; rintro e w' ⟨rfl, rfl⟩)
    go_ret
    exact ⟨ret_int (by have := H3.out; unfold compareI orderI; split <;> rename_i h6 <;> split <;> rename_i h7 <;> first | omega | (rw [if_pos (by omega)]) | (rw [if_neg (by omega), if_pos (by omega)])), Drew.refl _⟩

theorem same_any (va vb : Value) (xs ys : List Int) (w : World) (h : Ints w va xs) (h' : Ints w vb ys) :
    Calls Tryd.prog 37 #[va, vb] w fun e w' => e = .returned (.bool (xs == ys)) ∧ Drew w w' := by
  have H := Lib.hid h
  have H' := Lib.hid h'
  clear h h'
  go_enter Tryd.func37, Tryd.ntmps37
  go_wp2_with fail
  refine (rcompare_any _ _ _ _ _ H.out H'.out).mono ?_
  rintro e w' ⟨rfl, hd⟩
  go_wp2_with fail
  go_ret
  exact ⟨ret_bool (by rw [Bool.eq_iff_iff]; simp [compareI_zero]), hd⟩
end Go.Proofs.YtpnghgihepnepaaDoor
