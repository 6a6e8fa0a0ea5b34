/- The reference's Check of a matrix; what rules keep. -/
import Derived.Test.YtpnghgihepnepaaDoorDe
import Derived.BigQuiet
namespace Go.Proofs.YtpnghgihepnepaaDoor
open Go.RowKit
set_option linter.unusedVariables false

set_option maxRecDepth 100000 in
set_option maxHeartbeats 2000000 in
theorem rcheck10_any {r c : Nat} {ps : List Row} {v : Value} {w : World} (h : RowsP w v ps) (hm : MatOkP r c ps) :
    Calls Tryd.prog 27 #[v] w fun e w' => e = .returned (.int .i64 0) ∧ w.grownBy w' none := by
  obtain ⟨hl, hr1, hr12, hc1, hc12, hrc, hq⟩ := hm
  obtain ⟨a, cap, rfl, -⟩ : ∃ a cap, v = .slice a ps.length cap ∧ True := by obtain ⟨a, cap, h, -⟩ := h; exact ⟨a, cap, h, trivial⟩
  have H := Lib.hid h; have HQ := Lib.hid hq; have HL := Lib.hid hl
  have h0 : 0 < ps.length := by omega
  obtain ⟨b, off, a2, c2, rfl, hc0, -, -⟩ := h.row h0
  have hlen0 := (hq _ (List.getElem_mem h0)).1
  rw [hlen0, Nat.add_zero] at hc0
  have HC0 := Lib.hid hc0
  have e0 : ¬ (ps.length : Int) < 1 := by omega
  have e1 : ¬ (12 : Int) < (ps.length : Int) := by omega
  have e2 : ¬ (c : Int) < 1 := by omega
  have e3 : ¬ (12 : Int) < (c : Int) := by omega
  have h1 : 0 < (ps.length : Int) := by omega
  have hp12 : ps.length ≤ 12 := by omega
  have HG : Hid (w.grownBy w none) := Lib.hid (grown_refl _ _)
  have HRC : Hid (ps.length ≤ 6 ∨ c ≤ 6) := Lib.hid (by omega)
  clear h hq hl hlen0 hr1 hr12 hrc
  go_enter Tryd.func27, Tryd.ntmps27
  by_cases e6 : ps.length ≤ 6
  all_goals first
    | (have e4 : ¬ (6 : Int) < (ps.length : Int) := by omega
       clear e6
       go_wp2_with fail
       clear e0 e1 e2 e3 e4 hc0)
    | (have e4 : (6 : Int) < (ps.length : Int) := by omega
       have e5 : ¬ (6 : Int) < (c : Int) := by have := HRC.out; omega
       clear e6
       go_wp2_with fail
       clear e0 e1 e2 e3 e4 e5 hc0)
  all_goals
    go_loopw [3] (fun i wr => ∃ k : Nat, i = .int .i64 k ∧ k ≤ ps.length ∧ Hid (w.grownBy wr none)) (fun i _ => ps.length - (intOf i).toNat)
    case atStart => exact ⟨0, rfl, Nat.zero_le _, HG⟩
    case round =>
      clear HG
      obtain ⟨k, rfl, hk, HG⟩ := hrel
      rename World => wk
      by_cases hkb : k < ps.length
      · have h2 : (k : Int) < (ps.length : Int) := by omega
        have i1 : IntKind.i64.wrap ((k : Int) + 1) = (k : Int) + 1 := IntWalk.i64_in _ (by omega)
        obtain ⟨b', off', ar, cr, hbe, hcr, -, hri⟩ := H.out.row hkb
        simp only [Option.some.injEq, Addr.mk.injEq, and_true] at hbe
        obtain ⟨rfl, rfl⟩ := hbe
        obtain ⟨hlen, hbd⟩ := HQ.out _ (List.getElem_mem hkb)
        have HBD := Lib.hid hbd; have HRI := Lib.hid hri
        generalize hzs : ps[k].2 = zs at *
        subst hlen
        clear hbd hri hzs
        have k1 : ((zs.length : Int) != (zs.length : Int)) = false := by simp
        have hcr2 := HG.out.cell hcr (by simp)
        have hc02 := HG.out.cell HC0.out (by simp)
        have HCR := Lib.hid hcr
        clear hcr
        go_wp2_with fail
        go_big_quiet (fail)
        have HW := Lib.hid (grown_trans HG.out (grown_drewN wk nq none))
        clear hcr2 hc02 HG
        generalize wk.drewN nq = wd at *
        go_wp2_with fail
        go_loopw [4] (fun i wr => ∃ j : Nat, i = .int .i64 j ∧ j ≤ zs.length ∧ Hid (w.grownBy wr none)) (fun i _ => zs.length - (intOf i).toNat)
        case atStart => exact ⟨0, rfl, Nat.zero_le _, HW⟩
        case round =>
          clear HW
          obtain ⟨j, rfl, hj, HG⟩ := hrel
          rename World => wt
          have hcr2 := HG.out.cell HCR.out (by simp)
          by_cases hjb : j < zs.length
          · have h3 : (j : Int) < (zs.length : Int) := by omega
            have i2 : IntKind.i64.wrap ((j : Int) + 1) = (j : Int) + 1 := IntWalk.i64_in _ (by omega)
            obtain ⟨_, _, hx, -, -, hxc⟩ := HRI.out
            simp only [Value.slice.injEq] at hx
            obtain ⟨rfl, -, rfl⟩ := hx
            obtain ⟨xb, xo, rfl, hcx⟩ := Ints.at hxc hjb
            have hcx2 := HG.out.cell hcx (by simp)
            have hb := mem_at (P := fun x => -16 ≤ x ∧ x ≤ 16) HBD.out hjb
            generalize zs[j]?.getD 0 = x at *
            have f1 : ¬ x < -16 := by omega
            have f2 : ¬ 16 < x := by omega
            clear hcx hxc
            go_wp2_with fail
            go_roundw
            case rel => exact ⟨j + 1, by go_num, by omega, HG⟩
            case measure => simp [intOf]; omega
          · obtain rfl : j = zs.length := by omega
            have h3 : ¬ (zs.length : Int) < (zs.length : Int) := by omega
            go_wp2_with fail
            go_roundw
            case rel => exact ⟨k + 1, by go_num, by omega, HG⟩
            case measure => simp [intOf]; omega
      · obtain rfl : k = ps.length := by omega
        have h2 : ¬ (ps.length : Int) < (ps.length : Int) := by omega
        go_wp2_with fail
        go_ret
        exact ⟨rfl, HG.out⟩

/-! ### What rules keep -/
theorem OwnI.head1 {w : World} {base : Nat} {v : Value} {xs : List Int} (h : OwnI w base v xs) (h1 : 1 ≤ xs.length) : ∃ g cap, v = .slice (some ⟨g, 0, none⟩) xs.length cap ∧ base ≤ g := by
  rcases h.2 with ⟨rfl, h0⟩ | ⟨g, cap, cur, rfl, hg, _⟩
  · omega
  · exact ⟨g, cap, rfl, hg⟩
theorem dot_step : ∀ (y a b L : List Int), a.length = y.length → b.length = y.length → L.length = y.length → (∀ t, t < y.length → L[t]?.getD 0 = a[t]?.getD 0 + b[t]?.getD 0) → dotL y L = dotL y a + dotL y b
  | [], _, _, _, _, _, _, _ => by simp [dotL]
  | q :: y, x :: a, z :: b, l :: L, h1, h2, h3, h => by
    have h0 : l = x + z := h 0 (by simp)
    have := dot_step y a b L (by simpa using h1) (by simpa using h2) (by simpa using h3) (fun t ht => by
      have := h (t + 1) (by simpa using ht)
      simpa using this)
    rw [dotL, dotL, dotL, this, h0, Int.mul_add]
    omega
theorem dot_nn : ∀ (y a : List Int), (∀ x ∈ y, 0 ≤ x) → (∀ x ∈ a, 0 ≤ x) → 0 ≤ dotL y a
  | [], _, _, _ => by simp [dotL]
  | _ :: _, [], _, _ => by simp [dotL]
  | q :: y, x :: a, h1, h2 => by
    have := dot_nn y a (fun z hz => h1 z (List.mem_cons_of_mem _ hz)) (fun z hz => h2 z (List.mem_cons_of_mem _ hz))
    have := Int.mul_nonneg (h1 q (List.mem_cons_self ..)) (h2 x (List.mem_cons_self ..))
    rw [dotL]; omega
theorem dot_ge : ∀ (y a : List Int) (p : Nat), (∀ x ∈ y, 0 ≤ x) → (∀ x ∈ a, 0 ≤ x) → y[p]?.getD 0 * a[p]?.getD 0 ≤ dotL y a
  | [], a, p, _, _ => by simp [dotL]
  | q :: y, [], p, _, _ => by simp [dotL]
  | q :: y, x :: a, 0, h1, h2 => by
    have := dot_nn y a (fun z hz => h1 z (List.mem_cons_of_mem _ hz)) (fun z hz => h2 z (List.mem_cons_of_mem _ hz))
    rw [dotL, List.getElem?_cons_zero, List.getElem?_cons_zero]
    simp only [Option.getD_some]; omega
  | q :: y, x :: a, p + 1, h1, h2 => by
    have h3 := dot_ge y a p (fun z hz => h1 z (List.mem_cons_of_mem _ hz)) (fun z hz => h2 z (List.mem_cons_of_mem _ hz))
    have := Int.mul_nonneg (h1 q (List.mem_cons_self ..)) (h2 x (List.mem_cons_self ..))
    rw [dotL, List.getElem?_cons_succ, List.getElem?_cons_succ]; omega
/-- What is reached: its numbers, its weighted sums. -/
structure KeepI (C : List (List Int)) (c r : Nat) (st : List Int) (M : Int) (nw : List Int) : Prop where
  len : nw.length = r
  bd : ∀ x ∈ nw, 0 ≤ x ∧ x ≤ M
  dot : ∀ y, Flow C c y → dotL y st = dotL y nw
def AddR (nw col : List Int) (r t : Nat) (L : List Int) : Prop := L.length = r ∧ ∀ q, q < r → L[q]?.getD 0 = if q < t then nw[q]?.getD 0 + col[q]?.getD 0 else nw[q]?.getD 0
theorem AddR.start {nw col : List Int} {r : Nat} (h : nw.length = r) : AddR nw col r 0 nw := ⟨h, fun q _ => by rw [if_neg (by omega)]⟩
theorem AddR.put {nw col L : List Int} {r t : Nat} (h : AddR nw col r t L) (ht : t < r) : AddR nw col r (t + 1) (L.set t (nw[t]?.getD 0 + col[t]?.getD 0)) := by
  refine ⟨by rw [List.length_set]; exact h.1, fun q hq => ?_⟩
  rw [List.getElem?_set]
  by_cases e : t = q
  · subst e
    rw [if_pos rfl, if_pos (by rw [h.1]; exact hq), if_pos (by omega)]; rfl
  · rw [if_neg e, h.2 q hq]
    by_cases e2 : q < t
    · rw [if_pos e2, if_pos (by omega)]
    · rw [if_neg e2, if_neg (by omega)]
theorem colP {ps : List Row} {j q : Nat} (hq : q < ps.length) : (colI (ps.map Prod.snd) j)[q]?.getD 0 = ps[q].2[j]?.getD 0 := by
  unfold colI
  rw [List.map_map, List.getElem?_map, List.getElem?_eq_getElem hq]; rfl
theorem KeepI.start {C : List (List Int)} {c r : Nat} {st : List Int} (h : st.length = r) (hb : ∀ x ∈ st, 0 ≤ x ∧ x ≤ 6) : KeepI C c r st 6 st := ⟨h, hb, fun _ _ => rfl⟩
theorem KeepI.step {C : List (List Int)} {c r j : Nat} {st nw L : List Int} {M : Int} (h : KeepI C c r st M nw) (hC : C.length = r) (hj : j < c) (hA : AddR nw (colI C j) r r L) (hcb : ∀ q, q < r → (colI C j)[q]?.getD 0 ≤ 16)
    (h0 : ∀ q, q < r → 0 ≤ nw[q]?.getD 0 + (colI C j)[q]?.getD 0) : KeepI C c r st (M + 16) L := by
  refine ⟨hA.1, fun x hx => ?_, fun y hy => ?_⟩
  · obtain ⟨q, hq, rfl⟩ := List.mem_iff_getElem.1 hx
    have h1 := hA.2 q (by rw [← hA.1]; exact hq)
    have hq2 : q < r := by rw [← hA.1]; exact hq
    rw [if_pos hq2, List.getElem?_eq_getElem hq] at h1
    simp only [Option.getD_some] at h1
    rw [h1]
    have h2 := h0 q hq2
    have h3 := hcb q hq2
    have h4 : nw[q]?.getD 0 ≤ M := by
      rw [List.getElem?_eq_getElem (by rw [h.len]; exact hq2)]
      exact (h.bd _ (List.getElem_mem _)).2
    omega
  · have hl : (colI C j).length = r := by unfold colI; rw [List.length_map, hC]
    have hyl : y.length = r := by rw [hy.1, hC]
    rw [dot_step y nw (colI C j) L (by rw [h.len, hyl]) (by rw [hl, hyl]) (by rw [hA.1, hyl]) (fun t ht => by
      have := hA.2 t (by omega)
      rwa [if_pos (by omega)] at this), hy.2 j hj, ← h.dot y hy]
    omega
theorem bound_le {C : List (List Int)} {c r p : Nat} {st nw : List Int} {M b : Int} (h : KeepI C c r st M nw) (hA : BoundA C c r st p b) : nw[p]?.getD 0 ≤ b := by
  obtain ⟨s, y, -, -, h3, h4, h5, rfl⟩ := hA
  rw [h.dot y h3.flow]
  have h6 := dot_ge y nw p h4 (fun x hx => (h.bd x hx).1)
  rw [Int.tdiv_eq_ediv_of_nonneg (dot_nn y nw h4 (fun x hx => (h.bd x hx).1))]
  exact (Int.le_ediv_iff_mul_le h5).2 (by rw [Int.mul_comm]; exact h6)
end Go.Proofs.YtpnghgihepnepaaDoor
