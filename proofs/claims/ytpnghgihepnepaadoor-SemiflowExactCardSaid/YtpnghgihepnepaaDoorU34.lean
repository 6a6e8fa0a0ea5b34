/- Texts Qi, Qj, Dt in one. -/
import Derived.Test.YtpnghgihepnepaaDoorU33
import Derived.Test.YtpnghgihepnepaaDoorU30
import Derived.Test.YtpnghgihepnepaaDoorU18
import Derived.Deep.Matrix
import Derived.Test.YtpnghgihepnepaaDoorU16
import Derived.Test.YtpnghgihepnepaaDoorRows
import Derived.WalkKit
import Derived.ProofKit
import Derived.OpenShut
import Derived.Deep.DeepHandedRow
import Derived.Lib.LaidTab
import Derived.Stop.LaidErr
import Derived.MakeChecks
namespace Go.Proofs.YtpnghgihepnepaaDoor
open Go.RowKit
set_option linter.unusedVariables false

theorem holds_no {ms : List Row} {va vy : Value} {y : List Int} {w : World} (h : RowsI w va ms) (hno : ¬ Shape11 ms) (hy : Ints w vy y) :
    Calls Tryd.prog 17 #[va, vy] w fun e w' => e = .returned (.bool false) ∧ w' = w := by
  have H := Lib.hid (scheck_no h hno)
  obtain ⟨ay, cy, rfl, -⟩ := hy
  obtain ⟨aa, capa, rfl, -⟩ : ∃ a cap, va = .slice a ms.length cap ∧ True := by obtain ⟨a, cap, h, -⟩ := h; exact ⟨a, cap, h, trivial⟩
  clear h
  go_enter Tryd.func17, Tryd.ntmps17
  go_wp2_with fail
  refine H.out.mono ?_
  rintro e w1 ⟨rfl, hw⟩
  subst hw
  go_wp2_with fail
  go_ret
  exact ⟨rfl, rfl⟩
theorem holds_bad {ms : List Row} {r c : Nat} {va vy : Value} {y : List Int} {w : World} (h : RowsP w va ms) (hm : MatOkP r c ms) (h6 : r ≤ 6) (hy : Ints w vy y) (hb : y.length ≠ r ∨ y.all (nnB 1099511627776) = false) :
    Calls Tryd.prog 17 #[va, vy] w fun e w' => e = .returned (.bool false) ∧ w' = w := by
  have H := Lib.hid (scheck_any h hm h6); have HY := Lib.hid hy
  obtain ⟨ay, cy, rfl, hyl, -⟩ := hy
  unfold maxLen at hyl
  obtain ⟨aa, capa, rfl, -⟩ : ∃ a cap, va = .slice a ms.length cap ∧ True := by obtain ⟨a, cap, h, -⟩ := h; exact ⟨a, cap, h, trivial⟩
  have e1 : ms.length = r := hm.1
  rw [e1] at H ⊢
  clear h hm e1
  by_cases hl : y.length = r
  · have HB : Hid (y.all (nnB 1099511627776) = false) := Lib.hid (by rcases hb with hb | hb; exact absurd hl hb; exact hb)
    have k1 : ((y.length : Int) != (r : Int)) = false := by simp; omega
    clear hb hl
    go_enter Tryd.func17, Tryd.ntmps17
    go_wp2_with fail
    refine H.out.mono ?_
    rintro e w1 ⟨rfl, hw⟩
    subst hw
    go_wp2_with fail
    refine (within_is _ _ _ _ HY.out).mono ?_
    rintro e w2 ⟨rfl, hw⟩
    subst hw
    rw [HB.out]
    go_wp2_with fail
    go_ret
    exact ⟨rfl, rfl⟩
  · have k1 : ((y.length : Int) != (r : Int)) = true := by simp; omega
    clear hb hl
    go_enter Tryd.func17, Tryd.ntmps17
    go_wp2_with fail
    refine H.out.mono ?_
    rintro e w1 ⟨rfl, hw⟩
    subst hw
    go_wp2_with fail
    go_ret
    exact ⟨rfl, rfl⟩
theorem rholds_no {ms : List Row} {va vy : Value} {y : List Int} {w : World} (h : RowsI w va ms) (hno : ¬ Shape11 ms) (hy : Ints w vy y) :
    Calls Tryd.prog 18 #[va, vy] w fun e w' => e = .returned (.bool false) ∧ w.grownBy w' none := by
  have H := Lib.hid (rcheck11_no h hno)
  obtain ⟨ay, cy, rfl, -⟩ := hy
  obtain ⟨aa, capa, rfl, -⟩ : ∃ a cap, va = .slice a ms.length cap ∧ True := by obtain ⟨a, cap, h, -⟩ := h; exact ⟨a, cap, h, trivial⟩
  clear h
  go_enter Tryd.func18, Tryd.ntmps18
  go_wp2_with fail
  refine H.out.mono ?_
  rintro e w1 ⟨rfl, hg⟩
  have HG := Lib.hid hg
  clear hg
  go_wp2_with fail
  go_ret
  exact ⟨rfl, HG.out⟩
theorem rholds_len {ms : List Row} {r c : Nat} {va vy : Value} {y : List Int} {w : World} (h : RowsP w va ms) (hm : MatOkP r c ms) (h6 : r ≤ 6) (hy : Ints w vy y) (hl : y.length ≠ r) :
    Calls Tryd.prog 18 #[va, vy] w fun e w' => e = .returned (.bool false) ∧ w.grownBy w' none := by
  have H := Lib.hid (rcheck11_ok h hm h6)
  obtain ⟨ay, cy, rfl, hyl, -⟩ := hy
  unfold maxLen at hyl
  obtain ⟨aa, capa, rfl, -⟩ : ∃ a cap, va = .slice a ms.length cap ∧ True := by obtain ⟨a, cap, h, -⟩ := h; exact ⟨a, cap, h, trivial⟩
  have e1 : ms.length = r := hm.1
  rw [e1] at H ⊢
  have k1 : ((y.length : Int) != (r : Int)) = true := by simp; omega
  clear h hm e1 hl
  go_enter Tryd.func18, Tryd.ntmps18
  go_wp2_with fail
  refine H.out.mono ?_
  rintro e w1 ⟨rfl, hg⟩
  have HG := Lib.hid hg
  clear hg
  go_wp2_with fail
  go_ret
  exact ⟨rfl, HG.out⟩
def zeroB (y : List Int) : Bool := y.all (fun z => z == 0)
theorem zeroB_snoc (y : List Int) (k : Nat) (h : k < y.length) : zeroB (y.take (k + 1)) = (zeroB (y.take k) && (y[k]?.getD 0 == 0)) := all_snoc1 _ y k h
theorem zeroB_pos {y : List Int} {m : Int} (h : y.all (nnB m) = true) (hz : zeroB y = false) : ∃ i : Nat, 0 < y[i]?.getD 0 := by
  unfold zeroB at hz
  rw [List.all_eq_false] at hz
  obtain ⟨x, hx, h1⟩ := hz
  have := all_nn h x hx
  obtain ⟨i, hi, rfl⟩ := List.getElem_of_mem hx
  refine ⟨i, ?_⟩
  rw [List.getElem?_eq_getElem hi]
  simp only [Option.getD_some]
  have h2 : y[i] ≠ 0 := by simpa using h1
  omega
theorem zeroB_none {y : List Int} (hz : zeroB y = true) : ¬ ∃ i : Nat, 0 < y[i]?.getD 0 := by
  rintro ⟨i, hi⟩
  unfold zeroB at hz
  rw [List.all_eq_true] at hz
  by_cases h : i < y.length
  · rw [List.getElem?_eq_getElem h] at hi
    have := hz _ (List.getElem_mem h)
    simp only [Option.getD_some] at hi
    have h2 : y[i] = 0 := by simpa using this
    omega
  · rw [List.getElem?_eq_none (by omega)] at hi
    simp at hi
def HoldsR (C : List (List Int)) (r : Nat) (y : List Int) (w : World) (e : Ending) (w' : World) : Prop := ∃ b : Bool, e = .returned (.bool b) ∧ (b = true ↔ (y.all (nnB 1099511627776) = true ∧ Flow C r y ∧ ∃ i : Nat, 0 < y[i]?.getD 0)) ∧ w.grownBy w' none
set_option maxRecDepth 100000 in
set_option maxHeartbeats 2000000 in
theorem rholds_any {v vy : Value} {w : World} {ps : List Row} {y : List Int} {r c : Nat} (h : RowsP w v ps) (hm : MatOkP r c ps) (h6 : r ≤ 6) (hy : Ints w vy y) (hl : y.length = r) :
    Calls Tryd.prog 18 #[v, vy] w (HoldsR (ps.map Prod.snd) c y w) := by
  have HM := Lib.hid hm
  have HCK := Lib.hid (rcheck11_ok h hm h6)
  obtain ⟨hpl, hr1, hr12, hc1, hc12, hrc, hq⟩ := hm
  obtain ⟨a, cap, rfl, -⟩ : ∃ a cap, v = .slice a ps.length cap ∧ True := by obtain ⟨a, cap, h, -⟩ := h; exact ⟨a, cap, h, trivial⟩
  have H := Lib.hid h; have HQ := Lib.hid hq; have HY := Lib.hid hy
  have h0 : 0 < ps.length := by omega
  obtain ⟨b, off, a2, c2, rfl, hc0, -, -⟩ := h.row h0
  rw [(hq _ (List.getElem_mem h0)).1, Nat.add_zero] at hc0
  obtain ⟨ay, cy, rfl, -, -, hyc⟩ := hy
  have HYC := Lib.hid hyc
  have HYL : Hid (y.length = ps.length) := Lib.hid (by omega)
  have hp6 : ps.length ≤ 6 := by omega
  rw [HYL.out] at HY ⊢
  have k1 : ((ps.length : Int) != (ps.length : Int)) = false := by simp
  have p1 : 0 < (ps.length : Int) := by omega
  have HFL : Hid (Flow (ps.map Prod.snd) c y ↔ ∀ j, j < c → dotL y (colL ps j) = 0) := Lib.hid (by
    unfold Flow
    constructor
    · rintro ⟨-, h2⟩ j hj; rw [← colI_colL]; exact h2 j hj
    · intro h2; exact ⟨by rw [List.length_map]; omega, fun j hj => by rw [colI_colL]; exact h2 j hj⟩)
  have HC0 := Lib.hid hc0
  clear h hq hyc hl hpl hr1 hr12 hrc h6 hc0
  go_enter Tryd.func18, Tryd.ntmps18
  go_wp2_with fail
  refine HCK.out.mono ?_
  rintro e w1 ⟨rfl, hg⟩
  have HG := Lib.hid hg
  clear hg
  go_wp2_with fail
  go_loopw [6, 5] (fun i z wr => ∃ k : Nat, i = .int .i64 k ∧ k ≤ ps.length ∧ z = .bool (zeroB (y.take k)) ∧ Hid ((y.take k).all (nnB 1099511627776) = true) ∧ wr = w1) (fun i _ _ => ps.length - (intOf i).toNat)
  case atStart => exact ⟨0, rfl, Nat.zero_le _, rfl, Lib.hid rfl, rfl⟩
  case round =>
    obtain ⟨k, rfl, hk, rfl, HA, rfl⟩ := hrel
    rename World => wk
    by_cases hkb : k < ps.length
    · have h1 : (k : Int) < (ps.length : Int) := by omega
      have i1 : IntKind.i64.wrap ((k : Int) + 1) = (k : Int) + 1 := IntWalk.i64_in _ (by omega)
      have hky : k < y.length := by rw [HYL.out]; exact hkb
      obtain ⟨by', oy, rfl, hcy⟩ := Ints.at HYC.out hky
      have hcy2 := HG.out.cell hcy (by simp)
      have HZS := Lib.hid (zeroB_snoc y k hky)
      have HAS := Lib.hid (all_snoc1 (nnB 1099511627776) y k hky)
      have HN := Lib.hid (all_no (P := nnB 1099511627776) hky)
      generalize y[k]?.getD 0 = x at *
      clear hcy hky
      by_cases f1 : x < 0
      · have HB : Hid (y.all (nnB 1099511627776) = false) := Lib.hid (HN.out (by unfold nnB; simp; omega))
        have d1 : decide (x < 0) = true := by simpa using f1
        go_wp2_with fail
        go_ret
        exact ⟨false, rfl, ⟨fun h => (by cases h), fun h => (by rw [HB.out] at h; cases h.1)⟩, HG.out⟩
      · have d1 : decide (x < 0) = false := by simpa using f1
        by_cases f2 : (1099511627776 : Int) < x
        · have HB : Hid (y.all (nnB 1099511627776) = false) := Lib.hid (HN.out (by unfold nnB; simp; omega))
          have d2 : decide ((1099511627776 : Int) < x) = true := by simpa using f2
          go_wp2_with fail
          go_ret
          exact ⟨false, rfl, ⟨fun h => (by cases h), fun h => (by rw [HB.out] at h; cases h.1)⟩, HG.out⟩
        · have d2 : decide ((1099511627776 : Int) < x) = false := by simpa using f2
          have HA2 : Hid ((y.take (k + 1)).all (nnB 1099511627776) = true) := Lib.hid (by rw [HAS.out, HA.out]; unfold nnB; simp; omega)
          cases hz : zeroB (y.take k) with
          | false =>
            have HZ2 : Hid (zeroB (y.take (k + 1)) = false) := Lib.hid (by rw [HZS.out, hz, Bool.false_and])
            clear hz
            go_wp2_with fail
            go_roundw
            case rel => exact ⟨k + 1, by go_num, by omega, by rw [HZ2.out], HA2, trivial⟩
            case measure => simp [intOf]; omega
          | true =>
            have HZ2 : Hid (zeroB (y.take (k + 1)) = (x == 0)) := Lib.hid (by rw [HZS.out, hz, Bool.true_and])
            clear hz
            go_wp2_with fail
            go_roundw
            case rel => exact ⟨k + 1, by go_num, by omega, by rw [HZ2.out], HA2, trivial⟩
            case measure => simp [intOf]; omega
    · obtain rfl : k = ps.length := by omega
      have h1 : ¬ (ps.length : Int) < (ps.length : Int) := by omega
      have HAA : Hid (y.all (nnB 1099511627776) = true) := Lib.hid (by have := HA.out; rw [List.take_of_length_le (by rw [HYL.out]; exact Nat.le_refl _)] at this; exact this)
      have ez : zeroB (y.take ps.length) = zeroB y := by rw [List.take_of_length_le (by rw [HYL.out]; exact Nat.le_refl _)]
      rw [ez]
      clear ez
      cases hz : zeroB y with
      | true =>
        have HZ := Lib.hid hz
        clear hz
        go_wp2_with fail
        go_ret
        exact ⟨false, rfl, ⟨fun h => (by cases h), fun h => absurd h.2.2 (zeroB_none HZ.out)⟩, HG.out⟩
      | false =>
        have HPOS := Lib.hid (zeroB_pos HAA.out hz)
        have HB := Lib.hid (all_nn HAA.out)
        clear hz
        go_wp2_with fail
        go_loopw [7] (fun i wr => ∃ j : Nat, i = .int .i64 j ∧ j ≤ c ∧ Hid (∀ j', j' < j → dotL y (colL ps j') = 0) ∧ Hid (w.grownBy wr none)) (fun i _ => c - (intOf i).toNat)
        case atStart => exact ⟨0, rfl, Nat.zero_le _, Lib.hid (fun j' h => by omega), HG⟩
        case round =>
          clear HG
          obtain ⟨j, rfl, hj, HD, HG⟩ := hrel
          rename World => wt
          have hc0 := HG.out.cell HC0.out (by simp)
          by_cases hjb : j < c
          · have h1 : (j : Int) < (c : Int) := by omega
            have i1 : IntKind.i64.wrap ((j : Int) + 1) = (j : Int) + 1 := IntWalk.i64_in _ (by omega)
            go_wp2_with fail
            clear hc0
            go_loopw [9, 8] (fun i s wr => ∃ k : Nat, i = .int .i64 k ∧ k ≤ ps.length ∧ s = .int .i64 (dotL (y.take k) ((colL ps j).take k)) ∧ Hid (w.grownBy wr none)) (fun i _ _ => ps.length - (intOf i).toNat)
            case atStart => exact ⟨0, rfl, Nat.zero_le _, rfl, HG⟩
            case round =>
              clear HG
              obtain ⟨k, rfl, hk, rfl, HG⟩ := hrel
              rename World => we
              by_cases hkb : k < ps.length
              · have h2 : (k : Int) < (ps.length : Int) := by omega
                have i2 : IntKind.i64.wrap ((k : Int) + 1) = (k : Int) + 1 := IntWalk.i64_in _ (by omega)
                have hky : k < y.length := by have := HYL.out; omega
                obtain ⟨by', oy, rfl, hcy⟩ := Ints.at HYC.out hky
                obtain ⟨b', off', ar, cr, hbe, hcr, -, hri⟩ := H.out.row hkb
                simp only [Option.some.injEq, Addr.mk.injEq, and_true] at hbe
                obtain ⟨rfl, rfl⟩ := hbe
                have hql := HQ.out _ (List.getElem_mem hkb)
                obtain ⟨_, _, hxv, -, -, hxc⟩ := hri
                simp only [Value.slice.injEq] at hxv
                obtain ⟨rfl, -, rfl⟩ := hxv
                obtain ⟨bx, ox, rfl, hcx⟩ := Ints.at hxc (show j < ps[k].2.length by rw [hql.1]; exact hjb)
                rw [hql.1] at hcr
                have hcy2 := HG.out.cell hcy (by simp); have hcr2 := HG.out.cell hcr (by simp); have hcx2 := HG.out.cell hcx (by simp)
                have b1 := mem_at (P := fun y => 0 ≤ y ∧ y ≤ 1099511627776) HB.out hky
                have b2 := mem_at (P := fun y => -16 ≤ y ∧ y ≤ 16) hql.2 (show j < ps[k].2.length by rw [hql.1]; exact hjb)
                have hds := dot_snoc y (colL ps j) k hky (by rw [colL_len]; exact hkb)
                rw [colL_at j hkb] at hds
                have hbd := dot_bd (A := 1099511627776) (B := 16) (y.take k) ((colL ps j).take k) (fun x hx => by have := HB.out x (List.mem_of_mem_take hx); omega) (fun x hx => by
                  have hx2 := List.mem_of_mem_take hx
                  unfold colL at hx2
                  obtain ⟨q, hq', rfl⟩ := List.mem_map.1 hx2
                  have hq2 := HQ.out q hq'
                  have hjl : j < q.2.length := by omega
                  rw [List.getElem?_eq_getElem hjl]
                  exact hq2.2 _ (List.getElem_mem hjl)) (by decide)
                have hbl : (y.take k).length ≤ 6 := by have := List.length_take_le k y; omega
                have HDS := Lib.hid hds
                generalize (y.take k).length = tl at *
                generalize dotL (y.take k) ((colL ps j).take k) = s0 at *
                generalize ps[k].2[j]?.getD 0 = x at *
                generalize y[k]?.getD 0 = u at *
                have hmb := mul_bd (x := u) (y := x) (A := 1099511627776) (B := 16) (by omega) b2
                obtain ⟨z, hz⟩ : ∃ z, u * x = z := ⟨_, rfl⟩
                rw [hz] at hmb HDS
                have m1 : IntKind.i64.wrap (u * x) = z := by rw [hz]; exact IntWalk.i64_in _ (by omega)
                have m2 : IntKind.i64.wrap (s0 + z) = s0 + z := IntWalk.i64_in _ (by omega)
                clear hql hxc b1 b2 hds hbd hbl hmb hz hky hcy hcr hcx
                go_wp2_with fail
                go_big_quiet (fail)
                have HGN := Lib.hid (grown_trans HG.out (grown_drewN we nq none))
                clear hcy2 hcr2 hcx2 m1 m2 HG
                generalize we.drewN nq = wd at *
                go_wp2_with fail
                go_roundw
                case rel => exact ⟨k + 1, by go_num, by omega, by rw [HDS.out], HGN⟩
                case measure => (simp [intOf]; try omega)
              · obtain rfl : k = ps.length := by omega
                have h2 : ¬ (ps.length : Int) < (ps.length : Int) := by omega
                have es : dotL (y.take ps.length) ((colL ps j).take ps.length) = dotL y (colL ps j) := by rw [List.take_of_length_le (by rw [HYL.out]; exact Nat.le_refl _), List.take_of_length_le (by rw [colL_len]; exact Nat.le_refl _)]
                rw [es]
                clear es
                by_cases hs : dotL y (colL ps j) = 0
                · rw [hs]
                  have q2 : ((0 : Int) != 0) = false := by decide
                  have HDN : Hid (∀ j', j' < j + 1 → dotL y (colL ps j') = 0) := Lib.hid (fun j' hj' => by
                    by_cases e : j' = j
                    · subst e; exact hs
                    · exact HD.out j' (by omega))
                  clear hs
                  go_wp2_with fail
                  go_roundw
                  case rel => exact ⟨j + 1, by go_num, by omega, HDN, HG⟩
                  case measure => (simp [intOf]; try omega)
                · have HNF : Hid (¬ Flow (ps.map Prod.snd) c y) := Lib.hid (fun hf => hs (HFL.out.1 hf j hjb))
                  obtain ⟨z, hz⟩ : ∃ z, dotL y (colL ps j) = z := ⟨_, rfl⟩
                  rw [hz] at hs ⊢
                  have q2 : (z != 0) = true := by simpa using hs
                  clear hs hz
                  go_wp2_with fail
                  go_ret
                  exact ⟨false, rfl, ⟨fun h => (by cases h), fun h => absurd h.2.1 HNF.out⟩, HG.out⟩
          · obtain rfl : j = c := by omega
            have h1 : ¬ (j : Int) < (j : Int) := by omega
            go_wp2_with fail
            go_ret
            exact ⟨true, rfl, ⟨fun _ => ⟨HAA.out, HFL.out.2 HD.out, HPOS.out⟩, fun _ => rfl⟩, HG.out⟩
/-- One answer for both sides. -/
theorem holds_u (ms : List Row) (y : List Int) : ∃ B : Bool, (∀ w v u, RowsI w v ms → Ints w u y → Calls Tryd.prog 17 #[v, u] w fun e w' => e = .returned (.bool B) ∧ w.grownBy w' none) ∧ ∀ w v u, RowsI w v ms → Ints w u y → Calls Tryd.prog 18 #[v, u] w fun e w' => e = .returned (.bool B) ∧ w.grownBy w' none := by
  by_cases hs : Shape11 ms
  · obtain ⟨r, c, hm, h6⟩ := hs
    by_cases hl : y.length = r
    · by_cases hp : y.all (nnB 1099511627776) = true ∧ Flow (ms.map Prod.snd) c y ∧ ∃ i : Nat, 0 < y[i]?.getD 0
      · refine ⟨true, fun w v u a b => (holds_any (a.toP hm) hm h6 b hl (all_nn hp.1)).mono fun e w' h => ?_, fun w v u a b => (rholds_any (a.toP hm) hm h6 b hl).mono fun e w' h => ?_⟩
        · obtain ⟨b, h1, h2, h3⟩ := h
          rw [h2.2 hp.2] at h1
          exact ⟨h1, h3 ▸ grown_refl _ _⟩
        · obtain ⟨b, h1, h2, h3⟩ := h
          rw [h2.2 hp] at h1
          exact ⟨h1, h3⟩
      · have hn : ∀ b : Bool, (b = true → y.all (nnB 1099511627776) = true ∧ Flow (ms.map Prod.snd) c y ∧ ∃ i : Nat, 0 < y[i]?.getD 0) → b = false := fun b h => by
          cases b with
          | false => rfl
          | true => exact absurd (h rfl) hp
        refine ⟨false, fun w v u a b => ?_, fun w v u a b => (rholds_any (a.toP hm) hm h6 b hl).mono fun e w' h => ?_⟩
        · cases hb : y.all (nnB 1099511627776) with
          | false => exact (holds_bad (a.toP hm) hm h6 b (.inr hb)).mono fun e w' h => ⟨h.1, h.2 ▸ grown_refl _ _⟩
          | true =>
            refine (holds_any (a.toP hm) hm h6 b hl (all_nn hb)).mono fun e w' h => ?_
            obtain ⟨b, h1, h2, h3⟩ := h
            rw [hn b (fun h => ⟨hb, h2.1 h⟩)] at h1
            exact ⟨h1, h3 ▸ grown_refl _ _⟩
        · obtain ⟨b, h1, h2, h3⟩ := h
          rw [hn b h2.1] at h1
          exact ⟨h1, h3⟩
    · exact ⟨false, fun w v u a b => (holds_bad (a.toP hm) hm h6 b (.inl hl)).mono fun e w' h => ⟨h.1, h.2 ▸ grown_refl _ _⟩, fun w v u a b => rholds_len (a.toP hm) hm h6 b hl⟩
  · exact ⟨false, fun w v u a b => (holds_no a hs b).mono fun e w' h => ⟨h.1, h.2 ▸ grown_refl _ _⟩, fun w v u a b => rholds_no a hs b⟩
end Go.Proofs.YtpnghgihepnepaaDoor

namespace Go.Proofs.YtpnghgihepnepaaDoor
open Go.RowKit
set_option linter.unusedVariables false

theorem okWide_slice_lt {P : Program} {w : World} {r : Reach} {base : Nat} {t e : TypeId} {a : Addr} {len cap : Nat} (ht : P.underlying t = some (.slice e)) (h : Value.okWide P w r base t (.slice (some a) len cap)) : a.block < w.heap.size := by
  simp only [Value.okWide, ht, Cell.okWide, Cell.ok] at h
  obtain ⟨-, -, -, -, row, cells, hs, -⟩ := h
  unfold World.shape? at hs
  rcases Nat.lt_or_ge a.block w.heap.size with h1 | h1
  · exact h1
  · rw [Array.getElem?_eq_none h1] at hs; simp at hs
/-- A row that came in. -/
def RowB (w : World) (a : Option Addr) (len cap : Nat) (zs : List Int) : Prop := IsRow .i64 w a len cap zs ∧ ∀ x, a = some x → x.block < w.heap.size
theorem RowB.row {w : World} {a : Option Addr} {len cap : Nat} {zs : List Int} (h : RowB w a len cap zs) : RowOk w (.slice a len cap, zs.take len) ∧ (zs.take len).length = len := by
  obtain ⟨hi, hl⟩ := h.1.ints
  refine ⟨⟨hi, ?_, ?_⟩, hl⟩
  · rcases h.1 with ⟨rfl, rfl, rfl, -⟩ | ⟨x, rfl, h1, -⟩
    · exact Good.nil
    · exact Good.some _ h1
  · intro g hg
    cases a with
    | none => simp [Value.ownBlock] at hg
    | some x => simp only [Value.ownBlock, Option.some.injEq] at hg; have := h.2 x rfl; omega
/-- A row that is not the deck's. -/
def RIn (w : World) (d : Nat) (v : Value) (xs : List Int) : Prop := RowOk w (v, xs) ∧ ∀ g, v.ownBlock = some g → g ≠ d
theorem RIn.step {w w' : World} {d : Nat} {v : Value} {xs : List Int} (h : RIn w d v xs) (g : w.grownBy w' none) : RIn w' d v xs := ⟨h.1.same g, h.2⟩
theorem RIn.deal {w w' : World} {d : Nat} {v : Value} {xs : List Int} (h : RIn w d v xs) (g : w.grownBy w' (some d)) : RIn w' d v xs :=
  ⟨h.1.kept g (by rintro k ⟨⟩ e; exact h.2 _ e rfl), h.2⟩
theorem RIn.kept {w w' : World} {d : Nat} {v : Value} {xs : List Int} {row : Option Nat} (h : RIn w d v xs) (g : w.grownBy w' row) (hr : row = none ∨ row = some d) : RIn w' d v xs := by
  rcases hr with rfl | rfl
  · exact h.step g
  · exact h.deal g
theorem RIn.of {w w' : World} {d : Nat} {v : Value} {xs : List Int} (h : RowOk w (v, xs)) (g : w.grownBy w' none) (hd : w.heap.size ≤ d) : RIn w' d v xs :=
  ⟨h.same g, fun k hk => by have := h.2.2 k hk; omega⟩
def DealR (P : Int → Prop) (n : Nat) (w0 w : World) (p : Value) (d : Nat) (e : Ending) (w' : World) : Prop :=
  ∃ v xs, e = .returned v ∧ List.length xs = n ∧ (∀ x ∈ xs, P x) ∧ RIn w' d v xs ∧ St w0 w' p d ∧ w.grownBy w' (some d)
theorem small_row {w0 w : World} {p : Value} {d : Nat} (h : St w0 w p d) (n most : Int) (h1 : n ≤ 1000) (h2 : 0 ≤ most) (h3 : most ≤ 1000000) :
    Calls Tryd.prog 19 #[p, .int .i64 n, .int .i64 most] w (DealR (fun x => 0 ≤ x ∧ x ≤ most) n.toNat w0 w p d) :=
  (small_any p d n most w h.1 h1 h2 h3).mono fun e w' ⟨v, xs, he, hl, hp, ho, hd, hg⟩ => ⟨v, xs, he, hl, hp, ⟨ho.row (by intro x hx; have := hp x hx; omega), fun g hg' e => by have := (ho.fresh g hg').1; have := h.lt; omega⟩, h.deal hd hg, hg⟩
theorem slice_of {w : World} {v : Value} {xs : List Int} (h : Ints w v xs) : ∃ a cap, v = .slice a xs.length cap ∧ True := by obtain ⟨a, cap, h, -⟩ := h; exact ⟨a, cap, h, trivial⟩
/-- Matrices in a block of their own. -/
def MatsB (w : World) (d B m : Nat) : Prop := ∀ k, k < m → ∃ a n c ms, w.cell? ⟨B, k, none⟩ = some (.slice a n c) ∧ RowsX w d (.slice a n c) ms ∧ n = ms.length ∧ ms.length ≤ 1000 ∧ d < B
theorem MatsB.kept {w w' : World} {d B m : Nat} {row : Option Nat} (h : MatsB w d B m) (g : w.grownBy w' row) (hr : row = none ∨ row = some d) : MatsB w' d B m := by
  intro k hk
  obtain ⟨a, n, c, ms, h1, h3, h5, h6, h7⟩ := h k hk
  have hn : ∀ g : Nat, g = B → some g ≠ row := fun g e => by
    rcases hr with hr | hr <;> rw [hr] <;> simp
    omega
  exact ⟨a, n, c, ms, g.cell h1 (hn _ rfl), h3.kept g hr, h5, h6, h7⟩
theorem MatsB.step {w w' : World} {d B m : Nat} (h : MatsB w d B m) (g : w.grownBy w' none) : MatsB w' d B m := h.kept g (.inl rfl)
theorem MatsB.deal {w w' : World} {d B m : Nat} (h : MatsB w d B m) (g : w.grownBy w' (some d)) : MatsB w' d B m := h.kept g (.inr rfl)
/-- Vectors in a block of their own. -/
def VecsB (w : World) (d B m : Nat) : Prop := ∀ k, k < m → ∃ a n c xs, w.cell? ⟨B, k, none⟩ = some (.slice a n c) ∧ RIn w d (.slice a n c) xs ∧ n = xs.length ∧ d < B
theorem VecsB.kept {w w' : World} {d B m : Nat} {row : Option Nat} (h : VecsB w d B m) (g : w.grownBy w' row) (hr : row = none ∨ row = some d) : VecsB w' d B m := by
  intro k hk
  obtain ⟨a, n, c, xs, h1, h3, h5, h7⟩ := h k hk
  have hn : ∀ g : Nat, g = B → some g ≠ row := fun g e => by
    rcases hr with hr | hr <;> rw [hr] <;> simp
    omega
  exact ⟨a, n, c, xs, g.cell h1 (hn _ rfl), h3.kept g hr, h5, h7⟩
theorem VecsB.step {w w' : World} {d B m : Nat} (h : VecsB w d B m) (g : w.grownBy w' none) : VecsB w' d B m := h.kept g (.inl rfl)
theorem VecsB.deal {w w' : World} {d B m : Nat} (h : VecsB w d B m) (g : w.grownBy w' (some d)) : VecsB w' d B m := h.kept g (.inr rfl)
def NarrowOk (ps : List Row) (w : World) (e : Ending) (w' : World) : Prop := (∃ B, e = .returned (.bool B) ∧ (B = true → ps.length ≤ 20)) ∧ w' = w
set_option maxRecDepth 100000 in
set_option maxHeartbeats 1000000 in
theorem narrow11_any (v : Value) (ps : List Row) (w : World) (h : RowsI w v ps) :
    Calls Tryd.prog 10 #[v] w (NarrowOk ps w) := by
  obtain ⟨a, cap, rfl, hl, -⟩ := id h
  have H := Lib.hid h
  unfold maxLen at hl
  clear h
  go_enter Tryd.func10, Tryd.ntmps10
  go_wp2_with fail
  go_loop [6] (fun i => ∃ k : Nat, i = .int .i64 k ∧ k ≤ ps.length) (fun i => ps.length - (intOf i).toNat)
  case atStart => exact ⟨0, rfl, Nat.zero_le _⟩
  case round =>
    obtain ⟨k, rfl, hk⟩ := hrel
    by_cases hkb : k < ps.length
    · have h3 : (k : Int) < (ps.length : Int) := by omega
      have i1 : IntKind.i64.wrap ((k : Int) + 1) = (k : Int) + 1 := IntWalk.i64_in _ (by omega)
      obtain ⟨b, off, a2, c2, rfl, hc, -⟩ := H.out.row hkb
      by_cases hR : (20 : Int) < (ps[k].2.length : Int)
      · go_wp2_with fail
        go_ret
        exact ⟨⟨_, rfl, by simp⟩, rfl⟩
      · go_wp2_with fail
        go_round
        case rel => exact ⟨k + 1, by go_num, by omega⟩
        case measure => simp [intOf]; omega
    · obtain rfl : k = ps.length := by omega
      have h3 : ¬ (ps.length : Int) < (ps.length : Int) := by omega
      by_cases h20 : (ps.length : Int) ≤ 20
      · go_wp2_with fail
        go_ret
        exact ⟨⟨_, rfl, fun _ => by omega⟩, rfl⟩
      · go_wp2_with fail
        go_ret
        exact ⟨⟨false, by simp, by simp⟩, rfl⟩
end Go.Proofs.YtpnghgihepnepaaDoor

namespace Go.Proofs.YtpnghgihepnepaaDoor
open Go.ChangeShapes Go.WideShapes Go.ChangeAt Go.RowKit
set_option linter.unusedVariables false

theorem ownK : ownKnob Tryd.prog.godebug = none := by kernel_rfl
def tabs : List (String × DataW Unit) := [("math/bits.deBruijn32tab", Rows.laid_math_bits_deBruijn32tab), ("math/bits.deBruijn64tab", Rows.laid_math_bits_deBruijn64tab)]
theorem gTab : Tryd.prog.globalNamed "math/bits.deBruijn64tab" = some 1 := by kernel_rfl
theorem gTabType : (Tryd.prog.globals[1]?).map (·.type) = some 84 := by kernel_rfl
theorem cellsT : Tryd.prog.cellsOf 84 = 64 := by kernel_rfl
theorem cellsU : Tryd.prog.cellsOf 5 = 1 := by kernel_rfl
def zs64 : List Int := Lib.deBruijn64tab.map (fun n : Nat => (n : Int))
theorem zs_at (j : Nat) : zs64.getD j 0 = ((Lib.deBruijn64tab.getD j 0 : Nat) : Int) := by
  unfold zs64
  rw [List.getD_eq_getElem?_getD, List.getD_eq_getElem?_getD, List.getElem?_map]
  cases Lib.deBruijn64tab[j]? <;> rfl
theorem zs_len : zs64.length = Lib.deBruijn64tab.length := by unfold zs64; rw [List.length_map]
theorem tabIs {W : World} (h : laidMetH Tryd.prog tabs W) : Lib.TabIs Tryd.prog W "math/bits.deBruijn64tab" .u8 zs64 := by
  rw [MakeChecks.laidMetH_plain _ _ _ (by kernel_rfl)] at h
  have h2 := h.tail
  have h3 : laidMet Tryd.prog [("math/bits.deBruijn64tab", Lib.tabData .u8 zs64)] W := h2
  exact Lib.tabIs_of_head (rest := []) gTab gTabType Tryd.underlying84 Tryd.underlying5 cellsU cellsT h3
theorem tabW_of {W : World} (h : laidMetH Tryd.prog tabs W) : TabW W := fun j hj => by
  have := (tabIs h).cell gTab j (by rw [zs_len]; exact hj)
  rw [zs_at] at this
  exact this
noncomputable def laidHeap (os : Os) :=
  ((World.holding Tryd.prog os ⟨#[], #[], []⟩).heap.modify 0 (fun b => match b with
      | .cells _ t frozen => .cells (Lib.deBruijn32tab.map (fun n : Nat => Value.int .u8 (n : Int))).toArray t frozen
      | o => o)).modify 1 (fun b => match b with
      | .cells _ t frozen => .cells (Lib.deBruijn64tab.map (fun n : Nat => Value.int .u8 (n : Int))).toArray t frozen
      | o => o)
noncomputable def laidWorld (os : Os) : World := { World.holding Tryd.prog os ⟨#[], #[], []⟩ with heap := laidHeap os }
theorem laid_met (os : Os) : laidMet Tryd.prog tabs ((laidWorld os).forCall (fun _ _ => 0) ⟨#[], #[.slice none 0 0], []⟩).memory :=
  laidMet_of_run' 8 (by kernel_rfl) (by kernel_rfl)
end Go.Proofs.YtpnghgihepnepaaDoor
