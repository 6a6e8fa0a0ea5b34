/- Texts Bh, Bi, Bj in one. -/
import Derived.Test.YtpnghgihepnepaaDoorU21
import Derived.BigQuiet
namespace Go.Proofs.YtpnghgihepnepaaDoor
open Go.RowKit
set_option linter.unusedVariables false

/-- v reads as a slice of slices; of a row without elements nothing more is told. -/
def RowsI (w : World) (v : Value) (ps : List Row) : Prop :=
  ∃ a cap, v = .slice a ps.length cap ∧ ps.length ≤ maxLen ∧ (ps = [] ∨ ∃ b off, a = some ⟨b, off, none⟩ ∧ ∀ i, i < ps.length → w.cell? ⟨b, off + i, none⟩ = some (ps[i]?.map Prod.fst |>.getD (.slice none 0 0))) ∧ ∀ p ∈ ps, Ints w p.1 p.2 ∧ (p.2 ≠ [] → RowOk w p)
theorem RowsP.toI {w : World} {v : Value} {ps : List Row} (h : RowsP w v ps) : RowsI w v ps := by
  obtain ⟨a, cap, h1, h2, h3, h4⟩ := h
  exact ⟨a, cap, h1, h2, h3, fun p hp => ⟨(h4 p hp).1, fun _ => h4 p hp⟩⟩
theorem RowsI.same {w w' : World} {v : Value} {ps : List Row} (h : RowsI w v ps) (g : w.grownBy w' none) : RowsI w' v ps := by
  obtain ⟨a, cap, h1, h2, h3, h4⟩ := h
  refine ⟨a, cap, h1, h2, ?_, fun p hp => ⟨(h4 p hp).1.same g, fun hne => ((h4 p hp).2 hne).same g⟩⟩
  rcases h3 with h3 | ⟨b, off, ha, hc⟩
  · exact .inl h3
  · exact .inr ⟨b, off, ha, fun i hi => g.cell (hc i hi) (by simp)⟩
theorem RowsI.toP {w : World} {v : Value} {ps : List Row} {r c : Nat} (h : RowsI w v ps) (hm : MatOkP r c ps) : RowsP w v ps := by
  obtain ⟨a, cap, h1, h2, h3, h4⟩ := h
  refine ⟨a, cap, h1, h2, h3, fun p hp => (h4 p hp).2 (fun e => ?_)⟩
  have h5 := (hm.2.2.2.2.2.2 p hp).1
  have h6 := hm.2.2.2.1
  rw [e] at h5
  simp at h5
  omega
theorem RowsI.row {w : World} {a : Option Addr} {n cap : Nat} {ps : List Row} (h : RowsI w (.slice a n cap) ps) {k : Nat} (hk : k < ps.length) :
    ∃ b off a2 c2, a = some ⟨b, off, none⟩ ∧ w.cell? ⟨b, off + k, none⟩ = some (.slice a2 ps[k].2.length c2) ∧ Ints w (.slice a2 ps[k].2.length c2) ps[k].2 := by
  obtain ⟨a', cap', hv, -, hct, hr⟩ := h
  simp only [Value.slice.injEq] at hv
  obtain ⟨rfl, -, rfl⟩ := hv
  obtain ⟨b, off, rfl, hc⟩ := RowsP.at hct hk
  obtain ⟨⟨a2, c2, h1, h2⟩, -⟩ := hr _ (List.getElem_mem hk)
  exact ⟨b, off, a2, c2, rfl, by rw [hc, h1], a2, c2, rfl, h2⟩
set_option maxRecDepth 100000 in
set_option maxHeartbeats 2000000 in
theorem Check_bad {ps : List Row} {v : Value} {w : World} (h : RowsI w v ps) (hno : ∀ r c, ¬ MatOkP r c ps) :
    Calls Tryd.prog 43 #[v] w fun e w' => e = .returned (.int .i64 10) ∧ w' = w := by
  obtain ⟨a, cap, rfl, -⟩ : ∃ a cap, v = .slice a ps.length cap ∧ True := by obtain ⟨a, cap, h, -⟩ := h; exact ⟨a, cap, h, trivial⟩
  have H := Lib.hid h; have HNO := Lib.hid hno
  have hml : ps.length ≤ 2 ^ 63 - 1 := by obtain ⟨_, _, _, hm, _⟩ := h; exact hm
  clear h hno
  by_cases e0 : (ps.length : Int) < 1
  · go_enter Tryd.func43, Tryd.ntmps43
    go_wp2_with fail
    go_ret
    exact ⟨rfl, rfl⟩
  by_cases e1 : (12 : Int) < (ps.length : Int)
  · go_enter Tryd.func43, Tryd.ntmps43
    go_wp2_with fail
    go_ret
    exact ⟨rfl, rfl⟩
  have h0 : 0 < ps.length := by omega
  have hl12 : ps.length ≤ 12 := by omega
  obtain ⟨b, off, a2, c2, rfl, hc0, -⟩ := H.out.row h0
  rw [Nat.add_zero] at hc0
  obtain ⟨c, hc⟩ : ∃ c, ps[0].2.length = c := ⟨_, rfl⟩
  rw [hc] at hc0
  clear hc hml
  by_cases e2 : (c : Int) < 1
  · go_enter Tryd.func43, Tryd.ntmps43
    go_wp2_with fail
    go_ret
    exact ⟨rfl, rfl⟩
  by_cases e3 : (12 : Int) < (c : Int)
  · go_enter Tryd.func43, Tryd.ntmps43
    go_wp2_with fail
    go_ret
    exact ⟨rfl, rfl⟩
  by_cases e4 : (6 : Int) < min (ps.length : Int) (c : Int)
  · go_enter Tryd.func43, Tryd.ntmps43
    go_wp2_with fail
    go_ret
    exact ⟨rfl, rfl⟩
  have HEND : Hid ((∀ q (hq : q < ps.length), ps[q].2.length = c ∧ ∀ x ∈ ps[q].2, -16 ≤ x ∧ x ≤ 16) → False) := Lib.hid (fun hh => HNO.out ps.length c ⟨rfl, by omega, by omega, by omega, by omega, by omega, fun q hq => by
    obtain ⟨t, ht, rfl⟩ := List.mem_iff_getElem.1 hq
    exact hh t ht⟩)
  clear HNO h0
  go_enter Tryd.func43, Tryd.ntmps43
  go_wp2_with fail
  clear e0 e1 e2 e3 e4 hc0
  go_loop [35] (fun i => ∃ k : Nat, i = .int .i64 k ∧ k ≤ ps.length ∧ Hid (∀ q (hq : q < ps.length), q < k → ps[q].2.length = c ∧ ∀ x ∈ ps[q].2, -16 ≤ x ∧ x ≤ 16)) (fun i => ps.length - (intOf i).toNat)
  case atStart => exact ⟨0, rfl, Nat.zero_le _, Lib.hid (fun q hq h => by omega)⟩
  case round =>
    obtain ⟨k, rfl, hk, HA⟩ := hrel
    by_cases hkb : k < ps.length
    · have h2 : (k : Int) < (ps.length : Int) := by omega
      have i1 : IntKind.i64.wrap ((k : Int) + 1) = (k : Int) + 1 := IntWalk.i64_in _ (by omega)
      obtain ⟨b', off', ar, cr, hbe, hcr, hri⟩ := H.out.row hkb
      simp only [Option.some.injEq, Addr.mk.injEq, and_true] at hbe
      obtain ⟨rfl, rfl⟩ := hbe
      have HN : Hid (ps[k].2.length = c ∧ (∀ x ∈ ps[k].2, -16 ≤ x ∧ x ≤ 16) → ∀ q (hq : q < ps.length), q < k + 1 → ps[q].2.length = c ∧ ∀ x ∈ ps[q].2, -16 ≤ x ∧ x ≤ 16) := Lib.hid (fun hh q hq hlt => by
        by_cases e : q = k
        · subst e; exact hh
        · exact HA.out q hq (by omega))
      have HRI := Lib.hid hri
      clear hri HA
      generalize ps[k].2 = zs at *
      have hzm : zs.length ≤ 2 ^ 63 - 1 := by obtain ⟨_, _, _, hm, _⟩ := HRI.out; exact hm
      by_cases hzc : zs.length = c
      · subst hzc
        have k1 : ((zs.length : Int) != (zs.length : Int)) = false := by simp
        go_wp2_with fail
        go_loop [45] (fun i => ∃ j : Nat, i = .int .i64 j ∧ j ≤ zs.length ∧ Hid (∀ t, t < j → -16 ≤ zs[t]?.getD 0 ∧ zs[t]?.getD 0 ≤ 16)) (fun i => zs.length - (intOf i).toNat)
        case atStart => exact ⟨0, rfl, Nat.zero_le _, Lib.hid (fun t h => by omega)⟩
        case round =>
          obtain ⟨j, rfl, hj, HB⟩ := hrel
          by_cases hjb : j < zs.length
          · have h3 : (j : Int) < (zs.length : Int) := by omega
            have i2 : IntKind.i64.wrap ((j : Int) + 1) = (j : Int) + 1 := IntWalk.i64_in _ (by omega)
            obtain ⟨_, _, hx, -, -, hxc⟩ := HRI.out
            simp only [Value.slice.injEq] at hx
            obtain ⟨rfl, -, rfl⟩ := hx
            obtain ⟨xb, xo, rfl, hcx⟩ := Ints.at hxc hjb
            have HBN : Hid (-16 ≤ zs[j]?.getD 0 ∧ zs[j]?.getD 0 ≤ 16 → ∀ t, t < j + 1 → -16 ≤ zs[t]?.getD 0 ∧ zs[t]?.getD 0 ≤ 16) := Lib.hid (fun hh t hlt => by
              by_cases e : t = j
              · subst e; exact hh
              · exact HB.out t (by omega))
            generalize zs[j]?.getD 0 = x at *
            clear hxc HB
            by_cases f1 : x < -16
            · go_wp2_with fail
              go_ret
              exact ⟨rfl, rfl⟩
            by_cases f2 : (16 : Int) < x
            · go_wp2_with fail
              go_ret
              exact ⟨rfl, rfl⟩
            have HBM := Lib.hid (HBN.out ⟨by omega, by omega⟩)
            go_wp2_with fail
            go_round
            case rel => exact ⟨j + 1, by go_num, by omega, HBM⟩
            case measure => (simp [intOf]; try omega)
          · obtain rfl : j = zs.length := by omega
            have h3 : ¬ (zs.length : Int) < (zs.length : Int) := by omega
            have HNM := Lib.hid (HN.out ⟨by trivial, fun x hx => by
              obtain ⟨t, ht, rfl⟩ := List.mem_iff_getElem.1 hx
              have := HB.out t ht
              rw [List.getElem?_eq_getElem ht] at this
              exact this⟩)
            go_wp2_with fail
            go_round
            case rel => exact ⟨k + 1, by go_num, by omega, HNM⟩
            case measure => (simp [intOf]; try omega)
      · have k1 : ((zs.length : Int) != (c : Int)) = true := by simp; omega
        clear hzc
        go_wp2_with fail
        go_ret
        exact ⟨rfl, rfl⟩
    · obtain rfl : k = ps.length := by omega
      exact (HEND.out (fun q hq => HA.out q hq hq)).elim
end Go.Proofs.YtpnghgihepnepaaDoor

namespace Go.Proofs.YtpnghgihepnepaaDoor
open Go.RowKit
set_option linter.unusedVariables false

set_option maxRecDepth 100000 in
set_option maxHeartbeats 2000000 in
theorem rcheck10_ok {r c : Nat} {ps : List Row} {v : Value} {w : World} (h : RowsP w v ps) (hm : MatOkP r c ps) :
    Calls Tryd.prog 27 #[v] w fun e w' => e = .returned (.int .i64 0) ∧ w.grownBy w' none := by
  obtain ⟨hl, hr1, hr12, hc1, hc12, hrc, hq⟩ := hm
  obtain ⟨a, cap, rfl, -⟩ : ∃ a cap, v = .slice a ps.length cap ∧ True := by obtain ⟨a, cap, h, -⟩ := h; exact ⟨a, cap, h, trivial⟩
  have H := Lib.hid h; have HQ := Lib.hid hq; have HL := Lib.hid hl
  have h0 : 0 < ps.length := by omega
  obtain ⟨b, off, a2, c2, rfl, hc0, -, -⟩ := h.row h0
  have hlen0 := (hq _ (List.getElem_mem h0)).1
  rw [hlen0, Nat.add_zero] at hc0
  have HC0 := Lib.hid hc0
  have e0 : ¬ (ps.length : Int) < 1 := by omega
  have e1 : ¬ (12 : Int) < (ps.length : Int) := by omega
  have e2 : ¬ (c : Int) < 1 := by omega
  have e3 : ¬ (12 : Int) < (c : Int) := by omega
  have h1 : 0 < (ps.length : Int) := by omega
  have hp12 : ps.length ≤ 12 := by omega
  have HG : Hid (w.grownBy w none) := Lib.hid (grown_refl _ _)
  have HRC : Hid (ps.length ≤ 6 ∨ c ≤ 6) := Lib.hid (by omega)
  clear h hq hl hlen0 hr1 hr12 hrc
  go_enter Tryd.func27, Tryd.ntmps27
  by_cases e6 : ps.length ≤ 6
  all_goals first
    | (have e4 : ¬ (6 : Int) < (ps.length : Int) := by omega
       clear e6
       go_wp2_with fail
       clear e0 e1 e2 e3 e4 hc0)
    | (have e4 : (6 : Int) < (ps.length : Int) := by omega
       have e5 : ¬ (6 : Int) < (c : Int) := by have := HRC.out; omega
       clear e6
       go_wp2_with fail
       clear e0 e1 e2 e3 e4 e5 hc0)
  all_goals
    go_loopw [3] (fun i wr => ∃ k : Nat, i = .int .i64 k ∧ k ≤ ps.length ∧ Hid (w.grownBy wr none)) (fun i _ => ps.length - (intOf i).toNat)
    case atStart => exact ⟨0, rfl, Nat.zero_le _, HG⟩
    case round =>
      clear HG
      obtain ⟨k, rfl, hk, HG⟩ := hrel
      rename World => wk
      by_cases hkb : k < ps.length
      · have h2 : (k : Int) < (ps.length : Int) := by omega
        have i1 : IntKind.i64.wrap ((k : Int) + 1) = (k : Int) + 1 := IntWalk.i64_in _ (by omega)
        obtain ⟨b', off', ar, cr, hbe, hcr, -, hri⟩ := H.out.row hkb
        simp only [Option.some.injEq, Addr.mk.injEq, and_true] at hbe
        obtain ⟨rfl, rfl⟩ := hbe
        obtain ⟨hlen, hbd⟩ := HQ.out _ (List.getElem_mem hkb)
        have HBD := Lib.hid hbd; have HRI := Lib.hid hri
        generalize hzs : ps[k].2 = zs at *
        subst hlen
        clear hbd hri hzs
        have k1 : ((zs.length : Int) != (zs.length : Int)) = false := by simp
        have hcr2 := HG.out.cell hcr (by simp)
        have hc02 := HG.out.cell HC0.out (by simp)
        have HCR := Lib.hid hcr
        clear hcr
        go_wp2_with fail
        go_big_quiet (fail)
        have HW := Lib.hid (grown_trans HG.out (grown_drewN wk nq none))
        clear hcr2 hc02 HG
        generalize wk.drewN nq = wd at *
        go_wp2_with fail
        go_loopw [4] (fun i wr => ∃ j : Nat, i = .int .i64 j ∧ j ≤ zs.length ∧ Hid (w.grownBy wr none)) (fun i _ => zs.length - (intOf i).toNat)
        case atStart => exact ⟨0, rfl, Nat.zero_le _, HW⟩
        case round =>
          clear HW
          obtain ⟨j, rfl, hj, HG⟩ := hrel
          rename World => wt
          have hcr2 := HG.out.cell HCR.out (by simp)
          by_cases hjb : j < zs.length
          · have h3 : (j : Int) < (zs.length : Int) := by omega
            have i2 : IntKind.i64.wrap ((j : Int) + 1) = (j : Int) + 1 := IntWalk.i64_in _ (by omega)
            obtain ⟨_, _, hx, -, -, hxc⟩ := HRI.out
            simp only [Value.slice.injEq] at hx
            obtain ⟨rfl, -, rfl⟩ := hx
            obtain ⟨xb, xo, rfl, hcx⟩ := Ints.at hxc hjb
            have hcx2 := HG.out.cell hcx (by simp)
            have hb := mem_at (P := fun x => -16 ≤ x ∧ x ≤ 16) HBD.out hjb
            generalize zs[j]?.getD 0 = x at *
            have f1 : ¬ x < -16 := by omega
            have f2 : ¬ 16 < x := by omega
            clear hcx hxc
            go_wp2_with fail
            go_roundw
            case rel => exact ⟨j + 1, by go_num, by omega, HG⟩
            case measure => simp [intOf]; omega
          · obtain rfl : j = zs.length := by omega
            have h3 : ¬ (zs.length : Int) < (zs.length : Int) := by omega
            go_wp2_with fail
            go_roundw
            case rel => exact ⟨k + 1, by go_num, by omega, HG⟩
            case measure => simp [intOf]; omega
      · obtain rfl : k = ps.length := by omega
        have h2 : ¬ (ps.length : Int) < (ps.length : Int) := by omega
        go_wp2_with fail
        go_ret
        exact ⟨rfl, HG.out⟩

set_option maxRecDepth 100000 in
set_option maxHeartbeats 2000000 in
theorem rcheck_bad {ps : List Row} {v : Value} {w : World} (h : RowsI w v ps) (hno : ∀ r c, ¬ MatOkP r c ps) :
    Calls Tryd.prog 27 #[v] w fun e w' => e = .returned (.int .i64 10) ∧ w.grownBy w' none := by
  obtain ⟨a, cap, rfl, -⟩ : ∃ a cap, v = .slice a ps.length cap ∧ True := by obtain ⟨a, cap, h, -⟩ := h; exact ⟨a, cap, h, trivial⟩
  have H := Lib.hid h; have HNO := Lib.hid hno
  have hml : ps.length ≤ 2 ^ 63 - 1 := by obtain ⟨_, _, _, hm, _⟩ := h; exact hm
  have HG : Hid (w.grownBy w none) := Lib.hid (grown_refl _ _)
  clear h hno
  by_cases e0 : (ps.length : Int) < 1
  · go_enter Tryd.func27, Tryd.ntmps27
    go_wp2_with fail
    go_ret
    exact ⟨rfl, HG.out⟩
  by_cases e1 : (12 : Int) < (ps.length : Int)
  · go_enter Tryd.func27, Tryd.ntmps27
    go_wp2_with fail
    go_ret
    exact ⟨rfl, HG.out⟩
  have h0 : 0 < ps.length := by omega
  have h1 : 0 < (ps.length : Int) := by omega
  have hl12 : ps.length ≤ 12 := by omega
  obtain ⟨b, off, a2, c2, rfl, hc0, -⟩ := H.out.row h0
  rw [Nat.add_zero] at hc0
  obtain ⟨c, hc⟩ : ∃ c, ps[0].2.length = c := ⟨_, rfl⟩
  rw [hc] at hc0
  have HC0 := Lib.hid hc0
  clear hc hml
  by_cases e2 : (c : Int) < 1
  · go_enter Tryd.func27, Tryd.ntmps27
    go_wp2_with fail
    go_ret
    exact ⟨rfl, HG.out⟩
  by_cases e3 : (12 : Int) < (c : Int)
  · go_enter Tryd.func27, Tryd.ntmps27
    go_wp2_with fail
    go_ret
    exact ⟨rfl, HG.out⟩
  by_cases e4 : (6 : Int) < (ps.length : Int) ∧ (6 : Int) < (c : Int)
  · obtain ⟨e5, e6⟩ := e4
    go_enter Tryd.func27, Tryd.ntmps27
    go_wp2_with fail
    go_ret
    exact ⟨rfl, HG.out⟩
  have HEND : Hid ((∀ q (hq : q < ps.length), ps[q].2.length = c ∧ ∀ x ∈ ps[q].2, -16 ≤ x ∧ x ≤ 16) → False) := Lib.hid (fun hh => HNO.out ps.length c ⟨rfl, by omega, by omega, by omega, by omega, by omega, fun q hq => by
    obtain ⟨t, ht, rfl⟩ := List.mem_iff_getElem.1 hq
    exact hh t ht⟩)
  have HRC : Hid (ps.length ≤ 6 ∨ c ≤ 6) := Lib.hid (by omega)
  clear HNO h0 e4
  go_enter Tryd.func27, Tryd.ntmps27
  by_cases e6 : ps.length ≤ 6
  all_goals first
    | (have e4 : ¬ (6 : Int) < (ps.length : Int) := by omega
       clear e6
       go_wp2_with fail
       clear e0 e1 e2 e3 e4 hc0)
    | (have e4 : (6 : Int) < (ps.length : Int) := by omega
       have e5 : ¬ (6 : Int) < (c : Int) := by have := HRC.out; omega
       clear e6
       go_wp2_with fail
       clear e0 e1 e2 e3 e4 e5 hc0)
  all_goals
    go_loopw [3] (fun i wr => ∃ k : Nat, i = .int .i64 k ∧ k ≤ ps.length ∧ Hid (∀ q (hq : q < ps.length), q < k → ps[q].2.length = c ∧ ∀ x ∈ ps[q].2, -16 ≤ x ∧ x ≤ 16) ∧ Hid (w.grownBy wr none)) (fun i _ => ps.length - (intOf i).toNat)
    case atStart => exact ⟨0, rfl, Nat.zero_le _, Lib.hid (fun q hq h => by omega), HG⟩
    case round =>
      clear HG
      obtain ⟨k, rfl, hk, HA, HG⟩ := hrel
      rename World => wk
      by_cases hkb : k < ps.length
      · have h2 : (k : Int) < (ps.length : Int) := by omega
        have i1 : IntKind.i64.wrap ((k : Int) + 1) = (k : Int) + 1 := IntWalk.i64_in _ (by omega)
        obtain ⟨b', off', ar, cr, hbe, hcr, hri⟩ := H.out.row hkb
        simp only [Option.some.injEq, Addr.mk.injEq, and_true] at hbe
        obtain ⟨rfl, rfl⟩ := hbe
        have HN : Hid (ps[k].2.length = c ∧ (∀ x ∈ ps[k].2, -16 ≤ x ∧ x ≤ 16) → ∀ q (hq : q < ps.length), q < k + 1 → ps[q].2.length = c ∧ ∀ x ∈ ps[q].2, -16 ≤ x ∧ x ≤ 16) := Lib.hid (fun hh q hq hlt => by
          by_cases e : q = k
          · subst e; exact hh
          · exact HA.out q hq (by omega))
        have HRI := Lib.hid hri
        have hcr2 := HG.out.cell hcr (by simp)
        have hc02 := HG.out.cell HC0.out (by simp)
        have HCR := Lib.hid hcr
        clear hri HA hcr
        generalize ps[k].2 = zs at *
        have hzm : zs.length ≤ 2 ^ 63 - 1 := by obtain ⟨_, _, _, hm, _⟩ := HRI.out; exact hm
        by_cases hzc : zs.length = c
        · subst hzc
          have k1 : ((zs.length : Int) != (zs.length : Int)) = false := by simp
          go_wp2_with fail
          go_big_quiet (fail)
          have HW := Lib.hid (grown_trans HG.out (grown_drewN wk nq none))
          clear hcr2 hc02 HG
          generalize wk.drewN nq = wd at *
          go_wp2_with fail
          go_loopw [4] (fun i wr => ∃ j : Nat, i = .int .i64 j ∧ j ≤ zs.length ∧ Hid (∀ t, t < j → -16 ≤ zs[t]?.getD 0 ∧ zs[t]?.getD 0 ≤ 16) ∧ Hid (w.grownBy wr none)) (fun i _ => zs.length - (intOf i).toNat)
          case atStart => exact ⟨0, rfl, Nat.zero_le _, Lib.hid (fun t h => by omega), HW⟩
          case round =>
            clear HW
            obtain ⟨j, rfl, hj, HB, HG⟩ := hrel
            rename World => wt
            have hcr2 := HG.out.cell HCR.out (by simp)
            by_cases hjb : j < zs.length
            · have h3 : (j : Int) < (zs.length : Int) := by omega
              have i2 : IntKind.i64.wrap ((j : Int) + 1) = (j : Int) + 1 := IntWalk.i64_in _ (by omega)
              obtain ⟨_, _, hx, -, -, hxc⟩ := HRI.out
              simp only [Value.slice.injEq] at hx
              obtain ⟨rfl, -, rfl⟩ := hx
              obtain ⟨xb, xo, rfl, hcx⟩ := Ints.at hxc hjb
              have hcx2 := HG.out.cell hcx (by simp)
              have HBN : Hid (-16 ≤ zs[j]?.getD 0 ∧ zs[j]?.getD 0 ≤ 16 → ∀ t, t < j + 1 → -16 ≤ zs[t]?.getD 0 ∧ zs[t]?.getD 0 ≤ 16) := Lib.hid (fun hh t hlt => by
                by_cases e : t = j
                · subst e; exact hh
                · exact HB.out t (by omega))
              generalize zs[j]?.getD 0 = x at *
              clear hxc HB hcx
              by_cases f1 : x < -16
              · go_wp2_with fail
                go_ret
                exact ⟨rfl, HG.out⟩
              by_cases f2 : (16 : Int) < x
              · go_wp2_with fail
                go_ret
                exact ⟨rfl, HG.out⟩
              have HBM := Lib.hid (HBN.out ⟨by omega, by omega⟩)
              go_wp2_with fail
              go_roundw
              case rel => exact ⟨j + 1, by go_num, by omega, HBM, HG⟩
              case measure => (simp [intOf]; try omega)
            · obtain rfl : j = zs.length := by omega
              have h3 : ¬ (zs.length : Int) < (zs.length : Int) := by omega
              have HNM := Lib.hid (HN.out ⟨by trivial, fun x hx => by
                obtain ⟨t, ht, rfl⟩ := List.mem_iff_getElem.1 hx
                have := HB.out t ht
                rw [List.getElem?_eq_getElem ht] at this
                exact this⟩)
              go_wp2_with fail
              go_roundw
              case rel => exact ⟨k + 1, by go_num, by omega, HNM, HG⟩
              case measure => (simp [intOf]; try omega)
        · have k1 : ((zs.length : Int) != (c : Int)) = true := by simp; omega
          clear hzc
          go_wp2_with fail
          go_big_quiet (fail)
          have HW := Lib.hid (grown_trans HG.out (grown_drewN wk nq none))
          clear hcr2 hc02 HG
          generalize wk.drewN nq = wd at *
          go_wp2_with fail
          go_ret
          exact ⟨rfl, HW.out⟩
      · obtain rfl : k = ps.length := by omega
        exact (HEND.out (fun q hq => HA.out q hq hq)).elim
end Go.Proofs.YtpnghgihepnepaaDoor

namespace Go.Proofs.YtpnghgihepnepaaDoor
open Go.RowKit
set_option linter.unusedVariables false

set_option maxRecDepth 100000 in
theorem Transpose_bad {ps : List Row} {v : Value} {w : World}  (h : RowsI w v ps) (hno : ∀ r c, ¬ MatOkP r c ps) :
    Calls Tryd.prog 44 #[v] w fun e w' => e = .returned (.tuple #[.slice none 0 0, .int .i64 10]) ∧ w' = w := by
  have H := Lib.hid h; have HNO := Lib.hid hno
  clear h hno
  go_enter Tryd.func44, Tryd.ntmps44
  go_wp2_with fail
  refine (Check_bad H.out HNO.out).mono ?_
  rintro e w1 ⟨rfl, hg⟩
  subst hg
  go_wp2_with fail
  go_ret2
  exact ⟨rfl, rfl⟩
set_option maxRecDepth 100000 in
theorem Kernel_bad {ps : List Row} {v : Value} {w : World}  (h : RowsI w v ps) (hno : ∀ r c, ¬ MatOkP r c ps) :
    Calls Tryd.prog 45 #[v] w fun e w' => e = .returned (.tuple #[.slice none 0 0, .int .i64 10]) ∧ w' = w := by
  have H := Lib.hid h; have HNO := Lib.hid hno
  clear h hno
  go_enter Tryd.func45, Tryd.ntmps45
  go_wp2_with fail
  refine (Check_bad H.out HNO.out).mono ?_
  rintro e w1 ⟨rfl, hg⟩
  subst hg
  go_wp2_with fail
  go_ret2
  exact ⟨rfl, rfl⟩
set_option maxRecDepth 100000 in
theorem rTranspose_bad {ps : List Row} {v : Value} {w : World}  (h : RowsI w v ps) (hno : ∀ r c, ¬ MatOkP r c ps) :
    Calls Tryd.prog 51 #[v] w fun e w' => e = .returned (.tuple #[.slice none 0 0, .int .i64 10]) ∧ w.grownBy w' none := by
  have H := Lib.hid h; have HNO := Lib.hid hno
  clear h hno
  go_enter Tryd.func51, Tryd.ntmps51
  go_wp2_with fail
  refine (rcheck_bad H.out HNO.out).mono ?_
  rintro e w1 ⟨rfl, hg⟩
  have HG := Lib.hid hg; clear hg
  go_wp2_with fail
  go_ret2
  exact ⟨rfl, HG.out⟩
set_option maxRecDepth 100000 in
theorem rKernel_bad {ps : List Row} {v : Value} {w : World}  (h : RowsI w v ps) (hno : ∀ r c, ¬ MatOkP r c ps) :
    Calls Tryd.prog 52 #[v] w fun e w' => e = .returned (.tuple #[.slice none 0 0, .int .i64 10]) ∧ w.grownBy w' none := by
  have H := Lib.hid h; have HNO := Lib.hid hno
  clear h hno
  go_enter Tryd.func52, Tryd.ntmps52
  go_wp2_with fail
  refine (rcheck_bad H.out HNO.out).mono ?_
  rintro e w1 ⟨rfl, hg⟩
  have HG := Lib.hid hg; clear hg
  go_wp2_with fail
  go_ret2
  exact ⟨rfl, HG.out⟩
end Go.Proofs.YtpnghgihepnepaaDoor
