/- The reference of layer 12: shape, Check. -/
import Derived.Test.YtgcfafjgaifmiaaFd
namespace Go.Proofs.Ytgcfafjgaifmiaa
open Go.RowKit
set_option linter.unusedVariables false

set_option maxRecDepth 100000 in
set_option maxHeartbeats 1000000 in
theorem shape_yes {r c : Nat} {ms : List Row} {va : Value} {w : World} (h : RowsP w va ms) (hm : MatOkP r c ms) (hr : r ≤ 6) (hc : c ≤ 6) :
    Calls Try.prog 32 #[va] w fun e w' => e = .returned (.bool true) ∧ w.grownBy w' none := by
  have HM := Lib.hid hm; have HA := Lib.hid h
  have hml := hm.1
  have h0 : 0 < ms.length := by have := hm.2.1; omega
  have p2 : (ms.length : Int) ≤ 6 := by omega
  have p3 : (c : Int) ≤ 6 := by omega
  have p1 : 0 < (ms.length : Int) := by omega
  obtain ⟨aa, capa, rfl, -⟩ : ∃ a cap, va = .slice a ms.length cap ∧ True := by obtain ⟨a, cap, h, -⟩ := h; exact ⟨a, cap, h, trivial⟩
  obtain ⟨b, off, a2, c2, rfl, hc0, -, -⟩ := h.row h0
  rw [(hm.2.2.2.2.2.2 _ (List.getElem_mem h0)).1, Nat.add_zero] at hc0
  have HC := Lib.hid hc0
  clear h hm hml hc0
  go_enter Try.func32, Try.ntmps32
  go_wp2_with fail
  refine (rcheck10_ok HA.out HM.out).mono ?_
  rintro e w1 ⟨rfl, hg⟩
  have HG := Lib.hid hg
  have hc1 := hg.cell HC.out (by simp)
  clear hg
  go_wp2_with fail
  go_ret
  exact ⟨rfl, HG.out⟩
set_option maxRecDepth 100000 in
set_option maxHeartbeats 1000000 in
theorem shape_no {ms : List Row} {va : Value} {w : World} (h : RowsI w va ms) (hno : ¬ ShapeOk ms) :
    Calls Try.prog 32 #[va] w fun e w' => e = .returned (.bool false) ∧ w.grownBy w' none := by
  obtain ⟨aa, capa, rfl, -⟩ : ∃ a cap, va = .slice a ms.length cap ∧ True := by obtain ⟨a, cap, h, -⟩ := h; exact ⟨a, cap, h, trivial⟩
  have H := Lib.hid h
  clear h
  by_cases hex : ∃ r c, MatOkP r c ms
  · obtain ⟨r, c, hm⟩ := hex
    have HM := Lib.hid hm
    have h0 : 0 < ms.length := by have := hm.1; have := hm.2.1; omega
    have hr12 : ms.length ≤ 12 := by have := hm.1; have := hm.2.2.1; omega
    have hc12 : c ≤ 12 := hm.2.2.2.2.1
    by_cases h6 : (6 : Int) < (ms.length : Int)
    · have h6' : ¬ (ms.length : Int) ≤ 6 := by omega
      clear hno hm
      go_enter Try.func32, Try.ntmps32
      go_wp2_with fail
      refine (rcheck10_ok (H.out.toP HM.out) HM.out).mono ?_
      rintro e w1 ⟨rfl, hg⟩
      have HG := Lib.hid hg
      clear hg
      go_wp2_with fail
      go_ret
      exact ⟨rfl, HG.out⟩
    · have h7 : (6 : Int) < (c : Int) := Int.not_le.1 (fun h => hno ⟨r, c, hm, by have := hm.1; omega, by omega⟩)
      have h7' : ¬ (c : Int) ≤ 6 := by omega
      have h6' : (ms.length : Int) ≤ 6 := by omega
      obtain ⟨b, off, a2, c2, rfl, hc0, -⟩ := H.out.row h0
      rw [(hm.2.2.2.2.2.2 _ (List.getElem_mem h0)).1, Nat.add_zero] at hc0
      have p1 : 0 < (ms.length : Int) := by omega
      have HC := Lib.hid hc0
      clear hno hm hc0
      go_enter Try.func32, Try.ntmps32
      go_wp2_with fail
      refine (rcheck10_ok (H.out.toP HM.out) HM.out).mono ?_
      rintro e w1 ⟨rfl, hg⟩
      have HG := Lib.hid hg
      have hc1 := hg.cell HC.out (by simp)
      clear hg
      go_wp2_with fail
      go_ret
      exact ⟨ret_bool (by simp; omega), HG.out⟩
  · go_enter Try.func32, Try.ntmps32
    go_wp2_with fail
    refine (rcheck_bad H.out (fun r c hm => hex ⟨r, c, hm⟩)).mono ?_
    rintro e w1 ⟨rfl, hg⟩
    have HG := Lib.hid hg
    clear hg
    go_wp2_with fail
    go_ret
    exact ⟨rfl, HG.out⟩
set_option maxRecDepth 100000 in
theorem rcheck12_no {ms : List Row} {va vb : Value} {w : World} (h : RowsI w va ms) (hno : ¬ ShapeOk ms) :
    Calls Try.prog 16 #[va, vb] w fun e w' => e = .returned (.int .i64 10) ∧ w.grownBy w' none := by
  have H := Lib.hid h
  clear h
  go_enter Try.func16, Try.ntmps16
  go_wp2_with fail
  refine (shape_no H.out hno).mono ?_
  rintro e w1 ⟨rfl, hg⟩
  have HG := Lib.hid hg
  clear hg
  go_wp2_with fail
  go_ret
  exact ⟨rfl, HG.out⟩
set_option maxRecDepth 100000 in
theorem rcheck12_len {r c : Nat} {ms : List Row} {va vb : Value} {bs : List Int} {w : World} (h : RowsP w va ms) (hm : MatOkP r c ms) (hr : r ≤ 6) (hc : c ≤ 6) (hb : Ints w vb bs) (hl : bs.length ≠ r) :
    Calls Try.prog 16 #[va, vb] w fun e w' => e = .returned (.int .i64 3) ∧ w.grownBy w' none := by
  have HM := Lib.hid hm; have HA := Lib.hid h
  have hml := hm.1
  have hl6 : ms.length ≤ 6 := by omega
  obtain ⟨aa, capa, rfl, -⟩ : ∃ a cap, va = .slice a ms.length cap ∧ True := by obtain ⟨a, cap, h, -⟩ := h; exact ⟨a, cap, h, trivial⟩
  obtain ⟨ab, capb, hvb, hbl, -, -⟩ := hb
  unfold maxLen at hbl
  subst hvb
  have p4 : ((bs.length : Int) != (ms.length : Int)) = true := by simp; omega
  clear h hm hl hml
  go_enter Try.func16, Try.ntmps16
  go_wp2_with fail
  refine (shape_yes HA.out HM.out hr hc).mono ?_
  rintro e w1 ⟨rfl, hg⟩
  have HG := Lib.hid hg
  clear hg
  go_wp2_with fail
  go_ret
  exact ⟨rfl, HG.out⟩
set_option maxRecDepth 100000 in
set_option maxHeartbeats 1000000 in
theorem rcheck12_fit {r c : Nat} {ms : List Row} {va vb : Value} {bs : List Int} {w : World} (h : RowsP w va ms) (hm : MatOkP r c ms) (hr : r ≤ 6) (hc : c ≤ 6) (hb : Ints w vb bs) (hbn : bs.length = r) :
    Calls Try.prog 16 #[va, vb] w fun e w' => e = .returned (.int .i64 (rangeE bs)) ∧ w.grownBy w' none := by
  have HM := Lib.hid hm; have HA := Lib.hid h; have HB := Lib.hid hb
  have hml := hm.1
  have hl6 : ms.length ≤ 6 := by omega
  obtain ⟨aa, capa, rfl, -⟩ : ∃ a cap, va = .slice a ms.length cap ∧ True := by obtain ⟨a, cap, h, -⟩ := h; exact ⟨a, cap, h, trivial⟩
  obtain ⟨ab, capb, hvb, -⟩ := hb
  subst hvb
  have p4 : ((bs.length : Int) != (ms.length : Int)) = false := by simp; omega
  have p5 : bs.length ≤ 6 := by omega
  clear h hm hml hbn
  go_enter Try.func16, Try.ntmps16
  go_wp2_with fail
  refine (shape_yes HA.out HM.out hr hc).mono ?_
  rintro e w1 ⟨rfl, hg⟩
  have HG := Lib.hid hg
  replace HB := Lib.hid (HB.out.same hg)
  clear hg
  go_wp2_with fail
  clear p4
  go_loop [5] (fun i => ∃ k : Nat, k ≤ bs.length ∧ i = .int .i64 k ∧ Hid ((bs.take k).all inR = true)) (fun i => bs.length - (intOf i).toNat)
  case atStart => exact ⟨0, Nat.zero_le _, rfl, Lib.hid rfl⟩
  case round =>
    obtain ⟨k, hk, rfl, HA2⟩ := hrel
    by_cases hlt : k < bs.length
    · obtain ⟨_, _, hv, _, _, hbc⟩ := HB.out
      simp only [Value.slice.injEq] at hv
      obtain ⟨rfl, -, rfl⟩ := hv
      obtain ⟨bb, ob, rfl, hx⟩ := Ints.at hbc hlt
      have h1 : (k : Int) < (bs.length : Int) := by omega
      have i1 : IntKind.i64.wrap ((k : Int) + 1) = (k : Int) + 1 := IntWalk.i64_in _ (by omega)
      have HS := Lib.hid (all_snoc1 inR bs k hlt)
      have HN : Hid (inR (bs[k]?.getD 0) = false → rangeE bs = 2) := Lib.hid (fun e => by unfold rangeE; rw [all_no hlt e]; rfl)
      generalize bs[k]?.getD 0 = x at *
      clear hbc
      by_cases h2 : x < -1048576
      · have HI : Hid (inR x = false) := Lib.hid (by unfold inR; simp; omega)
        go_wp2_with fail
        go_ret
        exact ⟨ret_int (HN.out HI.out).symm, HG.out⟩
      · by_cases h3 : (1048576 : Int) < x
        · have HI : Hid (inR x = false) := Lib.hid (by unfold inR; simp; omega)
          go_wp2_with fail
          go_ret
          exact ⟨ret_int (HN.out HI.out).symm, HG.out⟩
        · have HI : Hid (inR x = true) := Lib.hid (inR_iff.2 ⟨by omega, by omega⟩)
          go_wp2_with fail
          go_round
          case rel => exact ⟨k + 1, by omega, by go_num, Lib.hid (by rw [HS.out, HA2.out, HI.out]; rfl)⟩
          case measure => simp [intOf]; omega
    · have h1 : ¬ (k : Int) < (bs.length : Int) := by omega
      go_wp2_with fail
      go_ret
      exact ⟨ret_int (by unfold rangeE; have := HA2.out; rw [List.take_of_length_le (by omega)] at this; rw [this]; rfl), HG.out⟩
/-- One answer for both sides. -/
theorem hcheck_u (ms : List Row) (bs : List Int) : ∃ err : Int, (∀ w v u, RowsI w v ms → Ints w u bs → Calls Try.prog 15 #[v, u] w fun e w' => e = .returned (.int .i64 err) ∧ w' = w) ∧ (∀ w v u, RowsI w v ms → Ints w u bs → Calls Try.prog 16 #[v, u] w fun e w' => e = .returned (.int .i64 err) ∧ w.grownBy w' none) ∧
    (err ≠ 0 ∨ err = 0 ∧ ∃ r c, MatOkP r c ms ∧ r ≤ 6 ∧ c ≤ 6 ∧ RightOk r bs) := by
  by_cases hs : ShapeOk ms
  · obtain ⟨r, c, hm, hr, hc⟩ := hs
    by_cases hl : bs.length = r
    · refine ⟨rangeE bs, fun w v u h hb => hcheck_fit (h.toP hm) hm hr hc hb hl, fun w v u h hb => rcheck12_fit (h.toP hm) hm hr hc hb hl, ?_⟩
      unfold rangeE
      cases ha : bs.all inR with
      | false => exact .inl (by decide)
      | true =>
        refine .inr ⟨rfl, r, c, hm, hr, hc, hl, fun b hb => ?_⟩
        rw [List.all_eq_true] at ha
        exact inR_iff.1 (ha b hb)
    · exact ⟨3, fun w v u h hb => hcheck_len (h.toP hm) hm hr hc hb hl, fun w v u h hb => rcheck12_len (h.toP hm) hm hr hc hb hl, .inl (by decide)⟩
  · exact ⟨10, fun w v u h hb => hcheck_no h hs, fun w v u h hb => rcheck12_no h hs, .inl (by decide)⟩
end Go.Proofs.Ytgcfafjgaifmiaa
