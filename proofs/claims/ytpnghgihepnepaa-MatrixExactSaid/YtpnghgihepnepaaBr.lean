/- What both sides answer where lengths or numbers don't fit. -/
import Derived.Test.YtpnghgihepnepaaBq
namespace Go.Proofs.Ytpnghgihepnepaa
open Go.RowKit
set_option linter.unusedVariables false

set_option maxRecDepth 100000 in
set_option maxHeartbeats 1000000 in
theorem Apply_len {w : World} {va vx : Value} {ms : List Row} {xs : List Int} {r c : Nat} (ha : RowsP w va ms) (hma : MatOkP r c ms) (hx : Ints w vx xs) (hne : xs.length ≠ c) :
    Calls Try.prog 26 #[va, vx] w fun e w' => e = .returned (.tuple #[.slice none 0 0, .int .i64 3]) ∧ w' = w := by
  have HMA := Lib.hid hma
  obtain ⟨hl, hr1, hr12, hc1, hc12, hrc, hq⟩ := hma
  obtain ⟨aa, capa, rfl, -⟩ : ∃ a cap, va = .slice a ms.length cap ∧ True := by obtain ⟨a, cap, h, -⟩ := ha; exact ⟨a, cap, h, trivial⟩
  have HA := Lib.hid ha
  have h0 : 0 < ms.length := by omega
  have p1 : 0 < (ms.length : Int) := by omega
  obtain ⟨b, off, a2, c2, rfl, hc0, -, -⟩ := ha.row h0
  rw [(hq _ (List.getElem_mem h0)).1, Nat.add_zero] at hc0
  have HC0 := Lib.hid hc0
  clear ha hq hl hr1 hr12 hrc hc0
  obtain ⟨ax, cx, rfl, -⟩ := hx
  have k1 : ((xs.length : Int) != (c : Int)) = true := by simp; omega
  clear hne
  go_enter Try.func26, Try.ntmps26
  go_wp2_with fail
  refine (Check10_any HA.out HMA.out).mono ?_
  rintro e w1 ⟨rfl, hg⟩
  subst hg
  have hc0 := HC0.out
  go_wp2_with fail
  go_ret2
  exact ⟨rfl, rfl⟩
set_option maxRecDepth 100000 in
set_option maxHeartbeats 1000000 in
theorem Apply_range {w : World} {va vx : Value} {ms : List Row} {xs : List Int} {r c : Nat} (ha : RowsP w va ms) (hma : MatOkP r c ms) (hx : Ints w vx xs) (hxl : xs.length = c) (hno : ¬ ∀ x ∈ xs, -1048576 ≤ x ∧ x ≤ 1048576) :
    Calls Try.prog 26 #[va, vx] w fun e w' => e = .returned (.tuple #[.slice none 0 0, .int .i64 2]) ∧ w' = w := by
  have HMA := Lib.hid hma; have HNO := Lib.hid hno
  obtain ⟨hl, hr1, hr12, hc1, hc12, hrc, hq⟩ := hma
  obtain ⟨aa, capa, rfl, -⟩ : ∃ a cap, va = .slice a ms.length cap ∧ True := by obtain ⟨a, cap, h, -⟩ := ha; exact ⟨a, cap, h, trivial⟩
  have HA := Lib.hid ha
  have h0 : 0 < ms.length := by omega
  have p1 : 0 < (ms.length : Int) := by omega
  obtain ⟨b, off, a2, c2, rfl, hc0, -, -⟩ := ha.row h0
  rw [(hq _ (List.getElem_mem h0)).1, Nat.add_zero] at hc0
  have HC0 := Lib.hid hc0
  clear ha hq hl hr1 hr12 hrc hc0
  have HX := Lib.hid hx
  obtain ⟨ax, cx, rfl, -⟩ := hx
  subst hxl
  have k1 : ((xs.length : Int) != (xs.length : Int)) = false := by simp
  clear hno
  go_enter Try.func26, Try.ntmps26
  go_wp2_with fail
  refine (Check10_any HA.out HMA.out).mono ?_
  rintro e w1 ⟨rfl, hg⟩
  subst hg
  have hc0 := HC0.out
  go_wp2_with fail
  clear hc0 k1
  have HXW := Lib.hid (HX.out)
  go_loop [28] (fun i => ∃ k : Nat, i = .int .i64 k ∧ k ≤ xs.length ∧ Hid (∀ t, t < k → -1048576 ≤ xs[t]?.getD 0 ∧ xs[t]?.getD 0 ≤ 1048576)) (fun i => xs.length - (intOf i).toNat)
  case atStart => exact ⟨0, rfl, Nat.zero_le _, Lib.hid (fun t h => by omega)⟩
  case round =>
    obtain ⟨k, rfl, hk, HB⟩ := hrel
    by_cases hkb : k < xs.length
    · have h3 : (k : Int) < (xs.length : Int) := by omega
      have i1 : IntKind.i64.wrap ((k : Int) + 1) = (k : Int) + 1 := IntWalk.i64_in _ (by omega)
      obtain ⟨_, _, hxv, -, -, hxc⟩ := HXW.out
      simp only [Value.slice.injEq] at hxv
      obtain ⟨rfl, -, rfl⟩ := hxv
      obtain ⟨bx, ox, rfl, hcx⟩ := Ints.at hxc hkb
      have HBN : Hid (-1048576 ≤ xs[k]?.getD 0 ∧ xs[k]?.getD 0 ≤ 1048576 → ∀ t, t < k + 1 → -1048576 ≤ xs[t]?.getD 0 ∧ xs[t]?.getD 0 ≤ 1048576) := Lib.hid (fun hh t hlt => by
        by_cases e : t = k
        · subst e; exact hh
        · exact HB.out t (by omega))
      generalize xs[k]?.getD 0 = x at *
      clear hxc HB
      by_cases f1 : x < -1048576
      · go_wp2_with fail
        go_ret2
        exact ⟨rfl, rfl⟩
      by_cases f2 : (1048576 : Int) < x
      · go_wp2_with fail
        go_ret2
        exact ⟨rfl, rfl⟩
      have HBM := Lib.hid (HBN.out ⟨by omega, by omega⟩)
      go_wp2_with fail
      go_round
      case rel => exact ⟨k + 1, by go_num, by omega, HBM⟩
      case measure => (simp [intOf]; try omega)
    · obtain rfl : k = xs.length := by omega
      exact (HNO.out (fun x hx => by
        obtain ⟨t, ht, rfl⟩ := List.mem_iff_getElem.1 hx
        have := HB.out t ht
        rwa [List.getElem?_eq_getElem ht] at this)).elim
set_option maxRecDepth 100000 in
set_option maxHeartbeats 1000000 in
theorem Multiply_badR {w : World} {va vb : Value} {ms bs : List Row} {r c : Nat} (ha : RowsP w va ms) (hma : MatOkP r c ms) (hb : RowsI w vb bs) (hno : ∀ r c, ¬ MatOkP r c bs) :
    Calls Try.prog 19 #[va, vb] w fun e w' => e = .returned (.tuple #[.slice none 0 0, .int .i64 10]) ∧ w' = w := by
  have HMA := Lib.hid hma; have HA := Lib.hid ha; have HB := Lib.hid hb; have HNO := Lib.hid hno
  clear ha hma hb hno
  go_enter Try.func19, Try.ntmps19
  go_wp2_with fail
  refine (Check10_any HA.out HMA.out).mono ?_
  rintro e w1 ⟨rfl, hg⟩
  subst hg
  go_wp2_with fail
  refine (Check_bad HB.out HNO.out).mono ?_
  rintro e w2 ⟨rfl, hg⟩
  subst hg
  go_wp2_with fail
  go_ret2
  exact ⟨rfl, rfl⟩
set_option maxRecDepth 100000 in
set_option maxHeartbeats 1000000 in
theorem Multiply_len {w : World} {va vb : Value} {ms bs : List Row} {r c r' n : Nat} (ha : RowsP w va ms) (hma : MatOkP r c ms) (hb : RowsP w vb bs) (hmb : MatOkP r' n bs) (hne : bs.length ≠ c) :
    Calls Try.prog 19 #[va, vb] w fun e w' => e = .returned (.tuple #[.slice none 0 0, .int .i64 3]) ∧ w' = w := by
  have HMA := Lib.hid hma; have HMB := Lib.hid hmb; have HB := Lib.hid hb
  obtain ⟨hl, hr1, hr12, hc1, hc12, hrc, hq⟩ := hma
  obtain ⟨aa, capa, rfl, -⟩ : ∃ a cap, va = .slice a ms.length cap ∧ True := by obtain ⟨a, cap, h, -⟩ := ha; exact ⟨a, cap, h, trivial⟩
  have HA := Lib.hid ha
  have h0 : 0 < ms.length := by omega
  have p1 : 0 < (ms.length : Int) := by omega
  obtain ⟨b, off, a2, c2, rfl, hc0, -, -⟩ := ha.row h0
  rw [(hq _ (List.getElem_mem h0)).1, Nat.add_zero] at hc0
  have HC0 := Lib.hid hc0
  clear ha hq hl hr1 hr12 hrc hc0
  obtain ⟨ab, capb, rfl, -⟩ : ∃ a cap, vb = .slice a bs.length cap ∧ True := by obtain ⟨a, cap, h, -⟩ := hb; exact ⟨a, cap, h, trivial⟩
  have k1 : ((bs.length : Int) != (c : Int)) = true := by simp; omega
  clear hne hb hmb
  go_enter Try.func19, Try.ntmps19
  go_wp2_with fail
  refine (Check10_any HA.out HMA.out).mono ?_
  rintro e w1 ⟨rfl, hg⟩
  subst hg
  go_wp2_with fail
  refine (Check10_any HB.out HMB.out).mono ?_
  rintro e w2 ⟨rfl, hg⟩
  subst hg; have hc0 := HC0.out
  go_wp2_with fail
  go_ret2
  exact ⟨rfl, rfl⟩
set_option maxRecDepth 100000 in
set_option maxHeartbeats 1000000 in
theorem rApply_len {w : World} {va vx : Value} {ms : List Row} {xs : List Int} {r c : Nat} (ha : RowsP w va ms) (hma : MatOkP r c ms) (hx : Ints w vx xs) (hne : xs.length ≠ c) :
    Calls Try.prog 27 #[va, vx] w fun e w' => e = .returned (.tuple #[.slice none 0 0, .int .i64 3]) ∧ w.grownBy w' none := by
  have HMA := Lib.hid hma
  obtain ⟨hl, hr1, hr12, hc1, hc12, hrc, hq⟩ := hma
  obtain ⟨aa, capa, rfl, -⟩ : ∃ a cap, va = .slice a ms.length cap ∧ True := by obtain ⟨a, cap, h, -⟩ := ha; exact ⟨a, cap, h, trivial⟩
  have HA := Lib.hid ha
  have h0 : 0 < ms.length := by omega
  have p1 : 0 < (ms.length : Int) := by omega
  obtain ⟨b, off, a2, c2, rfl, hc0, -, -⟩ := ha.row h0
  rw [(hq _ (List.getElem_mem h0)).1, Nat.add_zero] at hc0
  have HC0 := Lib.hid hc0
  clear ha hq hl hr1 hr12 hrc hc0
  obtain ⟨ax, cx, rfl, -⟩ := hx
  have k1 : ((xs.length : Int) != (c : Int)) = true := by simp; omega
  clear hne
  go_enter Try.func27, Try.ntmps27
  go_wp2_with fail
  refine (rcheck10_ok HA.out HMA.out).mono ?_
  rintro e w1 ⟨rfl, hg⟩
  have HG := Lib.hid hg
  clear hg
  have hc0 := HG.out.cell HC0.out (by simp)
  go_wp2_with fail
  go_ret2
  exact ⟨rfl, HG.out⟩
set_option maxRecDepth 100000 in
set_option maxHeartbeats 1000000 in
theorem rApply_range {w : World} {va vx : Value} {ms : List Row} {xs : List Int} {r c : Nat} (ha : RowsP w va ms) (hma : MatOkP r c ms) (hx : Ints w vx xs) (hxl : xs.length = c) (hno : ¬ ∀ x ∈ xs, -1048576 ≤ x ∧ x ≤ 1048576) :
    Calls Try.prog 27 #[va, vx] w fun e w' => e = .returned (.tuple #[.slice none 0 0, .int .i64 2]) ∧ w.grownBy w' none := by
  have HMA := Lib.hid hma; have HNO := Lib.hid hno
  obtain ⟨hl, hr1, hr12, hc1, hc12, hrc, hq⟩ := hma
  obtain ⟨aa, capa, rfl, -⟩ : ∃ a cap, va = .slice a ms.length cap ∧ True := by obtain ⟨a, cap, h, -⟩ := ha; exact ⟨a, cap, h, trivial⟩
  have HA := Lib.hid ha
  have h0 : 0 < ms.length := by omega
  have p1 : 0 < (ms.length : Int) := by omega
  obtain ⟨b, off, a2, c2, rfl, hc0, -, -⟩ := ha.row h0
  rw [(hq _ (List.getElem_mem h0)).1, Nat.add_zero] at hc0
  have HC0 := Lib.hid hc0
  clear ha hq hl hr1 hr12 hrc hc0
  have HX := Lib.hid hx
  obtain ⟨ax, cx, rfl, -⟩ := hx
  subst hxl
  have k1 : ((xs.length : Int) != (xs.length : Int)) = false := by simp
  clear hno
  go_enter Try.func27, Try.ntmps27
  go_wp2_with fail
  refine (rcheck10_ok HA.out HMA.out).mono ?_
  rintro e w1 ⟨rfl, hg⟩
  have HG := Lib.hid hg
  clear hg
  have hc0 := HG.out.cell HC0.out (by simp)
  go_wp2_with fail
  clear hc0 k1
  have HXW := Lib.hid (HX.out.same HG.out)
  go_loop [7] (fun i => ∃ k : Nat, i = .int .i64 k ∧ k ≤ xs.length ∧ Hid (∀ t, t < k → -1048576 ≤ xs[t]?.getD 0 ∧ xs[t]?.getD 0 ≤ 1048576)) (fun i => xs.length - (intOf i).toNat)
  case atStart => exact ⟨0, rfl, Nat.zero_le _, Lib.hid (fun t h => by omega)⟩
  case round =>
    obtain ⟨k, rfl, hk, HB⟩ := hrel
    by_cases hkb : k < xs.length
    · have h3 : (k : Int) < (xs.length : Int) := by omega
      have i1 : IntKind.i64.wrap ((k : Int) + 1) = (k : Int) + 1 := IntWalk.i64_in _ (by omega)
      obtain ⟨_, _, hxv, -, -, hxc⟩ := HXW.out
      simp only [Value.slice.injEq] at hxv
      obtain ⟨rfl, -, rfl⟩ := hxv
      obtain ⟨bx, ox, rfl, hcx⟩ := Ints.at hxc hkb
      have HBN : Hid (-1048576 ≤ xs[k]?.getD 0 ∧ xs[k]?.getD 0 ≤ 1048576 → ∀ t, t < k + 1 → -1048576 ≤ xs[t]?.getD 0 ∧ xs[t]?.getD 0 ≤ 1048576) := Lib.hid (fun hh t hlt => by
        by_cases e : t = k
        · subst e; exact hh
        · exact HB.out t (by omega))
      generalize xs[k]?.getD 0 = x at *
      clear hxc HB
      by_cases f1 : x < -1048576
      · go_wp2_with fail
        go_ret2
        exact ⟨rfl, HG.out⟩
      by_cases f2 : (1048576 : Int) < x
      · go_wp2_with fail
        go_ret2
        exact ⟨rfl, HG.out⟩
      have HBM := Lib.hid (HBN.out ⟨by omega, by omega⟩)
      go_wp2_with fail
      go_round
      case rel => exact ⟨k + 1, by go_num, by omega, HBM⟩
      case measure => (simp [intOf]; try omega)
    · obtain rfl : k = xs.length := by omega
      exact (HNO.out (fun x hx => by
        obtain ⟨t, ht, rfl⟩ := List.mem_iff_getElem.1 hx
        have := HB.out t ht
        rwa [List.getElem?_eq_getElem ht] at this)).elim
set_option maxRecDepth 100000 in
set_option maxHeartbeats 1000000 in
theorem rMultiply_badR {w : World} {va vb : Value} {ms bs : List Row} {r c : Nat} (ha : RowsP w va ms) (hma : MatOkP r c ms) (hb : RowsI w vb bs) (hno : ∀ r c, ¬ MatOkP r c bs) :
    Calls Try.prog 20 #[va, vb] w fun e w' => e = .returned (.tuple #[.slice none 0 0, .int .i64 10]) ∧ w.grownBy w' none := by
  have HMA := Lib.hid hma; have HA := Lib.hid ha; have HB := Lib.hid hb; have HNO := Lib.hid hno
  clear ha hma hb hno
  go_enter Try.func20, Try.ntmps20
  go_wp2_with fail
  refine (rcheck10_ok HA.out HMA.out).mono ?_
  rintro e w1 ⟨rfl, hg⟩
  have HG := Lib.hid hg; clear hg
  go_wp2_with fail
  refine (rcheck_bad (HB.out.same HG.out) HNO.out).mono ?_
  rintro e w2 ⟨rfl, hg⟩
  have HG2 := Lib.hid (grown_trans HG.out hg); clear hg
  go_wp2_with fail
  go_ret2
  exact ⟨rfl, HG2.out⟩
set_option maxRecDepth 100000 in
set_option maxHeartbeats 1000000 in
theorem rMultiply_len {w : World} {va vb : Value} {ms bs : List Row} {r c r' n : Nat} (ha : RowsP w va ms) (hma : MatOkP r c ms) (hb : RowsP w vb bs) (hmb : MatOkP r' n bs) (hne : bs.length ≠ c) :
    Calls Try.prog 20 #[va, vb] w fun e w' => e = .returned (.tuple #[.slice none 0 0, .int .i64 3]) ∧ w.grownBy w' none := by
  have HMA := Lib.hid hma; have HMB := Lib.hid hmb; have HB := Lib.hid hb
  obtain ⟨hl, hr1, hr12, hc1, hc12, hrc, hq⟩ := hma
  obtain ⟨aa, capa, rfl, -⟩ : ∃ a cap, va = .slice a ms.length cap ∧ True := by obtain ⟨a, cap, h, -⟩ := ha; exact ⟨a, cap, h, trivial⟩
  have HA := Lib.hid ha
  have h0 : 0 < ms.length := by omega
  have p1 : 0 < (ms.length : Int) := by omega
  obtain ⟨b, off, a2, c2, rfl, hc0, -, -⟩ := ha.row h0
  rw [(hq _ (List.getElem_mem h0)).1, Nat.add_zero] at hc0
  have HC0 := Lib.hid hc0
  clear ha hq hl hr1 hr12 hrc hc0
  obtain ⟨ab, capb, rfl, -⟩ : ∃ a cap, vb = .slice a bs.length cap ∧ True := by obtain ⟨a, cap, h, -⟩ := hb; exact ⟨a, cap, h, trivial⟩
  have k1 : ((bs.length : Int) != (c : Int)) = true := by simp; omega
  clear hne hb hmb
  go_enter Try.func20, Try.ntmps20
  go_wp2_with fail
  refine (rcheck10_ok HA.out HMA.out).mono ?_
  rintro e w1 ⟨rfl, hg⟩
  have HG := Lib.hid hg; clear hg
  go_wp2_with fail
  refine (rcheck10_ok (HB.out.same HG.out) HMB.out).mono ?_
  rintro e w2 ⟨rfl, hg⟩
  have HG2 := Lib.hid (grown_trans HG.out hg); clear hg; have hc0 := HG2.out.cell HC0.out (by simp)
  go_wp2_with fail
  go_ret2
  exact ⟨rfl, HG2.out⟩
end Go.Proofs.Ytpnghgihepnepaa
