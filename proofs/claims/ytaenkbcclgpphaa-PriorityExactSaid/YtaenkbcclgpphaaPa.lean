/- Words with ranks: which are valid. -/
import Derived.Test.YtaenkbcclgpphaaWc
import Derived.Test.YtaenkbcclgpphaaXa
namespace Go.Proofs.Ytaenkbcclgpphaa
open Go.RowKit
set_option linter.unusedVariables false

def rankB (r : Int) : Bool := decide (0 ≤ r) && decide (r < 6)
def letB (n : Nat) (x : Int) : Bool := decide (0 ≤ x) && decide (x < n)
def ranksB (rs : List Int) : Bool := (decide (1 ≤ rs.length) && decide (rs.length ≤ 6)) && rs.all rankB
def validP (rs w : List Int) : Bool := (ranksB rs && decide (w.length ≤ 12)) && w.all (letB rs.length)
def rk (rs : List Int) (x : Int) : Int := rs[x.toNat]?.getD 0
theorem rankB_lo {x : Int} (h : x < 0) : rankB x = false := by unfold rankB; rw [decide_eq_false (by omega)]; rfl
theorem rankB_hi {x : Int} (h : 6 ≤ x) : rankB x = false := by unfold rankB; rw [decide_eq_false (show ¬ x < 6 by omega), Bool.and_false]
theorem rankB_in {x : Int} (h : 0 ≤ x) (h' : x < 6) : rankB x = true := by unfold rankB; rw [decide_eq_true h, decide_eq_true h']; rfl
theorem letB_lo {n : Nat} {x : Int} (h : x < 0) : letB n x = false := by unfold letB; rw [decide_eq_false (by omega)]; rfl
theorem letB_hi {n : Nat} {x : Int} (h : (n : Int) ≤ x) : letB n x = false := by unfold letB; rw [decide_eq_false (show ¬ x < (n : Int) by omega), Bool.and_false]
theorem letB_in {n : Nat} {x : Int} (h : 0 ≤ x) (h' : x < (n : Int)) : letB n x = true := by unfold letB; rw [decide_eq_true h, decide_eq_true h']; rfl
theorem ranksB_le {rs : List Int} (h : ranksB rs = true) : 1 ≤ rs.length ∧ rs.length ≤ 6 ∧ ∀ r ∈ rs, 0 ≤ r ∧ r < 6 := by
  unfold ranksB at h
  simp only [Bool.and_eq_true, decide_eq_true_eq, List.all_eq_true] at h
  refine ⟨h.1.1, h.1.2, fun r hr => ?_⟩
  have := h.2 r hr
  unfold rankB at this
  simpa using this
theorem validP_le {rs w : List Int} (h : validP rs w = true) : ranksB rs = true ∧ w.length ≤ 12 ∧ ∀ x ∈ w, 0 ≤ x ∧ x < rs.length := by
  unfold validP at h
  simp only [Bool.and_eq_true, decide_eq_true_eq, List.all_eq_true] at h
  refine ⟨h.1.1, h.1.2, fun r hr => ?_⟩
  have := h.2 r hr
  unfold letB at this
  simpa using this

theorem ranked_any (v : Value) (rs : List Int) (w : World) (h : Ints w v rs) :
    Calls Try.prog 66 #[v] w fun e w' => e = .returned (.bool (ranksB rs)) ∧ w' = w := by
  obtain ⟨a, cap, rfl, hl, hb, hc⟩ := h
  unfold maxLen at hl
  clear hb
  by_cases c1 : rs.length = 0
  · have g : ((rs.length : Int) == 0) = true := by rw [beq_iff_eq]; omega
    have E : Hid (ranksB rs = false) := Lib.hid (by unfold ranksB; rw [decide_eq_false (by omega)]; rfl)
    clear c1 hc
    go_enter Try.func66, Try.ntmps66
    go_wp2_with fail
    go_ret
    exact ⟨ret_bool E.out.symm, rfl⟩
  have g : ((rs.length : Int) == 0) = false := by rw [beq_eq_false_iff_ne]; omega
  by_cases c2 : 6 < rs.length
  · have g' : (6 : Int) < (rs.length : Int) := by omega
    have E : Hid (ranksB rs = false) := Lib.hid (by unfold ranksB; rw [decide_eq_false (show ¬ rs.length ≤ 6 by omega), Bool.and_false]; rfl)
    clear c1 c2 hc
    go_enter Try.func66, Try.ntmps66
    go_wp2_with fail
    go_ret
    exact ⟨ret_bool E.out.symm, rfl⟩
  have g' : ¬ (6 : Int) < (rs.length : Int) := by omega
  have L1 : Hid (1 ≤ rs.length ∧ rs.length ≤ 6) := Lib.hid ⟨by omega, by omega⟩
  clear c1 c2
  go_enter Try.func66, Try.ntmps66
  go_wp2_with fail
  go_loop [15] (fun i => ∃ k : Nat, k ≤ rs.length ∧ i = .int .i64 k ∧ (rs.take k).all rankB = true) (fun i => rs.length - (intOf i).toNat)
  case atStart => exact ⟨0, Nat.zero_le _, rfl, rfl⟩
  case round =>
    obtain ⟨k, hk, rfl, ha⟩ := hrel
    by_cases hlt : k < rs.length
    · have HS := Lib.hid (all_snoc rankB rs k hlt)
      obtain ⟨b, off, rfl, hx⟩ := Ints.at hc hlt
      have HA := Lib.hid ha
      have g1 : (k : Int) < (rs.length : Int) := by omega
      clear ha hc
      generalize rs[k]?.getD 0 = x at *
      have HN : Hid (rankB x = false → rs.all rankB = false) := Lib.hid (fun e => all_of_false _ _ (k + 1) (by rw [HS.out, e, Bool.and_false]))
      by_cases h0 : x < 0
      · have g2 : decide (x < 0) = true := by simpa using h0
        have E := Lib.hid (HN.out (rankB_lo h0))
        go_wp2_with fail
        go_ret
        exact ⟨ret_bool (by unfold ranksB; rw [E.out, Bool.and_false]), rfl⟩
      · have g2 : decide (x < 0) = false := by simpa using h0
        by_cases h2 : x < 6
        · have g3 : decide (6 ≤ x) = false := decide_eq_false (by omega)
          have E : Hid (rankB x = true) := Lib.hid (rankB_in (by omega) h2)
          go_wp2_with fail
          go_round
          case rel => exact ⟨k + 1, by omega, by go_num, by rw [HS.out, HA.out, E.out]; rfl⟩
          case measure => simp [intOf]; omega
        · have g3 : decide (6 ≤ x) = true := decide_eq_true (by omega)
          have E := Lib.hid (HN.out (rankB_hi (by omega)))
          go_wp2_with fail
          go_ret
          exact ⟨ret_bool (by unfold ranksB; rw [E.out, Bool.and_false]), rfl⟩
    · clear hc
      have g1 : ¬ (k : Int) < (rs.length : Int) := by omega
      have HA : Hid (rs.all rankB = true) := Lib.hid (by rwa [List.take_of_length_le (by omega)] at ha)
      clear ha
      go_wp2_with fail
      go_ret
      exact ⟨ret_bool (by unfold ranksB; rw [HA.out, decide_eq_true L1.out.1, decide_eq_true L1.out.2]; rfl), rfl⟩

theorem rranks_any (v : Value) (rs : List Int) (w : World) (h : Ints w v rs) :
    Calls Try.prog 67 #[v] w fun e w' => e = .returned (.bool (ranksB rs)) ∧ w' = w := by
  obtain ⟨a, cap, rfl, hl, hb, hc⟩ := h
  unfold maxLen at hl
  clear hb
  go_enter Try.func67, Try.ntmps67
  go_wp2_with fail
  go_loop [3] (fun i => ∃ k : Nat, k ≤ rs.length ∧ i = .int .i64 k ∧ (rs.take k).all rankB = true) (fun i => rs.length - (intOf i).toNat)
  case atStart => exact ⟨0, Nat.zero_le _, rfl, rfl⟩
  case round =>
    obtain ⟨k, hk, rfl, ha⟩ := hrel
    by_cases hlt : k < rs.length
    · have HS := Lib.hid (all_snoc rankB rs k hlt)
      obtain ⟨b, off, rfl, hx⟩ := Ints.at hc hlt
      have HA := Lib.hid ha
      have g1 : (k : Int) < (rs.length : Int) := by omega
      clear ha hc
      generalize rs[k]?.getD 0 = x at *
      have HN : Hid (rankB x = false → rs.all rankB = false) := Lib.hid (fun e => all_of_false _ _ (k + 1) (by rw [HS.out, e, Bool.and_false]))
      by_cases h0 : x < 0
      · have g2 : decide (x < 0) = true := by simpa using h0
        have E := Lib.hid (HN.out (rankB_lo h0))
        go_wp2_with fail
        go_ret
        exact ⟨ret_bool (by unfold ranksB; rw [E.out, Bool.and_false]), rfl⟩
      · have g2 : decide (x < 0) = false := by simpa using h0
        by_cases h2 : x < 6
        · have g3 : decide (6 ≤ x) = false := decide_eq_false (by omega)
          have E : Hid (rankB x = true) := Lib.hid (rankB_in (by omega) h2)
          go_wp2_with fail
          go_round
          case rel => exact ⟨k + 1, by omega, by go_num, by rw [HS.out, HA.out, E.out]; rfl⟩
          case measure => simp [intOf]; omega
        · have g3 : decide (6 ≤ x) = true := decide_eq_true (by omega)
          have E := Lib.hid (HN.out (rankB_hi (by omega)))
          go_wp2_with fail
          go_ret
          exact ⟨ret_bool (by unfold ranksB; rw [E.out, Bool.and_false]), rfl⟩
    · clear hc
      have g1 : ¬ (k : Int) < (rs.length : Int) := by omega
      have HA : Hid (rs.all rankB = true) := Lib.hid (by rwa [List.take_of_length_le (by omega)] at ha)
      clear ha
      by_cases c1 : 1 ≤ rs.length
      · have d1 : decide (1 ≤ rs.length) = true := by simpa using c1
        have d2 : decide ((1 : Int) ≤ (rs.length : Int)) = true := decide_eq_true (by omega)
        go_wp2_with fail
        go_ret
        exact ⟨ret_bool (by unfold ranksB; rw [HA.out, Bool.and_true, decide_eq_true c1, Bool.true_and, decide_eq_decide]; omega), rfl⟩
      · have d1 : decide (1 ≤ rs.length) = false := by simpa using c1
        have d2 : decide ((1 : Int) ≤ (rs.length : Int)) = false := decide_eq_false (by omega)
        go_wp2_with fail
        go_ret
        exact ⟨ret_bool (by unfold ranksB; rw [decide_eq_false c1]; rfl), rfl⟩

theorem validP_any (vr v : Value) (rs xs : List Int) (w : World) (hr : Ints w vr rs) (h : Ints w v xs) :
    Calls Try.prog 38 #[vr, v] w fun e w' => e = .returned (.bool (validP rs xs)) ∧ w' = w := by
  have HR := Lib.hid hr
  obtain ⟨ar, capr, rfl, -, -, -⟩ := hr
  obtain ⟨a, cap, rfl, hl, hb, hc⟩ := h
  unfold maxLen at hl
  clear hb
  cases c1 : ranksB rs
  · have C1 := Lib.hid c1
    clear c1 hc
    go_enter Try.func38, Try.ntmps38
    go_wp2_with fail
    refine (ranked_any _ _ _ HR.out).mono ?_; rintro e w' ⟨rfl, rfl⟩
    rw [C1.out]
    go_wp2_with fail
    go_ret
    exact ⟨ret_bool (by unfold validP; rw [C1.out]; rfl), rfl⟩
  have C1 := Lib.hid c1
  have hrl := (ranksB_le c1).2.1
  clear c1
  by_cases c2 : 12 < xs.length
  · have g' : (12 : Int) < (xs.length : Int) := by omega
    have E : Hid (validP rs xs = false) := Lib.hid (by unfold validP; rw [decide_eq_false (show ¬ xs.length ≤ 12 by omega), Bool.and_false]; rfl)
    clear c2 hc
    go_enter Try.func38, Try.ntmps38
    go_wp2_with fail
    refine (ranked_any _ _ _ HR.out).mono ?_; rintro e w' ⟨rfl, rfl⟩
    rw [C1.out]
    go_wp2_with fail
    go_ret
    exact ⟨ret_bool E.out.symm, rfl⟩
  have g' : ¬ (12 : Int) < (xs.length : Int) := by omega
  have L1 : Hid (xs.length ≤ 12) := Lib.hid (by omega)
  clear c2
  go_enter Try.func38, Try.ntmps38
  go_wp2_with fail
  refine (ranked_any _ _ _ HR.out).mono ?_; rintro e w' ⟨rfl, rfl⟩
  rw [C1.out]
  go_wp2_with fail
  go_loop [17] (fun i => ∃ k : Nat, k ≤ xs.length ∧ i = .int .i64 k ∧ (xs.take k).all (letB rs.length) = true) (fun i => xs.length - (intOf i).toNat)
  case atStart => exact ⟨0, Nat.zero_le _, rfl, rfl⟩
  case round =>
    obtain ⟨k, hk, rfl, ha⟩ := hrel
    by_cases hlt : k < xs.length
    · have HS := Lib.hid (all_snoc (letB rs.length) xs k hlt)
      obtain ⟨b, off, rfl, hx⟩ := Ints.at hc hlt
      have HA := Lib.hid ha
      have g1 : (k : Int) < (xs.length : Int) := by omega
      clear ha hc
      generalize xs[k]?.getD 0 = x at *
      have HN : Hid (letB rs.length x = false → xs.all (letB rs.length) = false) := Lib.hid (fun e => all_of_false _ _ (k + 1) (by rw [HS.out, e, Bool.and_false]))
      by_cases h0 : x < 0
      · have g2 : decide (x < 0) = true := by simpa using h0
        have E := Lib.hid (HN.out (letB_lo h0))
        go_wp2_with fail
        go_ret
        exact ⟨ret_bool (by unfold validP; rw [E.out, Bool.and_false]), rfl⟩
      · have g2 : decide (x < 0) = false := by simpa using h0
        by_cases h2 : x < (rs.length : Int)
        · have g3 : decide ((rs.length : Int) ≤ x) = false := decide_eq_false (by omega)
          have E : Hid (letB rs.length x = true) := Lib.hid (letB_in (by omega) h2)
          go_wp2_with fail
          go_round
          case rel => exact ⟨k + 1, by omega, by go_num, by rw [HS.out, HA.out, E.out]; rfl⟩
          case measure => simp [intOf]; omega
        · have g3 : decide ((rs.length : Int) ≤ x) = true := decide_eq_true (by omega)
          have E := Lib.hid (HN.out (letB_hi (by omega)))
          go_wp2_with fail
          go_ret
          exact ⟨ret_bool (by unfold validP; rw [E.out, Bool.and_false]), rfl⟩
    · clear hc
      have g1 : ¬ (k : Int) < (xs.length : Int) := by omega
      have HA : Hid (xs.all (letB rs.length) = true) := Lib.hid (by rwa [List.take_of_length_le (by omega)] at ha)
      clear ha
      go_wp2_with fail
      go_ret
      exact ⟨ret_bool (by unfold validP; rw [HA.out, C1.out, decide_eq_true L1.out]; rfl), rfl⟩

theorem rvalidP_any (vr v : Value) (rs xs : List Int) (w : World) (hr : Ints w vr rs) (h : Ints w v xs) :
    Calls Try.prog 39 #[vr, v] w fun e w' => e = .returned (.bool (validP rs xs)) ∧ w' = w := by
  have HR := Lib.hid hr
  obtain ⟨ar, capr, rfl, hrl, -, -⟩ := hr
  obtain ⟨a, cap, rfl, hl, hb, hc⟩ := h
  unfold maxLen at hl hrl
  clear hb
  go_enter Try.func39, Try.ntmps39
  go_wp2_with fail
  go_loop [5] (fun i => ∃ k : Nat, k ≤ xs.length ∧ i = .int .i64 k ∧ (xs.take k).all (letB rs.length) = true) (fun i => xs.length - (intOf i).toNat)
  case atStart => exact ⟨0, Nat.zero_le _, rfl, rfl⟩
  case round =>
    obtain ⟨k, hk, rfl, ha⟩ := hrel
    by_cases hlt : k < xs.length
    · have HS := Lib.hid (all_snoc (letB rs.length) xs k hlt)
      obtain ⟨b, off, rfl, hx⟩ := Ints.at hc hlt
      have HA := Lib.hid ha
      have g1 : (k : Int) < (xs.length : Int) := by omega
      clear ha hc
      generalize xs[k]?.getD 0 = x at *
      have HN : Hid (letB rs.length x = false → xs.all (letB rs.length) = false) := Lib.hid (fun e => all_of_false _ _ (k + 1) (by rw [HS.out, e, Bool.and_false]))
      by_cases h0 : x < 0
      · have g2 : decide (x < 0) = true := by simpa using h0
        have E := Lib.hid (HN.out (letB_lo h0))
        go_wp2_with fail
        go_ret
        exact ⟨ret_bool (by unfold validP; rw [E.out, Bool.and_false]), rfl⟩
      · have g2 : decide (x < 0) = false := by simpa using h0
        by_cases h2 : x < (rs.length : Int)
        · have g3 : decide ((rs.length : Int) ≤ x) = false := decide_eq_false (by omega)
          have E : Hid (letB rs.length x = true) := Lib.hid (letB_in (by omega) h2)
          go_wp2_with fail
          go_round
          case rel => exact ⟨k + 1, by omega, by go_num, by rw [HS.out, HA.out, E.out]; rfl⟩
          case measure => simp [intOf]; omega
        · have g3 : decide ((rs.length : Int) ≤ x) = true := decide_eq_true (by omega)
          have E := Lib.hid (HN.out (letB_hi (by omega)))
          go_wp2_with fail
          go_ret
          exact ⟨ret_bool (by unfold validP; rw [E.out, Bool.and_false]), rfl⟩
    · clear hc
      have g1 : ¬ (k : Int) < (xs.length : Int) := by omega
      have HA : Hid (xs.all (letB rs.length) = true) := Lib.hid (by rwa [List.take_of_length_le (by omega)] at ha)
      clear ha
      go_wp2_with fail
      refine (rranks_any _ _ _ HR.out).mono ?_; rintro e w' ⟨rfl, rfl⟩
      cases c1 : ranksB rs
      · have C1 := Lib.hid c1
        clear c1
        go_wp2_with fail
        go_ret
        exact ⟨ret_bool (by unfold validP; rw [C1.out]; rfl), rfl⟩
      · have C1 := Lib.hid c1
        clear c1
        go_wp2_with fail
        go_ret
        exact ⟨ret_bool (by unfold validP; rw [HA.out, C1.out, Bool.and_true, Bool.true_and, decide_eq_decide]; omega), rfl⟩


end Go.Proofs.Ytaenkbcclgpphaa
