/- Contracts of package vector: comparing. -/
import Derived.Test.YtaolnlnjgoakdaaA
namespace Go.Proofs.Ytaolnlnjgoakdaa
open Go.RowKit
set_option linter.unusedVariables false

theorem atMost_any (va vb : Value) (xs ys : List Int) (w : World) (h : Ints w va xs) (h' : Ints w vb ys) (hl' : xs.length = ys.length) :
    Calls Try.prog 37 #[va, vb] w fun e w' => e = .returned (.bool (atMostB xs ys)) ∧ w' = w := by
  obtain ⟨a, cap, rfl, hl, hb, hc⟩ := h
  obtain ⟨a', cap', rfl, hl1, hb', hc'⟩ := h'
  unfold maxLen at hl hl1
  clear hb hb'
  have HE := Lib.hid hl'
  have hle : xs.length ≤ ys.length := by omega
  clear hl'
  go_enter Try.func37, Try.ntmps37
  go_wp2
  go_loop [9] (fun i => ∃ k : Nat, k ≤ xs.length ∧ i = .int .i64 k ∧ atMostB (xs.take k) (ys.take k) = true) (fun i => xs.length - (intOf i).toNat)
  case atStart => exact ⟨0, Nat.zero_le _, rfl, by simp [atMostB]⟩
  case round =>
    obtain ⟨k, hk, rfl, ha⟩ := hrel
    by_cases hlt : k < xs.length
    · have hlt' : k < ys.length := by omega
      have HS := Lib.hid (atMostB_split xs ys k hlt hlt')
      obtain ⟨b, off, rfl, hx⟩ := Ints.at hc hlt
      obtain ⟨b', off', rfl, hx'⟩ := Ints.at hc' hlt'
      have HA := Lib.hid ha
      have h1 : (k : Int) < (xs.length : Int) := by omega
      have h2 : (k : Int) < (ys.length : Int) := by omega
      clear ha hc hc'
      generalize xs[k]?.getD 0 = x at *
      generalize ys[k]?.getD 0 = y at *
      by_cases hp : x ≤ y
      · go_wp2
        go_round
        case rel => exact ⟨k + 1, by omega, by go_num, by rw [HS.out, HA.out]; simp [hp]⟩
        case measure => simp [intOf]; omega
      · go_wp2
        go_ret
        exact ⟨ret_bool (atMostB_false xs ys (k + 1) (by omega) (by omega) (by rw [HS.out, HA.out]; simp; omega)).symm, rfl⟩
    · clear hc hc'
      go_wp2
      go_ret
      exact ⟨ret_bool (by rw [List.take_of_length_le (by omega), List.take_of_length_le (by have := HE.out; omega)] at ha; rw [ha]), rfl⟩

theorem leq_any (va vb : Value) (xs ys : List Int) (w : World) (h : Ints w va xs) (h' : Ints w vb ys) :
    Calls Try.prog 17 #[va, vb] w fun e w' => e = .returned (.bool (leqB xs ys)) ∧ w' = w := by
  have H := Lib.hid h; have H' := Lib.hid h'
  obtain ⟨a, cap, rfl, hl, _, _⟩ := h
  obtain ⟨a', cap', rfl, hl1, _, _⟩ := h'
  unfold maxLen at hl hl1
  cases h1 : validB xs
  · go_enter Try.func17, Try.ntmps17
    go_wp2_with (go_at_call 13; refine (valid_any _ _ _ H.out).mono ?_; rintro e w' ⟨rfl, rfl⟩)
    go_ret
    exact ⟨ret_bool (by simp [leqB, h1]), rfl⟩
  cases h2 : validB ys
  · go_enter Try.func17, Try.ntmps17
    go_wp2_with fail
    refine (valid_any _ _ _ H.out).mono ?_; rintro e w' ⟨rfl, rfl⟩
    go_wp2_with fail
    refine (valid_any _ _ _ H'.out).mono ?_; rintro e w' ⟨rfl, rfl⟩
    go_wp2_with fail
    go_ret
    exact ⟨ret_bool (by simp [leqB, h2]), rfl⟩
  by_cases h3 : xs.length = ys.length
  · have H3 := Lib.hid h3
    have h4 : ((xs.length : Int) == (ys.length : Int)) = true := by simp [h3]
    clear h3
    go_enter Try.func17, Try.ntmps17
    go_wp2_with fail
    refine (valid_any _ _ _ H.out).mono ?_; rintro e w' ⟨rfl, rfl⟩
    go_wp2_with fail
    refine (valid_any _ _ _ H'.out).mono ?_; rintro e w' ⟨rfl, rfl⟩
    go_wp2_with fail
    refine (atMost_any _ _ _ _ _ H.out H'.out H3.out).mono ?_; rintro e w' ⟨rfl, rfl⟩
    go_wp2_with fail
    go_ret
    exact ⟨ret_bool (by simp [leqB, h1, h2, H3.out]), rfl⟩
  · have h4 : ((xs.length : Int) == (ys.length : Int)) = false := by simp; omega
    have H3 := Lib.hid h3
    clear h3
    go_enter Try.func17, Try.ntmps17
    go_wp2_with fail
    refine (valid_any _ _ _ H.out).mono ?_; rintro e w' ⟨rfl, rfl⟩
    go_wp2_with fail
    refine (valid_any _ _ _ H'.out).mono ?_; rintro e w' ⟨rfl, rfl⟩
    go_wp2_with fail
    go_ret
    exact ⟨ret_bool (by simp [leqB, H3.out]), rfl⟩

theorem nan_any (x : Int) (w : World) :
    Calls Try.prog 48 #[.int .i64 x] w fun e w' => e = .returned (.bool false) ∧ w' = w := by
  go_enter Try.func48, Try.ntmps48
  go_wp2
  go_ret
  exact ⟨by simp, rfl⟩
theorem cmp_any (x y : Int) (w : World) :
    Calls Try.prog 38 #[.int .i64 x, .int .i64 y] w fun e w' => e = .returned (.int .i64 (orderI x y)) ∧ w' = w := by
  by_cases h1 : x < y
  · go_enter Try.func38, Try.ntmps38
    go_wp2_with (go_at_call 48; refine (nan_any _ _).mono ?_; rintro e w' ⟨rfl, rfl⟩)
    go_ret
    exact ⟨ret_int (by unfold orderI; rw [if_pos (by omega)]), rfl⟩
  · by_cases h2 : y < x
    · go_enter Try.func38, Try.ntmps38
      go_wp2_with (go_at_call 48; refine (nan_any _ _).mono ?_; rintro e w' ⟨rfl, rfl⟩)
      go_ret
      exact ⟨ret_int (by unfold orderI; rw [if_neg (by omega), if_pos (by omega)]), rfl⟩
    · go_enter Try.func38, Try.ntmps38
      go_wp2_with (go_at_call 48; refine (nan_any _ _).mono ?_; rintro e w' ⟨rfl, rfl⟩)
      go_ret
      exact ⟨ret_int (by unfold orderI; rw [if_neg (by omega), if_neg (by omega)]), rfl⟩

theorem slcmp_any (va vb : Value) (xs ys : List Int) (w : World) (h : Ints w va xs) (h' : Ints w vb ys) (hl' : xs.length = ys.length) :
    Calls Try.prog 39 #[va, vb] w fun e w' => e = .returned (.int .i64 (lexI xs ys)) ∧ w' = w := by
  obtain ⟨a, cap, rfl, hl, hb, hc⟩ := h
  obtain ⟨a', cap', rfl, hl1, hb', hc'⟩ := h'
  unfold maxLen at hl hl1
  clear hb hb'
  have HE := Lib.hid hl'
  have hle : xs.length ≤ ys.length := by omega
  have hge : ys.length ≤ xs.length := by omega
  clear hl'
  go_enter Try.func39, Try.ntmps39
  go_wp2
  go_loop [11] (fun i => ∃ k : Nat, k ≤ xs.length ∧ i = .int .i64 k ∧ lexI (xs.take k) (ys.take k) = 0) (fun i => xs.length - (intOf i).toNat)
  case atStart => exact ⟨0, Nat.zero_le _, rfl, by simp [lexI]⟩
  case round =>
    obtain ⟨k, hk, rfl, ha⟩ := hrel
    have HA := Lib.hid ha
    clear ha
    by_cases hlt : k < xs.length
    · have hlt' : k < ys.length := by omega
      have HS := Lib.hid (lexI_snoc xs ys k hlt hlt' HA.out)
      have HT := Lib.hid (lexI_at xs ys k hlt hlt' HA.out)
      obtain ⟨b, off, rfl, hx⟩ := Ints.at hc hlt
      obtain ⟨b', off', rfl, hx'⟩ := Ints.at hc' hlt'
      have h1 : (k : Int) < (xs.length : Int) := by omega
      have h2 : (k : Int) < (ys.length : Int) := by omega
      clear hc hc'
      generalize xs[k]?.getD 0 = x at *
      generalize ys[k]?.getD 0 = y at *
      by_cases hp : orderI x y = 0
      · have HP := Lib.hid hp
        have h3 : (orderI x y != 0) = false := by simp [hp]
        clear hp
        go_wp2_with (go_at_call 38; refine (cmp_any _ _ _).mono ?_; rintro e w' ⟨rfl, rfl⟩)
        go_round
        case rel => exact ⟨k + 1, by omega, by go_num, by rw [HS.out, HP.out]⟩
        case measure => simp [intOf]; omega
      · have HP := Lib.hid hp
        have h3 : (orderI x y != 0) = true := by simp [hp]
        clear hp
        go_wp2_with (go_at_call 38; refine (cmp_any _ _ _).mono ?_; rintro e w' ⟨rfl, rfl⟩)
        go_ret
        exact ⟨ret_int (HT.out HP.out).symm, rfl⟩
    · clear hc hc'
      go_wp2
      go_ret
      exact ⟨ret_int (by have ha := HA.out; rw [List.take_of_length_le (by omega), List.take_of_length_le (by have := HE.out; omega)] at ha; rw [ha]), rfl⟩

theorem compare_any (va vb : Value) (xs ys : List Int) (w : World) (h : Ints w va xs) (h' : Ints w vb ys) :
    Calls Try.prog 19 #[va, vb] w fun e w' => e = .returned (.int .i64 (compareI xs ys)) ∧ w' = w := by
  have H := Lib.hid h; have H' := Lib.hid h'
  obtain ⟨a, cap, rfl, hl, _, _⟩ := h
  obtain ⟨a', cap', rfl, hl1, _, _⟩ := h'
  unfold maxLen at hl hl1
  by_cases h3 : xs.length = ys.length
  · have H3 := Lib.hid h3
    have h4 : orderI (xs.length : Int) (ys.length : Int) = 0 := by unfold orderI; rw [if_neg (by omega), if_neg (by omega)]
    have h5 : (orderI (xs.length : Int) (ys.length : Int) != 0) = false := by rw [h4]; rfl
    clear h3 h4
    go_enter Try.func19, Try.ntmps19
    go_wp2_with fail
    refine (cmp_any _ _ _).mono ?_; rintro e w' ⟨rfl, rfl⟩
    go_wp2_with fail
    refine (slcmp_any _ _ _ _ _ H.out H'.out H3.out).mono ?_; rintro e w' ⟨rfl, rfl⟩
    go_wp2_with fail
    go_ret
    exact ⟨ret_int (by have := H3.out; unfold compareI; rw [if_neg (by omega), if_neg (by omega)]), rfl⟩
  · have H3 := Lib.hid h3
    have h5 : (orderI (xs.length : Int) (ys.length : Int) != 0) = true := by unfold orderI; split <;> simp; omega
    clear h3
    go_enter Try.func19, Try.ntmps19
    go_wp2_with fail
    refine (cmp_any _ _ _).mono ?_; rintro e w' ⟨rfl, rfl⟩
    go_wp2_with fail
    go_ret
    exact ⟨ret_int (by have := H3.out; unfold compareI orderI; split <;> rename_i h6 <;> split <;> rename_i h7 <;> first | omega | (rw [if_pos (by omega)]) | (rw [if_neg (by omega), if_pos (by omega)])), rfl⟩
end Go.Proofs.Ytaolnlnjgoakdaa
