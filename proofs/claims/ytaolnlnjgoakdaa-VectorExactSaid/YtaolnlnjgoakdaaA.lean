/- Contracts of small functions: they return what the plain function gives. -/
import Derived.Test.YtaolnlnjgoakdaaRows
import Derived.Test.YtaolnlnjgoakdaaP
namespace Go.Proofs.Ytaolnlnjgoakdaa
open Go.RowKit
set_option linter.unusedVariables false

theorem few_any (a : Option Addr) (len cap : Nat) (w : World) :
    Calls Try.prog 9 #[.slice a len cap] w fun e w' => e = .returned (.bool (decide ((len : Int) ≤ 400))) ∧ w' = w := by
  go_enter Try.func9, Try.ntmps9
  go_wp2
  go_ret
  exact ⟨rfl, rfl⟩

theorem number_any (x : Int) (w : World) :
    Calls Try.prog 35 #[.int .i64 x] w fun e w' => e = .returned (.bool (numB x)) ∧ w' = w := by
  by_cases h0 : 0 ≤ x
  · go_enter Try.func35, Try.ntmps35
    go_wp2
    go_ret
    exact ⟨by simp [numB, h0], rfl⟩
  · go_enter Try.func35, Try.ntmps35
    go_wp2
    go_ret
    exact ⟨by simp [numB]; omega, rfl⟩

theorem valid1_any (x : Int) (w : World) :
    Calls Try.prog 34 #[.int .i64 x] w fun e w' => e = .returned (.bool (elemB x)) ∧ w' = w := by
  by_cases h0 : x = 1099511627776
  · subst h0
    go_enter Try.func34, Try.ntmps34
    go_wp2
    go_ret
    exact ⟨by simp [elemB], rfl⟩
  · have h1 : (x == 1099511627776) = false := by simpa using h0
    clear h0
    go_enter Try.func34, Try.ntmps34
    go_wp2_with (go_at_call 35; refine (number_any _ _).mono ?_; rintro e w' ⟨rfl, rfl⟩)
    go_ret
    exact ⟨by simp [elemB, h1], rfl⟩

theorem every_valid (v : Value) (xs : List Int) (w : World) (h : Ints w v xs) :
    Calls Try.prog 33 #[v, .func (.func 34) #[] #[]] w fun e w' => e = .returned (.bool (validB xs)) ∧ w' = w := by
  obtain ⟨a, cap, rfl, hl, hb, hc⟩ := h
  unfold maxLen at hl
  clear hb
  go_enter Try.func33, Try.ntmps33
  go_wp2
  · go_ret
    exact ⟨ret_bool (by simp [validB]; omega), rfl⟩
  · go_loop [12] (fun i => ∃ k : Nat, k ≤ xs.length ∧ i = .int .i64 k ∧ (xs.take k).all elemB = true) (fun i => xs.length - (intOf i).toNat)
    case atStart => exact ⟨0, Nat.zero_le _, rfl, rfl⟩
    case round =>
      obtain ⟨k, hk, rfl, ha⟩ := hrel
      by_cases hlt : k < xs.length
      · have HS := Lib.hid (all_snoc elemB xs k hlt)
        obtain ⟨b, off, rfl, hx⟩ := Ints.at hc hlt
        have HA := Lib.hid ha
        clear ha hc
        generalize xs[k]?.getD 0 = x at *
        cases hp : elemB x
        · go_wp2_with (go_at_call 34; refine (valid1_any _ _).mono ?_; rintro e w' ⟨rfl, rfl⟩)
          go_ret
          exact ⟨ret_bool (validB_false (k := k + 1) (by rw [HS.out, HA.out, hp]; rfl)).symm, rfl⟩
        · go_wp2_with (go_at_call 34; refine (valid1_any _ _).mono ?_; rintro e w' ⟨rfl, rfl⟩)
          go_round
          case rel => exact ⟨k + 1, by omega, by go_num, by rw [HS.out, HA.out, hp]; rfl⟩
          case measure => simp [intOf]; omega
      · clear hc
        go_wp2
        go_ret
        exact ⟨ret_bool (by rw [List.take_of_length_le (by omega)] at ha; rw [validB, ha, Bool.and_true]; symm; simp; omega), rfl⟩

theorem every_finite (v : Value) (xs : List Int) (w : World) (h : Ints w v xs) :
    Calls Try.prog 33 #[v, .func (.func 35) #[] #[]] w fun e w' => e = .returned (.bool (finiteB xs)) ∧ w' = w := by
  obtain ⟨a, cap, rfl, hl, hb, hc⟩ := h
  unfold maxLen at hl
  clear hb
  go_enter Try.func33, Try.ntmps33
  go_wp2
  · go_ret
    exact ⟨ret_bool (by simp [finiteB]; omega), rfl⟩
  · go_loop [12] (fun i => ∃ k : Nat, k ≤ xs.length ∧ i = .int .i64 k ∧ (xs.take k).all numB = true) (fun i => xs.length - (intOf i).toNat)
    case atStart => exact ⟨0, Nat.zero_le _, rfl, rfl⟩
    case round =>
      obtain ⟨k, hk, rfl, ha⟩ := hrel
      by_cases hlt : k < xs.length
      · have HS := Lib.hid (all_snoc numB xs k hlt)
        obtain ⟨b, off, rfl, hx⟩ := Ints.at hc hlt
        have HA := Lib.hid ha
        clear ha hc
        generalize xs[k]?.getD 0 = x at *
        cases hp : numB x
        · go_wp2_with (go_at_call 35; refine (number_any _ _).mono ?_; rintro e w' ⟨rfl, rfl⟩)
          go_ret
          exact ⟨ret_bool (finiteB_false (k := k + 1) (by rw [HS.out, HA.out, hp]; rfl)).symm, rfl⟩
        · go_wp2_with (go_at_call 35; refine (number_any _ _).mono ?_; rintro e w' ⟨rfl, rfl⟩)
          go_round
          case rel => exact ⟨k + 1, by omega, by go_num, by rw [HS.out, HA.out, hp]; rfl⟩
          case measure => simp [intOf]; omega
      · clear hc
        go_wp2
        go_ret
        exact ⟨ret_bool (by rw [List.take_of_length_le (by omega)] at ha; rw [finiteB, ha, Bool.and_true]; symm; simp; omega), rfl⟩

theorem valid_any (v : Value) (xs : List Int) (w : World) (h : Ints w v xs) :
    Calls Try.prog 13 #[v] w fun e w' => e = .returned (.bool (validB xs)) ∧ w' = w := by
  have H := Lib.hid h
  clear h
  go_enter Try.func13, Try.ntmps13
  go_wp2_with (go_at_call 33; refine (every_valid _ _ _ H.out).mono ?_; rintro e w' ⟨rfl, rfl⟩)
  go_ret
  exact ⟨rfl, rfl⟩

theorem finite_any (v : Value) (xs : List Int) (w : World) (h : Ints w v xs) :
    Calls Try.prog 15 #[v] w fun e w' => e = .returned (.bool (finiteB xs)) ∧ w' = w := by
  have H := Lib.hid h
  clear h
  go_enter Try.func15, Try.ntmps15
  go_wp2_with (go_at_call 33; refine (every_finite _ _ _ H.out).mono ?_; rintro e w' ⟨rfl, rfl⟩)
  go_ret
  exact ⟨rfl, rfl⟩

end Go.Proofs.Ytaolnlnjgoakdaa
