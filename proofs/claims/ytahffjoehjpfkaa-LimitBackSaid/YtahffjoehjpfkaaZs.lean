/- The reference's order of layer 1. -/
import Derived.Test.YtahffjoehjpfkaaZr
import Derived.Test.YtahffjoehjpfkaaGr
namespace Go.Proofs.Ytahffjoehjpfkaa
open Go.ChangeShapes Go.WideShapes Go.ChangeAt Go.RowKit
set_option linter.unusedVariables false

theorem element_any (x : Int) (w : World) :
    Calls Try.prog 65 #[.int .i64 x] w fun e w' => e = .returned (.bool (elemB x)) ∧ w' = w := by
  by_cases h0 : 0 ≤ x
  · by_cases h1 : x ≤ 1048576
    · go_enter Try.func65, Try.ntmps65
      go_wp2
      go_ret
      exact ⟨ret_bool (by unfold elemB numB; simp [h0, h1]), rfl⟩
    · go_enter Try.func65, Try.ntmps65
      go_wp2
      go_ret
      exact ⟨ret_bool (by have : decide (x ≤ 1048576) = false := by simp; omega
                          unfold elemB numB; rw [this]; simp), rfl⟩
  · go_enter Try.func65, Try.ntmps65
    go_wp2
    go_ret
    exact ⟨ret_bool (by have : decide (0 ≤ x) = false := by simp; omega
                        unfold elemB numB; rw [this]; simp), rfl⟩

theorem rvalid_any (v : Value) (xs : List Int) (w : World) (h : Ints w v xs) :
    Calls Try.prog 33 #[v] w fun e w' => e = .returned (.bool (validB xs)) ∧ w' = w := by
  obtain ⟨a, cap, rfl, hl, hb, hc⟩ := h
  unfold maxLen at hl
  clear hb
  go_enter Try.func33, Try.ntmps33
  go_wp2_with fail
  go_loop [3] (fun i => ∃ k : Nat, k ≤ xs.length ∧ i = .int .i64 k ∧ (xs.take k).all elemB = true) (fun i => xs.length - (intOf i).toNat)
  case atStart => exact ⟨0, Nat.zero_le _, rfl, rfl⟩
  case round =>
    obtain ⟨k, hk, rfl, ha⟩ := hrel
    by_cases hlt : k < xs.length
    · have HS := Lib.hid (all_snoc elemB xs k hlt)
      obtain ⟨b, off, rfl, hx⟩ := Ints.at hc hlt
      have HA := Lib.hid ha
      have h1 : (k : Int) < (xs.length : Int) := by omega
      clear ha hc
      generalize xs[k]?.getD 0 = x at *
      cases hp : elemB x
      · go_wp2_with (go_at_call 65; refine (element_any _ _).mono ?_; rintro e w' ⟨rfl, rfl⟩)
        go_ret
        exact ⟨ret_bool (validB_false (k := k + 1) (by rw [HS.out, HA.out, hp]; rfl)).symm, rfl⟩
      · go_wp2_with (go_at_call 65; refine (element_any _ _).mono ?_; rintro e w' ⟨rfl, rfl⟩)
        go_round
        case rel => exact ⟨k + 1, by omega, by go_num, by rw [HS.out, HA.out, hp]; rfl⟩
        case measure => simp [intOf]; omega
    · clear hc
      go_wp2
      go_ret
      exact ⟨ret_bool (by rw [List.take_of_length_le (by omega)] at ha; rw [validB, ha, Bool.and_true]; congr 1; apply propext; omega), rfl⟩

theorem rleq_any (va vb : Value) (xs ys : List Int) (w : World) (h : Ints w va xs) (h' : Ints w vb ys) :
    Calls Try.prog 15 #[va, vb] w fun e w' => e = .returned (.bool (leqB xs ys)) ∧ Drew w w' := by
  have H := Lib.hid h; have H' := Lib.hid h'
  obtain ⟨a, cap, rfl, hl, hb, hc⟩ := h
  obtain ⟨a', cap', rfl, hl1, hb', hc'⟩ := h'
  unfold maxLen at hl hl1
  clear hb hb'
  cases h1 : validB xs
  · clear hc hc'
    go_enter Try.func15, Try.ntmps15
    go_wp2_with fail
    refine (rvalid_any _ _ _ H.out).mono ?_; rintro e w' ⟨rfl, rfl⟩
    go_wp2_with fail
    go_ret
    exact ⟨ret_bool (by simp [leqB, h1]), Drew.refl _⟩
  cases h2 : validB ys
  · clear hc hc'
    go_enter Try.func15, Try.ntmps15
    go_wp2_with fail
    refine (rvalid_any _ _ _ H.out).mono ?_; rintro e w' ⟨rfl, rfl⟩
    go_wp2_with fail
    refine (rvalid_any _ _ _ H'.out).mono ?_; rintro e w' ⟨rfl, rfl⟩
    go_wp2_with fail
    go_ret
    exact ⟨ret_bool (by simp [leqB, h2]), Drew.refl _⟩
  by_cases h3 : xs.length = ys.length
  · have H3 := Lib.hid h3
    have h4 : ((xs.length : Int) != (ys.length : Int)) = false := by simp [h3]
    have hle : xs.length ≤ ys.length := by omega
    have HL : Hid (leqB xs ys = atMostB xs ys) := Lib.hid (by simp [leqB, h1, h2, h3])
    clear h3
    go_enter Try.func15, Try.ntmps15
    go_wp2_with fail
    refine (rvalid_any _ _ _ H.out).mono ?_; rintro e w' ⟨rfl, rfl⟩
    go_wp2_with fail
    refine (rvalid_any _ _ _ H'.out).mono ?_; rintro e w0 ⟨rfl, rfl⟩
    go_wp2_with fail
    go_loopw [5] (fun i wr => ∃ k n : Nat, k ≤ xs.length ∧ i = .int .i64 k ∧ atMostB (xs.take k) (ys.take k) = true ∧ wr = w0.drewN n) (fun i _ => xs.length - (intOf i).toNat)
    case atStart => exact ⟨0, 0, Nat.zero_le _, rfl, by simp [atMostB], rfl⟩
    case round =>
      obtain ⟨k, n, hk, rfl, ha, rfl⟩ := hrel
      have HA := Lib.hid ha
      clear ha
      by_cases hlt : k < xs.length
      · have hlt' : k < ys.length := by omega
        have HS := Lib.hid (atMostB_split xs ys k hlt hlt')
        obtain ⟨b, off, rfl, hx⟩ := Ints.at hc hlt
        obtain ⟨b', off', rfl, hx'⟩ := Ints.at hc' hlt'
        have h1 : (k : Int) < (xs.length : Int) := by omega
        have h2 : (k : Int) < (ys.length : Int) := by omega
        clear hc hc'
        generalize xs[k]?.getD 0 = x at *
        generalize ys[k]?.getD 0 = y at *
        by_cases hp : x ≤ y
        · go_wp2_with fail
          go_quiet (fail)
          go_wp2_with fail
          go_roundw
          case rel => exact ⟨k + 1, _, by omega, by go_num, by rw [HS.out, HA.out]; simp [hp], rfl⟩
          case measure => simp [intOf]; omega
        · go_wp2_with fail
          go_quiet (fail)
          go_wp2_with fail
          go_ret
          exact ⟨ret_bool (by rw [HL.out]; exact (atMostB_false xs ys (k + 1) (by omega) (by omega) (by rw [HS.out, HA.out]; simp; omega)).symm), (Drew.mk _ _).trans (Drew.mk _ _)⟩
      · clear hc hc'
        go_wp2_with fail
        go_ret
        exact ⟨ret_bool (by have ha := HA.out; have := H3.out; rw [List.take_of_length_le (by omega), List.take_of_length_le (by omega)] at ha; rw [HL.out, ha]), Drew.mk _ _⟩
  · have h4 : ((xs.length : Int) != (ys.length : Int)) = true := by simp; omega
    have H3 := Lib.hid h3
    clear h3 hc hc'
    go_enter Try.func15, Try.ntmps15
    go_wp2_with fail
    refine (rvalid_any _ _ _ H.out).mono ?_; rintro e w' ⟨rfl, rfl⟩
    go_wp2_with fail
    refine (rvalid_any _ _ _ H'.out).mono ?_; rintro e w' ⟨rfl, rfl⟩
    go_wp2_with fail
    go_ret
    exact ⟨ret_bool (by simp [leqB, H3.out]), Drew.refl _⟩
theorem rleq_valid (va vb : Value) (xs ys : List Int) (w : World) (h : Ints w va xs) (h' : Ints w vb ys) (h1 : validB xs = true) (h2 : validB ys = true) (hl : xs.length = ys.length) :
    Calls Try.prog 15 #[va, vb] w fun e w' => e = .returned (.bool (leqI xs ys)) ∧ Drew w w' :=
  (rleq_any va vb xs ys w h h').mono fun e w' ⟨he, hd⟩ => ⟨by rw [he]; simp [leqB, h1, h2, hl, atMost_isL xs ys hl], hd⟩
end Go.Proofs.Ytahffjoehjpfkaa
