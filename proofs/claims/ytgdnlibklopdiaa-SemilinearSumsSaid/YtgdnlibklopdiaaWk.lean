/- Comparing words, and their equality. -/
import Derived.Test.YtgdnlibklopdiaaRows
import Derived.Test.YtgdnlibklopdiaaWp
namespace Go.Proofs.Ytgdnlibklopdiaa
open Go.RowKit
set_option linter.unusedVariables false

theorem nan_any (x : Int) (w : World) :
    Calls Try.prog 116 #[.int .i64 x] w fun e w' => e = .returned (.bool false) ∧ w' = w := by
  go_enter Try.func116, Try.ntmps116
  go_wp2
  go_ret
  exact ⟨by simp, rfl⟩
theorem cmp_any (x y : Int) (w : World) :
    Calls Try.prog 102 #[.int .i64 x, .int .i64 y] w fun e w' => e = .returned (.int .i64 (orderI x y)) ∧ w' = w := by
  by_cases h1 : x < y
  · go_enter Try.func102, Try.ntmps102
    go_wp2_with (go_at_call 116; refine (nan_any _ _).mono ?_; rintro e w' ⟨rfl, rfl⟩)
    go_ret
    exact ⟨ret_int (by unfold orderI; rw [if_pos (by omega)]), rfl⟩
  · by_cases h2 : y < x
    · go_enter Try.func102, Try.ntmps102
      go_wp2_with (go_at_call 116; refine (nan_any _ _).mono ?_; rintro e w' ⟨rfl, rfl⟩)
      go_ret
      exact ⟨ret_int (by unfold orderI; rw [if_neg (by omega), if_pos (by omega)]), rfl⟩
    · go_enter Try.func102, Try.ntmps102
      go_wp2_with (go_at_call 116; refine (nan_any _ _).mono ?_; rintro e w' ⟨rfl, rfl⟩)
      go_ret
      exact ⟨ret_int (by unfold orderI; rw [if_neg (by omega), if_neg (by omega)]), rfl⟩

theorem slcmp_any (va vb : Value) (xs ys : List Int) (w : World) (h : Ints w va xs) (h' : Ints w vb ys) (hl' : xs.length = ys.length) :
    Calls Try.prog 82 #[va, vb] w fun e w' => e = .returned (.int .i64 (lexI xs ys)) ∧ w' = w := by
  obtain ⟨a, cap, rfl, hl, hb, hc⟩ := h
  obtain ⟨a', cap', rfl, hl1, hb', hc'⟩ := h'
  unfold maxLen at hl hl1
  clear hb hb'
  have HE := Lib.hid hl'
  have hle : xs.length ≤ ys.length := by omega
  have hge : ys.length ≤ xs.length := by omega
  clear hl'
  go_enter Try.func82, Try.ntmps82
  go_wp2
  go_loop [11] (fun i => ∃ k : Nat, k ≤ xs.length ∧ i = .int .i64 k ∧ lexI (xs.take k) (ys.take k) = 0) (fun i => xs.length - (intOf i).toNat)
  case atStart => exact ⟨0, Nat.zero_le _, rfl, by simp [lexI]⟩
  case round =>
    obtain ⟨k, hk, rfl, ha⟩ := hrel
    have HA := Lib.hid ha
    clear ha
    by_cases hlt : k < xs.length
    · have hlt' : k < ys.length := by omega
      have HS := Lib.hid (lexI_snoc xs ys k hlt hlt' HA.out)
      have HT := Lib.hid (lexI_at xs ys k hlt hlt' HA.out)
      obtain ⟨b, off, rfl, hx⟩ := Ints.at hc hlt
      obtain ⟨b', off', rfl, hx'⟩ := Ints.at hc' hlt'
      have h1 : (k : Int) < (xs.length : Int) := by omega
      have h2 : (k : Int) < (ys.length : Int) := by omega
      clear hc hc'
      generalize xs[k]?.getD 0 = x at *
      generalize ys[k]?.getD 0 = y at *
      by_cases hp : orderI x y = 0
      · have HP := Lib.hid hp
        have h3 : (orderI x y != 0) = false := by simp [hp]
        clear hp
        go_wp2_with (go_at_call 102; refine (cmp_any _ _ _).mono ?_; rintro e w' ⟨rfl, rfl⟩)
        go_round
        case rel => exact ⟨k + 1, by omega, by go_num, by rw [HS.out, HP.out]⟩
        case measure => simp [intOf]; omega
      · have HP := Lib.hid hp
        have h3 : (orderI x y != 0) = true := by simp [hp]
        clear hp
        go_wp2_with (go_at_call 102; refine (cmp_any _ _ _).mono ?_; rintro e w' ⟨rfl, rfl⟩)
        go_ret
        exact ⟨ret_int (HT.out HP.out).symm, rfl⟩
    · clear hc hc'
      go_wp2
      go_ret
      exact ⟨ret_int (by have ha := HA.out; rw [List.take_of_length_le (by omega), List.take_of_length_le (by have := HE.out; omega)] at ha; rw [ha]), rfl⟩

theorem equal_any (va vb : Value) (xs ys : List Int) (w : World) (h : Ints w va xs) (h' : Ints w vb ys) :
    Calls Try.prog 73 #[va, vb] w fun e w' => e = .returned (.bool (xs == ys)) ∧ Drew w w' := by
  obtain ⟨a, cap, rfl, hl, hb, hc⟩ := h
  obtain ⟨a', cap', rfl, hl1, hb', hc'⟩ := h'
  unfold maxLen at hl hl1
  clear hb hb'
  by_cases h3 : xs.length = ys.length
  · have H3 := Lib.hid h3
    have h4 : ((xs.length : Int) != (ys.length : Int)) = false := by simp [h3]
    have hle : xs.length ≤ ys.length := by omega
    clear h3
    go_enter Try.func73, Try.ntmps73
    go_wp2_with fail
    go_loopw [13] (fun i wr => ∃ k n : Nat, k ≤ xs.length ∧ i = .int .i64 k ∧ Hid (xs.take k = ys.take k) ∧ wr = w.drewN n) (fun i _ => xs.length - (intOf i).toNat)
    case atStart => exact ⟨0, 0, Nat.zero_le _, rfl, Lib.hid (by simp), rfl⟩
    case round =>
      obtain ⟨k, n, hk, rfl, HA, rfl⟩ := hrel
      by_cases hlt : k < xs.length
      · have hlt' : k < ys.length := by omega
        have HX := Lib.hid (take_snoc' xs k hlt)
        have HY := Lib.hid (take_snoc' ys k hlt')
        obtain ⟨b, off, rfl, hx⟩ := Ints.at hc hlt
        obtain ⟨b', off', rfl, hx'⟩ := Ints.at hc' hlt'
        have h1 : (k : Int) < (xs.length : Int) := by omega
        have h2 : (k : Int) < (ys.length : Int) := by omega
        have HN : Hid (xs[k]?.getD 0 ≠ ys[k]?.getD 0 → (xs == ys) = false) := Lib.hid (by intro hne; rw [beq_eq_false_iff_ne]; intro e; exact hne (by rw [e]))
        clear hc hc'
        generalize xs[k]?.getD 0 = x at *
        generalize ys[k]?.getD 0 = y at *
        by_cases hp : x = y
        · have h3 : (x != y) = false := by simp [hp]
          have HP := Lib.hid hp
          clear hp
          go_wp2_with fail
          go_quiet (fail)
          go_wp2_with fail
          go_roundw
          case rel => exact ⟨k + 1, _, by omega, by go_num, Lib.hid (by rw [HX.out, HY.out, HA.out, HP.out]), rfl⟩
          case measure => simp [intOf]; omega
        · have h3 : (x != y) = true := by simpa using hp
          have HP := Lib.hid hp
          clear hp
          go_wp2_with fail
          go_quiet (fail)
          go_wp2_with fail
          go_ret
          exact ⟨ret_bool (HN.out HP.out).symm, (Drew.mk _ _).trans (Drew.mk _ _)⟩
      · clear hc hc'
        go_wp2_with fail
        go_ret
        exact ⟨ret_bool (by have h := HA.out; have h3 := H3.out; rw [List.take_of_length_le (by omega), List.take_of_length_le (by omega)] at h; rw [h]; simp), Drew.mk _ _⟩
  · have h4 : ((xs.length : Int) != (ys.length : Int)) = true := by simp; omega
    have H3 := Lib.hid h3
    clear h3 hc hc'
    go_enter Try.func73, Try.ntmps73
    go_wp2_with fail
    go_ret
    exact ⟨ret_bool (by symm; rw [beq_eq_false_iff_ne]; intro e; exact H3.out (by rw [e])), Drew.refl _⟩

theorem lexI_neg : ∀ a b : List Int, lexI b a = -lexI a b
  | [], [] => by simp [lexI]
  | [], _ :: _ => by simp [lexI]
  | _ :: _, [] => by simp [lexI]
  | x :: xs, y :: ys => by
    have := lexI_neg xs ys
    unfold lexI
    split <;> split <;> first | omega | (split <;> omega) | skip
theorem lexI_range : ∀ a b : List Int, lexI a b = -1 ∨ lexI a b = 0 ∨ lexI a b = 1
  | [], [] => by simp [lexI]
  | [], _ :: _ => by simp [lexI]
  | _ :: _, [] => by simp [lexI]
  | x :: xs, y :: ys => by
    have := lexI_range xs ys
    unfold lexI
    split
    · omega
    · split <;> omega
theorem compareI_neg (a b : List Int) : compareI b a = -compareI a b := by
  have := lexI_neg a b
  unfold compareI
  split <;> split <;> first | omega | (split <;> omega) | skip
theorem lexI_trans : ∀ a b c : List Int, a.length = b.length → b.length = c.length → lexI a b ≤ 0 → lexI b c ≤ 0 → lexI a c ≤ 0
  | [], [], [], _, _, _, _ => by simp [lexI]
  | x :: xs, y :: ys, z :: zs, h, h', h1, h2 => by
    have := lexI_trans xs ys zs (by simpa using h) (by simpa using h')
    unfold lexI at h1 h2 ⊢
    split at h1 <;> split at h2 <;> split <;> first | omega | (split at h1 <;> first | omega | (split at h2 <;> first | omega | (split <;> first | omega | (apply this <;> omega)))) | (split at h2 <;> first | omega | (split <;> omega)) | (split at h1 <;> first | omega | (split <;> omega))
theorem cmp_trans (a b c : List Int) (h : compareI a b ≤ 0) : compareI b c ≤ 0 → compareI a c ≤ 0 := by
  intro h'
  have := lexI_trans a b c
  unfold compareI at h h' ⊢
  split
  · omega
  · split
    · split at h <;> split at h' <;> first | omega | (split at h <;> first | omega | (split at h' <;> omega)) | (split at h' <;> omega)
    · apply this
      all_goals (split at h <;> split at h' <;> first | omega | (split at h <;> first | omega | (split at h' <;> omega)) | (split at h' <;> omega))

end Go.Proofs.Ytgdnlibklopdiaa
