/- Contracts of the reference of layer 1: comparing. -/
import Derived.Test.YtahffjoehjpfkaaRows
import Derived.Test.YtahffjoehjpfkaaGl
namespace Go.Proofs.Ytahffjoehjpfkaa
open Go.RowKit
set_option linter.unusedVariables false

theorem order_any (x y : Int) (w : World) :
    Calls Try.prog 74 #[.int .i64 x, .int .i64 y] w fun e w' => e = .returned (.int .i64 (orderI x y)) ∧ w' = w := by
  by_cases h1 : x < y
  · go_enter Try.func74, Try.ntmps74
    go_wp2
    go_ret
    exact ⟨ret_int (by unfold orderI; rw [if_pos (by omega)]), rfl⟩
  · by_cases h2 : y < x
    · go_enter Try.func74, Try.ntmps74
      go_wp2
      go_ret
      exact ⟨ret_int (by unfold orderI; rw [if_neg (by omega), if_pos (by omega)]), rfl⟩
    · go_enter Try.func74, Try.ntmps74
      go_wp2
      go_ret
      exact ⟨ret_int (by unfold orderI; rw [if_neg (by omega), if_neg (by omega)]), rfl⟩

theorem rcompare_any (va vb : Value) (xs ys : List Int) (w : World) (h : Ints w va xs) (h' : Ints w vb ys) :
    Calls Try.prog 42 #[va, vb] w fun e w' => e = .returned (.int .i64 (compareI xs ys)) ∧ Drew w w' := by
  obtain ⟨a, cap, rfl, hl, hb, hc⟩ := h
  obtain ⟨a', cap', rfl, hl1, hb', hc'⟩ := h'
  unfold maxLen at hl hl1
  clear hb hb'
  by_cases h3 : xs.length = ys.length
  · have H3 := Lib.hid h3
    have h4 : ((xs.length : Int) != (ys.length : Int)) = false := by simp [h3]
    have hle : xs.length ≤ ys.length := by omega
    have hge : ys.length ≤ xs.length := by omega
    clear h3
    go_enter Try.func42, Try.ntmps42
    go_wp2_with fail
    go_loopw [5] (fun i wr => ∃ k n : Nat, k ≤ xs.length ∧ i = .int .i64 k ∧ lexI (xs.take k) (ys.take k) = 0 ∧ wr = w.drewN n) (fun i _ => xs.length - (intOf i).toNat)
    case atStart => exact ⟨0, 0, Nat.zero_le _, rfl, by simp [lexI], rfl⟩
    case round =>
      obtain ⟨k, n, hk, rfl, ha, rfl⟩ := hrel
      have HA := Lib.hid ha
      clear ha
      by_cases hlt : k < xs.length
      · have hlt' : k < ys.length := by omega
        have HS := Lib.hid (lexI_snoc xs ys k hlt hlt' HA.out)
        have HT := Lib.hid (lexI_at xs ys k hlt hlt' HA.out)
        obtain ⟨b, off, rfl, hx⟩ := Ints.at hc hlt
        obtain ⟨b', off', rfl, hx'⟩ := Ints.at hc' hlt'
        have h1 : (k : Int) < (xs.length : Int) := by omega
        have h2 : (k : Int) < (ys.length : Int) := by omega
        clear hc hc'
        generalize xs[k]?.getD 0 = x at *
        generalize ys[k]?.getD 0 = y at *
        by_cases hp : x = y
        · have HP := Lib.hid (orderI_zero.2 hp)
          have h3 : (x != y) = false := by simp [hp]
          clear hp
          go_wp2_with fail
          go_quiet (fail)
          go_wp2_with fail
          go_roundw
          case rel => exact ⟨k + 1, _, by omega, by go_num, by rw [HS.out, HP.out], rfl⟩
          case measure => simp [intOf]; omega
        · have HP := Lib.hid (mt orderI_zero.1 hp)
          have h3 : (x != y) = true := by simp [hp]
          clear hp
          go_wp2_with fail
          go_quiet (fail)
          go_wp2_with fail
          go_quiet ((go_at_call 74; exact quiet_any (order_any _ _ _) (drew_ex _ _ _)))
          go_wp2_with fail
          go_ret
          exact ⟨ret_int (by rw [← HT.out HP.out]; have := H3.out; unfold compareI; rw [if_neg (by omega), if_neg (by omega)]), (Drew.mk _ _).trans ((Drew.mk _ _).trans (Drew.mk _ _))⟩
      · clear hc hc'
        go_wp2_with fail
        go_ret
        exact ⟨ret_int (by have ha := HA.out; have h3 := H3.out; rw [List.take_of_length_le (by omega), List.take_of_length_le (by omega)] at ha; unfold compareI; rw [if_neg (by omega), if_neg (by omega), ha]), Drew.mk _ _⟩
  · have H3 := Lib.hid h3
    have h4 : ((xs.length : Int) != (ys.length : Int)) = true := by simp; omega
    clear h3
    go_enter Try.func42, Try.ntmps42
    go_wp2_with (go_at_call 74; refine (order_any _ _ _).mono ?_; rintro e w' ⟨rfl, rfl⟩)
    go_ret
    exact ⟨ret_int (by have := H3.out; unfold compareI orderI; split <;> rename_i h6 <;> split <;> rename_i h7 <;> first | omega | (rw [if_pos (by omega)]) | (rw [if_neg (by omega), if_pos (by omega)])), Drew.refl _⟩

theorem same_any (va vb : Value) (xs ys : List Int) (w : World) (h : Ints w va xs) (h' : Ints w vb ys) :
    Calls Try.prog 24 #[va, vb] w fun e w' => e = .returned (.bool (xs == ys)) ∧ Drew w w' := by
  have H := Lib.hid h
  have H' := Lib.hid h'
  clear h h'
  go_enter Try.func24, Try.ntmps24
  go_wp2_with fail
  refine (rcompare_any _ _ _ _ _ H.out H'.out).mono ?_
  rintro e w' ⟨rfl, hd⟩
  go_wp2_with fail
  go_ret
  exact ⟨ret_bool (by rw [Bool.eq_iff_iff]; simp [compareI_zero]), hd⟩
end Go.Proofs.Ytahffjoehjpfkaa
