/- The reference of layer 12: leq, zeros. -/
import Derived.Test.YtgcfafjgaifmiaaFf
namespace Go.Proofs.Ytgcfafjgaifmiaa
open Go.ChangeShapes Go.WideShapes Go.ChangeAt Go.RowKit
set_option linter.unusedVariables false

theorem r12leq_any (va vb : Value) (xs ys : List Int) (w : World) (h : Ints w va xs) (h' : Ints w vb ys) (he : xs.length = ys.length) :
    Calls Try.prog 57 #[va, vb] w fun e w' => e = .returned (.bool (leqI xs ys)) ∧ Drew w w' := by
  rw [← atMost_is xs ys he]
  obtain ⟨a, cap, rfl, hl, hb, hc⟩ := h
  obtain ⟨a', cap', rfl, hl1, hb', hc'⟩ := h'
  unfold maxLen at hl hl1
  clear hb hb'
  have H3 := Lib.hid he
  have hle : xs.length ≤ ys.length := by omega
  clear he
  go_enter Try.func57, Try.ntmps57
  go_wp2_with fail
  go_loopw [5] (fun i wr => ∃ k n : Nat, k ≤ xs.length ∧ i = .int .i64 k ∧ atMostB (xs.take k) (ys.take k) = true ∧ wr = w.drewN n) (fun i _ => xs.length - (intOf i).toNat)
  case atStart => exact ⟨0, 0, Nat.zero_le _, rfl, by simp [atMostB], rfl⟩
  case round =>
    obtain ⟨k, n, hk, rfl, ha, rfl⟩ := hrel
    have HA := Lib.hid ha
    clear ha
    by_cases hlt : k < xs.length
    · have hlt' : k < ys.length := by omega
      have HS := Lib.hid (atMostB_split xs ys k hlt hlt')
      obtain ⟨b, off, rfl, hx⟩ := Ints.at hc hlt
      obtain ⟨b', off', rfl, hx'⟩ := Ints.at hc' hlt'
      have h1 : (k : Int) < (xs.length : Int) := by omega
      have h2 : (k : Int) < (ys.length : Int) := by omega
      clear hc hc'
      generalize xs[k]?.getD 0 = x at *
      generalize ys[k]?.getD 0 = y at *
      by_cases hp : x ≤ y
      · go_wp2_with fail
        go_quiet (fail)
        go_wp2_with fail
        go_roundw
        case rel => exact ⟨k + 1, _, by omega, by go_num, by rw [HS.out, HA.out]; simp [hp], rfl⟩
        case measure => simp [intOf]; omega
      · go_wp2_with fail
        go_quiet (fail)
        go_wp2_with fail
        go_ret
        exact ⟨ret_bool (atMostB_false xs ys (k + 1) (by omega) (by omega) (by rw [HS.out, HA.out]; simp; omega)).symm, (Drew.mk _ _).trans (Drew.mk _ _)⟩
    · clear hc hc'
      go_wp2_with fail
      go_ret
      exact ⟨ret_bool (by have ha := HA.out; have := H3.out; rw [List.take_of_length_le (by omega), List.take_of_length_le (by omega)] at ha; rw [ha]), Drew.mk _ _⟩
theorem r12zeros_any (n : Nat) (w : World) (hn : n ≤ 1000) :
    Calls Try.prog 42 #[.int .i64 (n : Int)] w fun e w' => ∃ v, e = .returned v ∧ OwnI w' w.heap.size v (zerosL n) ∧ w.grownBy w' none := by
  go_enter Try.func42, Try.ntmps42
  go_wp2_with (at_make; refine make_int rfl _ _ rfl n rfl rfl (by omega) ?_)
  intro w1 ho hg
  have HO := Lib.hid ho; have HG := Lib.hid hg
  clear ho hg
  go_wp2_with fail
  go_ret
  exact ⟨_, rfl, HO.out, HG.out⟩
/-- What the reference gathers is what the loop gathers. -/
theorem least_is {good : List Int → Bool} {c m : Nat} : ((vecs c m).filter good).filter (fun x => !(((vecs c m).filter good).any (fun y => decide (y ≠ x) && leqI y x))) = minL good (vecs c m) := by
  refine asc_ext (c := c) (fun v hv => ?_) (fun v hv => ?_) (((vecs_asc c m).sublist List.filter_sublist).sublist List.filter_sublist) (min_asc good c m) (fun x => ?_)
  · exact (vecs_nn c m v (List.mem_filter.1 (List.mem_filter.1 hv).1).1).1
  · exact (vecs_nn c m v (((minL_all (vecs_nn c m) (vecs_asc c m)).2 v).1 hv).1).1
  · rw [List.mem_filter, List.mem_filter, (minL_all (vecs_nn c m) (vecs_asc c m)).2 x]
    unfold MinOf
    rw [Bool.not_eq_true', List.any_eq_false]
    constructor
    · rintro ⟨⟨h1, h2⟩, h3⟩
      refine ⟨h1, h2, fun y hy hg hl => ?_⟩
      have := h3 y (List.mem_filter.2 ⟨hy, hg⟩)
      rw [hl, Bool.and_true] at this
      simpa using this
    · rintro ⟨h1, h2, h3⟩
      refine ⟨⟨h1, h2⟩, fun y hy => ?_⟩
      obtain ⟨hy1, hy2⟩ := List.mem_filter.1 hy
      intro hcon
      rw [Bool.and_eq_true, decide_eq_true_eq] at hcon
      exact hcon.1 (h3 y hy1 hy2 hcon.2)
end Go.Proofs.Ytgcfafjgaifmiaa
