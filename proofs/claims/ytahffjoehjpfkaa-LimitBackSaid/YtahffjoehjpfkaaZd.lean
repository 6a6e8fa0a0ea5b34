/- limit: vectors at most others, least and greatest elements. -/
import Derived.Test.YtahffjoehjpfkaaEv
import Derived.Test.YtahffjoehjpfkaaZb
import Derived.Test.YtahffjoehjpfkaaZc
import Derived.Lib.MinMax
namespace Go.Proofs.Ytahffjoehjpfkaa
open Go.RowKit
set_option linter.unusedVariables false

theorem atMost_isL : ∀ (x y : List Int), x.length = y.length → atMostB x y = leqI x y
  | [], _, _ => rfl
  | x :: xs, y :: ys, h => by
    show (decide (x ≤ y) && atMostB xs ys) = (decide (x ≤ y) && leqI xs ys)
    rw [atMost_isL xs ys (by simpa using h)]
theorem lim_atMost0 (va vb : Value) (xs ys : List Int) (w : World) (h : Ints w va xs) (h' : Ints w vb ys) (hl' : xs.length = ys.length) :
    Calls Try.prog 44 #[va, vb] w fun e w' => e = .returned (.bool (atMostB xs ys)) ∧ w' = w := by
  obtain ⟨a, cap, rfl, hl, hb, hc⟩ := h
  obtain ⟨a', cap', rfl, hl1, hb', hc'⟩ := h'
  unfold maxLen at hl hl1
  clear hb hb'
  have HE := Lib.hid hl'
  have hle : xs.length ≤ ys.length := by omega
  clear hl'
  go_enter Try.func44, Try.ntmps44
  go_wp2
  go_loop [9] (fun i => ∃ k : Nat, k ≤ xs.length ∧ i = .int .i64 k ∧ atMostB (xs.take k) (ys.take k) = true) (fun i => xs.length - (intOf i).toNat)
  case atStart => exact ⟨0, Nat.zero_le _, rfl, by simp [atMostB]⟩
  case round =>
    obtain ⟨k, hk, rfl, ha⟩ := hrel
    by_cases hlt : k < xs.length
    · have hlt' : k < ys.length := by omega
      have HS := Lib.hid (atMostB_split xs ys k hlt hlt')
      obtain ⟨b, off, rfl, hx⟩ := Ints.at hc hlt
      obtain ⟨b', off', rfl, hx'⟩ := Ints.at hc' hlt'
      have HA := Lib.hid ha
      have h1 : (k : Int) < (xs.length : Int) := by omega
      have h2 : (k : Int) < (ys.length : Int) := by omega
      clear ha hc hc'
      generalize xs[k]?.getD 0 = x at *
      generalize ys[k]?.getD 0 = y at *
      by_cases hp : x ≤ y
      · go_wp2
        go_round
        case rel => exact ⟨k + 1, by omega, by go_num, by rw [HS.out, HA.out]; simp [hp]⟩
        case measure => simp [intOf]; omega
      · go_wp2
        go_ret
        exact ⟨ret_bool (atMostB_false xs ys (k + 1) (by omega) (by omega) (by rw [HS.out, HA.out]; simp; omega)).symm, rfl⟩
    · clear hc hc'
      go_wp2
      go_ret
      exact ⟨ret_bool (by rw [List.take_of_length_le (by omega), List.take_of_length_le (by have := HE.out; omega)] at ha; rw [ha]), rfl⟩


theorem lim_atMost (va vb : Value) (xs ys : List Int) (w : World) (h : Ints w va xs) (h' : Ints w vb ys) (hl' : xs.length = ys.length) :
    Calls Try.prog 44 #[va, vb] w fun e w' => e = .returned (.bool (leqI xs ys)) ∧ w' = w :=
  (lim_atMost0 va vb xs ys w h h' hl').mono fun e w' ⟨he, hw⟩ => ⟨by rw [he, atMost_isL xs ys hl'], hw⟩
theorem min1_any (x y : Int) (w : World) :
    Calls Try.prog 54 #[.int .i64 x, .int .i64 y] w fun e w' => e = .returned (.int .i64 (min x y)) ∧ w' = w := by
  go_enter Try.func54, Try.ntmps54
  go_wp2_with fail
  go_ret
  exact ⟨rfl, rfl⟩
theorem max1_any (x y : Int) (w : World) :
    Calls Try.prog 47 #[.int .i64 x, .int .i64 y] w fun e w' => e = .returned (.int .i64 (max x y)) ∧ w' = w := by
  go_enter Try.func47, Try.ntmps47
  go_wp2_with fail
  go_ret
  exact ⟨rfl, rfl⟩

theorem combine_min (va vb : Value) (xs ys : List Int) (w : World) (h : Ints w va xs) (h' : Ints w vb ys) (hl' : xs.length = ys.length) (hm : xs.length ≤ 1000) :
    Calls Try.prog 46 #[va, vb, .func (.func 54) #[] #[]] w (Made (List.zipWith min xs ys) w) := by
  have HI := Lib.hid h; have HI' := Lib.hid h'
  obtain ⟨a, cap, rfl, hl, hb, hc⟩ := h
  obtain ⟨a', cap', rfl, hl1, hb', hc'⟩ := h'
  unfold maxLen at hl hl1
  clear hb hb' hc hc'
  have HE := Lib.hid hl'
  have hle : xs.length ≤ ys.length := by omega
  clear hl'
  go_enter Try.func46, Try.ntmps46
  go_wp2_with (at_make; refine make_int rfl _ _ rfl xs.length rfl rfl (by omega) ?_)
  intro w1 ho hg
  have HO := Lib.hid ho; have HG1 := Lib.hid hg
  clear ho hg
  go_wp2_with fail
  go_loopw [15] (fun i wr => ∃ (k : Nat) (zs : List Int), i = .int .i64 k ∧ k ≤ xs.length ∧ Hid (zs.length = xs.length ∧ zs.take k = (List.zipWith min xs ys).take k) ∧ Hid (OwnI wr w.heap.size (.slice (some ⟨w.heap.size, 0, none⟩) xs.length xs.length) zs) ∧ Hid (w.grownBy wr none)) (fun i _ => xs.length - (intOf i).toNat)
  case atStart => exact ⟨0, _, rfl, Nat.zero_le _, Lib.hid ⟨by simp, by simp⟩, HO, HG1⟩
  case round =>
    obtain ⟨k, zs, rfl, hk, hz, ho, hg⟩ := hrel
    by_cases hlt : k < xs.length
    · have hlt' : k < ys.length := by omega
      obtain ⟨_, _, hv, _, _, hc⟩ := HI.out.same hg.out
      simp only [Value.slice.injEq] at hv
      obtain ⟨rfl, -, -⟩ := hv
      obtain ⟨_, _, hv, _, _, hc'⟩ := HI'.out.same hg.out
      simp only [Value.slice.injEq] at hv
      obtain ⟨rfl, -, -⟩ := hv
      obtain ⟨b, off, rfl, hx⟩ := Ints.at hc hlt
      obtain ⟨b', off', rfl, hx'⟩ := Ints.at hc' hlt'
      have HZ := Lib.hid (zip_at min xs ys k hlt hlt')
      have h1 : (k : Int) < (xs.length : Int) := by omega
      have h2 : (k : Int) < (ys.length : Int) := by omega
      obtain ⟨hcell, hfr⟩ := ho.out.cell k (by have := hz.out.1; omega)
      clear hc hc'
      generalize xs[k]?.getD 0 = x at *
      generalize ys[k]?.getD 0 = y at *
      go_wp2_with (go_at_call 54; refine (min1_any _ _ _).mono ?_; rintro e w' ⟨rfl, rfl⟩)
      go_roundw
      case rel => exact ⟨k + 1, zs.set k (min x y), by go_num, by omega, Lib.hid ⟨by simp; exact hz.out.1, by rw [← HZ.out]; exact set_take zs _ k (by have := hz.out.1; simp; omega) (by simp; omega) hz.out.2⟩, Lib.hid (ho.out.stored k _), Lib.hid (grown_then hg.out (grown_set _ _ _) (by rintro j ⟨⟩; exact .inl (Nat.le_refl _)))⟩
      case measure => simp [intOf]; omega
    · go_wp2_with fail
      go_ret
      have hq : zs = List.zipWith min xs ys := by
        have h1 := hz.out.2
        have h2 := hz.out.1
        have h3 := HE.out
        rwa [List.take_of_length_le (by omega), List.take_of_length_le (by simp; omega)] at h1
      exact ⟨_, rfl, hq ▸ ho.out, hg.out⟩


theorem combine_max (va vb : Value) (xs ys : List Int) (w : World) (h : Ints w va xs) (h' : Ints w vb ys) (hl' : xs.length = ys.length) (hm : xs.length ≤ 1000) :
    Calls Try.prog 46 #[va, vb, .func (.func 47) #[] #[]] w (Made (List.zipWith max xs ys) w) := by
  have HI := Lib.hid h; have HI' := Lib.hid h'
  obtain ⟨a, cap, rfl, hl, hb, hc⟩ := h
  obtain ⟨a', cap', rfl, hl1, hb', hc'⟩ := h'
  unfold maxLen at hl hl1
  clear hb hb' hc hc'
  have HE := Lib.hid hl'
  have hle : xs.length ≤ ys.length := by omega
  clear hl'
  go_enter Try.func46, Try.ntmps46
  go_wp2_with (at_make; refine make_int rfl _ _ rfl xs.length rfl rfl (by omega) ?_)
  intro w1 ho hg
  have HO := Lib.hid ho; have HG1 := Lib.hid hg
  clear ho hg
  go_wp2_with fail
  go_loopw [15] (fun i wr => ∃ (k : Nat) (zs : List Int), i = .int .i64 k ∧ k ≤ xs.length ∧ Hid (zs.length = xs.length ∧ zs.take k = (List.zipWith max xs ys).take k) ∧ Hid (OwnI wr w.heap.size (.slice (some ⟨w.heap.size, 0, none⟩) xs.length xs.length) zs) ∧ Hid (w.grownBy wr none)) (fun i _ => xs.length - (intOf i).toNat)
  case atStart => exact ⟨0, _, rfl, Nat.zero_le _, Lib.hid ⟨by simp, by simp⟩, HO, HG1⟩
  case round =>
    obtain ⟨k, zs, rfl, hk, hz, ho, hg⟩ := hrel
    by_cases hlt : k < xs.length
    · have hlt' : k < ys.length := by omega
      obtain ⟨_, _, hv, _, _, hc⟩ := HI.out.same hg.out
      simp only [Value.slice.injEq] at hv
      obtain ⟨rfl, -, -⟩ := hv
      obtain ⟨_, _, hv, _, _, hc'⟩ := HI'.out.same hg.out
      simp only [Value.slice.injEq] at hv
      obtain ⟨rfl, -, -⟩ := hv
      obtain ⟨b, off, rfl, hx⟩ := Ints.at hc hlt
      obtain ⟨b', off', rfl, hx'⟩ := Ints.at hc' hlt'
      have HZ := Lib.hid (zip_at max xs ys k hlt hlt')
      have h1 : (k : Int) < (xs.length : Int) := by omega
      have h2 : (k : Int) < (ys.length : Int) := by omega
      obtain ⟨hcell, hfr⟩ := ho.out.cell k (by have := hz.out.1; omega)
      clear hc hc'
      generalize xs[k]?.getD 0 = x at *
      generalize ys[k]?.getD 0 = y at *
      go_wp2_with (go_at_call 47; refine (max1_any _ _ _).mono ?_; rintro e w' ⟨rfl, rfl⟩)
      go_roundw
      case rel => exact ⟨k + 1, zs.set k (max x y), by go_num, by omega, Lib.hid ⟨by simp; exact hz.out.1, by rw [← HZ.out]; exact set_take zs _ k (by have := hz.out.1; simp; omega) (by simp; omega) hz.out.2⟩, Lib.hid (ho.out.stored k _), Lib.hid (grown_then hg.out (grown_set _ _ _) (by rintro j ⟨⟩; exact .inl (Nat.le_refl _)))⟩
      case measure => simp [intOf]; omega
    · go_wp2_with fail
      go_ret
      have hq : zs = List.zipWith max xs ys := by
        have h1 := hz.out.2
        have h2 := hz.out.1
        have h3 := HE.out
        rwa [List.take_of_length_le (by omega), List.take_of_length_le (by simp; omega)] at h1
      exact ⟨_, rfl, hq ▸ ho.out, hg.out⟩


end Go.Proofs.Ytahffjoehjpfkaa
