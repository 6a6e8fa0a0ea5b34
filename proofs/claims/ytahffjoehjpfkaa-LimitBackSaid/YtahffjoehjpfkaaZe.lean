/- limit: vectors equal but for one element, and the functions of the two sides. -/
import Derived.Test.YtahffjoehjpfkaaZd
namespace Go.Proofs.Ytahffjoehjpfkaa
open Go.RowKit
set_option linter.unusedVariables false

def onlyL (n : Nat) (most : Int) (i : Nat) (x : Int) : List Int := (List.replicate n most).set i x
set_option maxHeartbeats 1000000 in
theorem only_any (n i : Nat) (most x : Int) (w : World) (hn : n ≤ 1000) (hi : i < n) :
    Calls Try.prog 49 #[.int .i64 n, .int .i64 most, .int .i64 i, .int .i64 x] w (Made (onlyL n most i x) w) := by
  go_enter Try.func49, Try.ntmps49
  go_wp2_with (at_make; refine make_int rfl _ _ rfl n rfl rfl (by omega) ?_)
  intro w1 ho hg
  have HO := Lib.hid ho; have HG1 := Lib.hid hg
  clear ho hg
  go_wp2_with fail
  go_loopw [15] (fun i wr => ∃ (k : Nat) (zs : List Int), i = .int .i64 k ∧ k ≤ n ∧ Hid (zs.length = n ∧ zs.take k = List.replicate k most) ∧ Hid (OwnI wr w.heap.size (.slice (some ⟨w.heap.size, 0, none⟩) n n) zs) ∧ Hid (w.grownBy wr none)) (fun i _ => n - (intOf i).toNat)
  case atStart => exact ⟨0, _, rfl, Nat.zero_le _, Lib.hid ⟨by simp, by simp⟩, HO, HG1⟩
  case round =>
    clear HO HG1
    obtain ⟨k, zs, rfl, hk, hz, ho, hg⟩ := hrel
    by_cases hlt : k < n
    · have h1 : (k : Int) < (n : Int) := by omega
      have i1 : IntKind.i64.wrap ((k : Int) + 1) = (k : Int) + 1 := IntWalk.i64_in _ (by omega)
      obtain ⟨hcell, hfr⟩ := ho.out.cell k (by have := hz.out.1; omega)
      go_wp2_with fail
      go_roundw
      case rel => exact ⟨k + 1, zs.set k most, by go_num, by omega, Lib.hid ⟨by simp; exact hz.out.1, by
        have h2 := hz.out.2
        have h3 := hz.out.1
        rw [List.take_succ_eq_append_getElem (by simp; omega), List.take_set_of_le (by omega), h2, List.replicate_succ']
        simp⟩, Lib.hid (ho.out.stored k _), Lib.hid (grown_then hg.out (grown_set _ _ _) (by rintro j ⟨⟩; exact .inl (Nat.le_refl _)))⟩
      case measure => (simp [intOf]; try omega)
    · have hq : zs = List.replicate n most := by
        have h1 := hz.out.2
        have h2 := hz.out.1
        obtain rfl : k = n := by omega
        rwa [List.take_of_length_le (by omega)] at h1
      subst hq
      have h1 : ¬ (k : Int) < (n : Int) := by omega
      have h2 : (i : Int) < (n : Int) := by omega
      obtain ⟨hcell, hfr⟩ := ho.out.cell i (by simp; exact hi)
      go_wp2_with fail
      go_ret
      exact ⟨_, rfl, ho.out.stored i x, grown_then hg.out (grown_set _ _ _) (by rintro j ⟨⟩; exact .inl (Nat.le_refl _))⟩
theorem esc_down (v : Value) (xs : List Int) (i : Nat) (w : World) (h : Ints w v xs) (hi : i < xs.length) (hl : xs.length ≤ 1000) (hx : 0 ≤ xs[i]?.getD 0 ∧ xs[i]?.getD 0 ≤ 1099511627776) :
    Calls Try.prog 55 #[v, .int .i64 i] w (Made (onlyL xs.length 0 i (xs[i]?.getD 0 + 1)) w) := by
  obtain ⟨a, cap, rfl, -, -, hc⟩ := h
  obtain ⟨b, off, rfl, hcell⟩ := Ints.at hc hi
  have h1 : (i : Int) < (xs.length : Int) := by omega
  have HB := Lib.hid (only_any xs.length i 0 (xs[i]?.getD 0 + 1) w hl hi)
  obtain ⟨hx0, hx1⟩ := hx
  clear hc
  generalize xs[i]?.getD 0 = x at *
  have i1 : IntKind.i64.wrap (x + 1) = x + 1 := IntWalk.i64_in _ (by omega)
  go_enter Try.func55, Try.ntmps55
  go_wp2_with fail
  refine HB.out.mono ?_
  rintro e w' ⟨u, rfl, ho, hg⟩
  have HO := Lib.hid ho; have HG := Lib.hid hg
  clear ho hg
  go_wp2_with fail
  go_ret
  exact ⟨_, rfl, HO.out, HG.out⟩
theorem esc_up (v : Value) (xs : List Int) (i : Nat) (w : World) (h : Ints w v xs) (hi : i < xs.length) (hl : xs.length ≤ 1000) (hx : 0 ≤ xs[i]?.getD 0 ∧ xs[i]?.getD 0 ≤ 1099511627776) :
    Calls Try.prog 48 #[v, .int .i64 i] w (Made (onlyL xs.length 1099511627776 i (xs[i]?.getD 0 - 1)) w) := by
  obtain ⟨a, cap, rfl, -, -, hc⟩ := h
  obtain ⟨b, off, rfl, hcell⟩ := Ints.at hc hi
  have h1 : (i : Int) < (xs.length : Int) := by omega
  have HB := Lib.hid (only_any xs.length i 1099511627776 (xs[i]?.getD 0 - 1) w hl hi)
  obtain ⟨hx0, hx1⟩ := hx
  clear hc
  generalize xs[i]?.getD 0 = x at *
  have i1 : IntKind.i64.wrap (x - 1) = x - 1 := IntWalk.i64_in _ (by omega)
  go_enter Try.func48, Try.ntmps48
  go_wp2_with fail
  refine HB.out.mono ?_
  rintro e w' ⟨u, rfl, ho, hg⟩
  have HO := Lib.hid ho; have HG := Lib.hid hg
  clear ho hg
  go_wp2_with fail
  go_ret
  exact ⟨_, rfl, HO.out, HG.out⟩
theorem beg_down (n : Nat) (w : World) (hn : n ≤ 1000) (h1 : 1 ≤ n) :
    Calls Try.prog 57 #[.int .i64 n] w (Made (List.replicate n 1099511627776) w) := by
  have HB := Lib.hid (only_any n 0 1099511627776 1099511627776 w hn (by omega))
  go_enter Try.func57, Try.ntmps57
  go_wp2_with fail
  refine HB.out.mono ?_
  rintro e w' ⟨u, rfl, ho, hg⟩
  have HO : Hid (OwnI w' w.heap.size u (List.replicate n 1099511627776)) := Lib.hid (by
    have : onlyL n 1099511627776 0 1099511627776 = List.replicate n 1099511627776 := by
      unfold onlyL
      cases n with
      | zero => rfl
      | succ n => simp [List.replicate_succ]
    rwa [this] at ho)
  have HG := Lib.hid hg
  clear ho hg
  go_wp2_with fail
  go_ret
  exact ⟨_, rfl, HO.out, HG.out⟩
theorem beg_up (n : Nat) (w : World) (hn : n ≤ 1000) (h1 : 1 ≤ n) :
    Calls Try.prog 51 #[.int .i64 n] w (Made (List.replicate n 0) w) := by
  have HB := Lib.hid (only_any n 0 0 0 w hn (by omega))
  go_enter Try.func51, Try.ntmps51
  go_wp2_with fail
  refine HB.out.mono ?_
  rintro e w' ⟨u, rfl, ho, hg⟩
  have HO : Hid (OwnI w' w.heap.size u (List.replicate n 0)) := Lib.hid (by
    have : onlyL n 0 0 0 = List.replicate n 0 := by
      unfold onlyL
      cases n with
      | zero => rfl
      | succ n => simp [List.replicate_succ]
    rwa [this] at ho)
  have HG := Lib.hid hg
  clear ho hg
  go_wp2_with fail
  go_ret
  exact ⟨_, rfl, HO.out, HG.out⟩
theorem bnd_down (x : Int) (w : World) : Calls Try.prog 56 #[.int .i64 x] w fun e w' => e = .returned (.bool (x != 1099511627776)) ∧ w' = w := by
  go_enter Try.func56, Try.ntmps56
  go_wp2_with fail
  go_ret
  exact ⟨rfl, rfl⟩
theorem bnd_up (x : Int) (w : World) : Calls Try.prog 50 #[.int .i64 x] w fun e w' => e = .returned (.bool (x != 0)) ∧ w' = w := by
  go_enter Try.func50, Try.ntmps50
  go_wp2_with fail
  go_ret
  exact ⟨rfl, rfl⟩
theorem ord_down (va vb : Value) (xs ys : List Int) (w : World) (h : Ints w va xs) (h' : Ints w vb ys) :
    Calls Try.prog 52 #[va, vb] w fun e w' => e = .returned (.int .i64 (compareI ys xs)) ∧ w' = w := by
  have HB := Lib.hid (compare_any vb va ys xs w h' h)
  obtain ⟨a, cap, rfl, -⟩ := h
  obtain ⟨a', cap', rfl, -⟩ := h'
  go_enter Try.func52, Try.ntmps52
  go_wp2_with fail
  refine HB.out.mono ?_
  rintro e w' ⟨rfl, rfl⟩
  go_wp2_with fail
  go_ret
  exact ⟨rfl, rfl⟩
set_option maxRecDepth 100000 in
theorem within_up (va vb : Value) (xs ys : List Int) (w : World) (h : Ints w va xs) (h' : Ints w vb ys) (hl : xs.length = ys.length) :
    Calls Try.prog 43 #[va, vb] w fun e w' => e = .returned (.bool (leqI ys xs)) ∧ w' = w := by
  have HB := Lib.hid (lim_atMost vb va ys xs w h' h hl.symm)
  clear hl
  obtain ⟨a, cap, rfl, -⟩ := h
  obtain ⟨a', cap', rfl, -⟩ := h'
  go_enter Try.func43, Try.ntmps43
  go_wp2_with fail
  refine HB.out.mono ?_
  rintro e w' ⟨rfl, rfl⟩
  go_wp2_with fail
  go_ret
  exact ⟨rfl, rfl⟩
theorem ov_down (va vb : Value) (xs ys : List Int) (w : World) (h : Ints w va xs) (h' : Ints w vb ys) (hl : xs.length = ys.length) (hm : xs.length ≤ 1000) :
    Calls Try.prog 53 #[va, vb] w (Made (List.zipWith min xs ys) w) := by
  have HB := Lib.hid (combine_min va vb xs ys w h h' hl hm)
  clear hl hm
  obtain ⟨a, cap, rfl, -⟩ := h
  obtain ⟨a', cap', rfl, -⟩ := h'
  go_enter Try.func53, Try.ntmps53
  go_wp2_with fail
  refine HB.out.mono ?_
  rintro e w' ⟨u, rfl, ho, hg⟩
  have HO := Lib.hid ho; have HG := Lib.hid hg
  clear ho hg
  go_wp2_with fail
  go_ret
  exact ⟨_, rfl, HO.out, HG.out⟩
theorem ov_up (va vb : Value) (xs ys : List Int) (w : World) (h : Ints w va xs) (h' : Ints w vb ys) (hl : xs.length = ys.length) (hm : xs.length ≤ 1000) :
    Calls Try.prog 45 #[va, vb] w (Made (List.zipWith max xs ys) w) := by
  have HB := Lib.hid (combine_max va vb xs ys w h h' hl hm)
  clear hl hm
  obtain ⟨a, cap, rfl, -⟩ := h
  obtain ⟨a', cap', rfl, -⟩ := h'
  go_enter Try.func45, Try.ntmps45
  go_wp2_with fail
  refine HB.out.mono ?_
  rintro e w' ⟨u, rfl, ho, hg⟩
  have HO := Lib.hid ho; have HG := Lib.hid hg
  clear ho hg
  go_wp2_with fail
  go_ret
  exact ⟨_, rfl, HO.out, HG.out⟩
end Go.Proofs.Ytahffjoehjpfkaa
