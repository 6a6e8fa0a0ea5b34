/- Contracts of package vector: check, Add, Sub, Max, Min. -/
import Derived.Test.YtaolnlnjgoakdaaC
namespace Go.Proofs.Ytaolnlnjgoakdaa
open Go.RowKit
set_option linter.unusedVariables false

/-- A vector and an error that a call gives. -/
def Gives (r : Int × List Int) (w : World) (e : Ending) (w' : World) : Prop := ∃ v, e = .returned (.tuple #[v, .int .i64 r.1]) ∧ OwnI w' w.heap.size v r.2 ∧ w.grownBy w' none

def checkI (a b : List Int) : Int := if !validB a || !validB b then 2 else if a.length = b.length then 0 else 3
def addR (a b : List Int) : Int × List Int := if checkI a b ≠ 0 then (checkI a b, []) else if validB (List.zipWith addI a b) then (0, List.zipWith addI a b) else (1, [])
def maxR (a b : List Int) : Int × List Int := if checkI a b ≠ 0 then (checkI a b, []) else (0, List.zipWith max a b)
def minR (a b : List Int) : Int × List Int := if checkI a b ≠ 0 then (checkI a b, []) else (0, List.zipWith min a b)
def subR (a b : List Int) : Int × List Int := if !validB a || !finiteB b then (2, []) else if a.length ≠ b.length then (3, []) else if atMostB b a then (0, List.zipWith subI a b) else (11, [])

theorem validB_le {xs : List Int} (h : validB xs = true) : xs.length ≤ 6 ∧ ∀ x ∈ xs, 0 ≤ x ∧ x ≤ 1099511627776 := by
  unfold validB at h
  rw [Bool.and_eq_true, List.all_eq_true] at h
  refine ⟨by simpa using h.1, fun x hx => ?_⟩
  have := h.2 x hx
  unfold elemB numB at this
  simp at this
  omega
theorem finiteB_le {xs : List Int} (h : finiteB xs = true) : xs.length ≤ 6 ∧ ∀ x ∈ xs, 0 ≤ x ∧ x ≤ 1048576 := by
  unfold finiteB at h
  rw [Bool.and_eq_true, List.all_eq_true] at h
  refine ⟨by simpa using h.1, fun x hx => ?_⟩
  have := h.2 x hx
  unfold numB at this
  simpa using this
theorem checkI_zero {a b : List Int} (h : checkI a b = 0) : validB a = true ∧ validB b = true ∧ a.length = b.length := by
  unfold checkI at h
  split at h
  · omega
  · rename_i h1
    split at h
    · rename_i h2
      simp at h1
      exact ⟨h1.1, h1.2, h2⟩
    · omega

theorem check_any (va vb : Value) (xs ys : List Int) (w : World) (h : Ints w va xs) (h' : Ints w vb ys) :
    Calls Try.prog 41 #[va, vb] w fun e w' => e = .returned (.int .i64 (checkI xs ys)) ∧ w' = w := by
  have H := Lib.hid h; have H' := Lib.hid h'
  obtain ⟨a, cap, rfl, hl, _, _⟩ := h
  obtain ⟨a', cap', rfl, hl1, _, _⟩ := h'
  unfold maxLen at hl hl1
  cases h1 : validB xs
  · go_enter Try.func41, Try.ntmps41
    go_wp2_with (go_at_call 13; refine (valid_any _ _ _ H.out).mono ?_; rintro e w' ⟨rfl, rfl⟩)
    go_ret
    exact ⟨ret_int (by simp [checkI, h1]), rfl⟩
  cases h2 : validB ys
  · go_enter Try.func41, Try.ntmps41
    go_wp2_with fail
    refine (valid_any _ _ _ H.out).mono ?_; rintro e w' ⟨rfl, rfl⟩
    go_wp2_with fail
    refine (valid_any _ _ _ H'.out).mono ?_; rintro e w' ⟨rfl, rfl⟩
    go_wp2_with fail
    go_ret
    exact ⟨ret_int (by simp [checkI, h2]), rfl⟩
  by_cases h3 : xs.length = ys.length
  · have H3 := Lib.hid h3
    have h4 : ((xs.length : Int) != (ys.length : Int)) = false := by simp [h3]
    clear h3
    go_enter Try.func41, Try.ntmps41
    go_wp2_with fail
    refine (valid_any _ _ _ H.out).mono ?_; rintro e w' ⟨rfl, rfl⟩
    go_wp2_with fail
    refine (valid_any _ _ _ H'.out).mono ?_; rintro e w' ⟨rfl, rfl⟩
    go_wp2_with fail
    go_ret
    exact ⟨ret_int (by simp [checkI, h1, h2, H3.out]), rfl⟩
  · have h4 : ((xs.length : Int) != (ys.length : Int)) = true := by simp; omega
    have H3 := Lib.hid h3
    clear h3
    go_enter Try.func41, Try.ntmps41
    go_wp2_with fail
    refine (valid_any _ _ _ H.out).mono ?_; rintro e w' ⟨rfl, rfl⟩
    go_wp2_with fail
    refine (valid_any _ _ _ H'.out).mono ?_; rintro e w' ⟨rfl, rfl⟩
    go_wp2_with fail
    go_ret
    exact ⟨ret_int (by simp [checkI, h1, h2, H3.out]), rfl⟩

theorem zip_bd (f : Int → Int → Int) (P Q R : Int → Prop) (hf : ∀ x y, P x → Q y → R (f x y)) : ∀ xs ys : List Int, (∀ x ∈ xs, P x) → (∀ y ∈ ys, Q y) → ∀ z ∈ List.zipWith f xs ys, R z
  | [], _, _, _ => by simp
  | _ :: _, [], _, _ => by simp
  | x :: xs, y :: ys, h, h' => by
    intro z hz
    simp only [List.zipWith_cons_cons, List.mem_cons] at hz
    rcases hz with rfl | hz
    · exact hf _ _ (h x (by simp)) (h' y (by simp))
    · exact zip_bd f P Q R hf xs ys (fun a ha => h a (by simp [ha])) (fun a ha => h' a (by simp [ha])) z hz

theorem Gives.nil (c : Int) (w w' : World) (g : w.grownBy w' none) : Gives (c, []) w (.returned (.tuple #[.slice none 0 0, .int .i64 c])) w' := ⟨_, rfl, OwnI.nil _ _, g⟩

theorem add_any (va vb : Value) (xs ys : List Int) (w : World) (h : Ints w va xs) (h' : Ints w vb ys) :
    Calls Try.prog 21 #[va, vb] w (Gives (addR xs ys) w) := by
  have H := Lib.hid h; have H' := Lib.hid h'
  clear h h'
  by_cases h1 : checkI xs ys = 0
  · have H1 := Lib.hid h1
    clear h1
    obtain ⟨v1, v2, v3⟩ := checkI_zero H1.out
    have b1 := validB_le v1
    have b2 := validB_le v2
    have V3 := Lib.hid v3; have B1 := Lib.hid b1; have B2 := Lib.hid b2
    have HV := Lib.hid (zip_bd addI _ _ (fun z => -9223372036854775808 ≤ z ∧ z ≤ 9223372036854775807) (by intro x y hx hy; unfold addI; split <;> omega) xs ys b1.2 b2.2)
    clear v1 v2 v3 b1 b2
    go_enter Try.func21, Try.ntmps21
    go_wp2_with fail
    refine (check_any _ _ _ _ _ H.out H'.out).mono ?_; rintro e w' ⟨rfl, rfl⟩
    rw [H1.out]
    go_wp2_with fail
    refine (combine_add _ _ _ _ _ H.out H'.out V3.out (by have := B1.out.1; omega) B1.out.2 B2.out.2).mono ?_
    rintro e w1 ⟨v, rfl, ho, hg⟩
    have HO := Lib.hid ho; have HG := Lib.hid hg
    clear ho hg
    go_wp2_with fail
    refine (valid_any _ _ _ (HO.out.ints HV.out)).mono ?_; rintro e w' ⟨rfl, rfl⟩
    cases h2 : validB (List.zipWith addI xs ys)
    · go_wp2_with fail
      go_ret2
      have : addR xs ys = (1, []) := by unfold addR; rw [if_neg (by rw [H1.out]; simp), if_neg (by rw [h2]; simp)]
      rw [this]
      exact Gives.nil _ _ _ HG.out
    · go_wp2_with fail
      go_ret2
      have : addR xs ys = (0, List.zipWith addI xs ys) := by unfold addR; rw [if_neg (by rw [H1.out]; simp), if_pos h2]
      rw [this]
      exact ⟨_, rfl, HO.out, HG.out⟩
  · have H1 := Lib.hid h1
    have h2 : (checkI xs ys != 0) = true := by simp [h1]
    clear h1
    go_enter Try.func21, Try.ntmps21
    go_wp2_with fail
    refine (check_any _ _ _ _ _ H.out H'.out).mono ?_; rintro e w' ⟨rfl, rfl⟩
    go_wp2_with fail
    go_ret2
    have : addR xs ys = (checkI xs ys, []) := by unfold addR; rw [if_pos H1.out]
    rw [this]
    exact Gives.nil _ _ _ (grown_refl _ _)

theorem max_any (va vb : Value) (xs ys : List Int) (w : World) (h : Ints w va xs) (h' : Ints w vb ys) :
    Calls Try.prog 26 #[va, vb] w (Gives (maxR xs ys) w) := by
  have H := Lib.hid h; have H' := Lib.hid h'
  clear h h'
  by_cases h1 : checkI xs ys = 0
  · have H1 := Lib.hid h1
    clear h1
    obtain ⟨v1, v2, v3⟩ := checkI_zero H1.out
    have b1 := validB_le v1
    have b2 := validB_le v2
    have V3 := Lib.hid v3; have B1 := Lib.hid b1; have B2 := Lib.hid b2
    clear v1 v2 v3 b1 b2
    go_enter Try.func26, Try.ntmps26
    go_wp2_with fail
    refine (check_any _ _ _ _ _ H.out H'.out).mono ?_; rintro e w' ⟨rfl, rfl⟩
    rw [H1.out]
    go_wp2_with fail
    refine (combine_max _ _ _ _ _ H.out H'.out V3.out (by have := B1.out.1; omega) B1.out.2 B2.out.2).mono ?_
    rintro e w1 ⟨v, rfl, ho, hg⟩
    have HO := Lib.hid ho; have HG := Lib.hid hg
    clear ho hg
    go_wp2_with fail
    go_ret2
    have : maxR xs ys = (0, List.zipWith max xs ys) := by unfold maxR; rw [if_neg (by rw [H1.out]; simp)]
    rw [this]
    exact ⟨_, rfl, HO.out, HG.out⟩
  · have H1 := Lib.hid h1
    have h2 : (checkI xs ys != 0) = true := by simp [h1]
    clear h1
    go_enter Try.func26, Try.ntmps26
    go_wp2_with fail
    refine (check_any _ _ _ _ _ H.out H'.out).mono ?_; rintro e w' ⟨rfl, rfl⟩
    go_wp2_with fail
    go_ret2
    have : maxR xs ys = (checkI xs ys, []) := by unfold maxR; rw [if_pos H1.out]
    rw [this]
    exact Gives.nil _ _ _ (grown_refl _ _)

theorem min_any (va vb : Value) (xs ys : List Int) (w : World) (h : Ints w va xs) (h' : Ints w vb ys) :
    Calls Try.prog 28 #[va, vb] w (Gives (minR xs ys) w) := by
  have H := Lib.hid h; have H' := Lib.hid h'
  clear h h'
  by_cases h1 : checkI xs ys = 0
  · have H1 := Lib.hid h1
    clear h1
    obtain ⟨v1, v2, v3⟩ := checkI_zero H1.out
    have b1 := validB_le v1
    have b2 := validB_le v2
    have V3 := Lib.hid v3; have B1 := Lib.hid b1; have B2 := Lib.hid b2
    clear v1 v2 v3 b1 b2
    go_enter Try.func28, Try.ntmps28
    go_wp2_with fail
    refine (check_any _ _ _ _ _ H.out H'.out).mono ?_; rintro e w' ⟨rfl, rfl⟩
    rw [H1.out]
    go_wp2_with fail
    refine (combine_min _ _ _ _ _ H.out H'.out V3.out (by have := B1.out.1; omega) B1.out.2 B2.out.2).mono ?_
    rintro e w1 ⟨v, rfl, ho, hg⟩
    have HO := Lib.hid ho; have HG := Lib.hid hg
    clear ho hg
    go_wp2_with fail
    go_ret2
    have : minR xs ys = (0, List.zipWith min xs ys) := by unfold minR; rw [if_neg (by rw [H1.out]; simp)]
    rw [this]
    exact ⟨_, rfl, HO.out, HG.out⟩
  · have H1 := Lib.hid h1
    have h2 : (checkI xs ys != 0) = true := by simp [h1]
    clear h1
    go_enter Try.func28, Try.ntmps28
    go_wp2_with fail
    refine (check_any _ _ _ _ _ H.out H'.out).mono ?_; rintro e w' ⟨rfl, rfl⟩
    go_wp2_with fail
    go_ret2
    have : minR xs ys = (checkI xs ys, []) := by unfold minR; rw [if_pos H1.out]
    rw [this]
    exact Gives.nil _ _ _ (grown_refl _ _)

theorem sub_any (va vb : Value) (xs ys : List Int) (w : World) (h : Ints w va xs) (h' : Ints w vb ys) :
    Calls Try.prog 23 #[va, vb] w (Gives (subR xs ys) w) := by
  have H := Lib.hid h; have H' := Lib.hid h'
  obtain ⟨a, cap, rfl, hl, _, _⟩ := h
  obtain ⟨a', cap', rfl, hl1, _, _⟩ := h'
  unfold maxLen at hl hl1
  cases h1 : validB xs
  · go_enter Try.func23, Try.ntmps23
    go_wp2_with (go_at_call 13; refine (valid_any _ _ _ H.out).mono ?_; rintro e w' ⟨rfl, rfl⟩)
    go_ret2
    rw [show subR xs ys = (2, []) by simp [subR, h1]]
    exact Gives.nil _ _ _ (grown_refl _ _)
  cases h2 : finiteB ys
  · go_enter Try.func23, Try.ntmps23
    go_wp2_with fail
    refine (valid_any _ _ _ H.out).mono ?_; rintro e w' ⟨rfl, rfl⟩
    go_wp2_with fail
    refine (finite_any _ _ _ H'.out).mono ?_; rintro e w' ⟨rfl, rfl⟩
    go_wp2_with fail
    go_ret2
    rw [show subR xs ys = (2, []) by simp [subR, h2]]
    exact Gives.nil _ _ _ (grown_refl _ _)
  have b1 := validB_le h1
  have b2 := finiteB_le h2
  have B1 := Lib.hid b1; have B2 := Lib.hid b2
  clear b1 b2
  by_cases h3 : xs.length = ys.length
  · have H3 := Lib.hid h3
    have h4 : ((xs.length : Int) != (ys.length : Int)) = false := by simp [h3]
    clear h3
    cases h5 : atMostB ys xs
    · go_enter Try.func23, Try.ntmps23
      go_wp2_with fail
      refine (valid_any _ _ _ H.out).mono ?_; rintro e w' ⟨rfl, rfl⟩
      go_wp2_with fail
      refine (finite_any _ _ _ H'.out).mono ?_; rintro e w' ⟨rfl, rfl⟩
      go_wp2_with fail
      refine (atMost_any _ _ _ _ _ H'.out H.out H3.out.symm).mono ?_; rintro e w' ⟨rfl, rfl⟩
      go_wp2_with fail
      go_ret2
      rw [show subR xs ys = (11, []) by simp [subR, h1, h2, H3.out, h5]]
      exact Gives.nil _ _ _ (grown_refl _ _)
    · go_enter Try.func23, Try.ntmps23
      go_wp2_with fail
      refine (valid_any _ _ _ H.out).mono ?_; rintro e w' ⟨rfl, rfl⟩
      go_wp2_with fail
      refine (finite_any _ _ _ H'.out).mono ?_; rintro e w' ⟨rfl, rfl⟩
      go_wp2_with fail
      refine (atMost_any _ _ _ _ _ H'.out H.out H3.out.symm).mono ?_; rintro e w' ⟨rfl, rfl⟩
      go_wp2_with fail
      refine (combine_sub _ _ _ _ _ H.out H'.out H3.out (by have := B1.out.1; omega) B1.out.2 (fun x hx => by have := B2.out.2 x hx; omega)).mono ?_
      rintro e w1 ⟨v, rfl, ho, hg⟩
      have HO := Lib.hid ho; have HG := Lib.hid hg
      clear ho hg
      go_wp2_with fail
      go_ret2
      rw [show subR xs ys = (0, List.zipWith subI xs ys) by simp [subR, h1, h2, H3.out, h5]]
      exact ⟨_, rfl, HO.out, HG.out⟩
  · have h4 : ((xs.length : Int) != (ys.length : Int)) = true := by simp; omega
    have H3 := Lib.hid h3
    clear h3
    go_enter Try.func23, Try.ntmps23
    go_wp2_with fail
    refine (valid_any _ _ _ H.out).mono ?_; rintro e w' ⟨rfl, rfl⟩
    go_wp2_with fail
    refine (finite_any _ _ _ H'.out).mono ?_; rintro e w' ⟨rfl, rfl⟩
    go_wp2_with fail
    go_ret2
    rw [show subR xs ys = (3, []) by simp [subR, h1, h2, H3.out]]
    exact Gives.nil _ _ _ (grown_refl _ _)
end Go.Proofs.Ytaolnlnjgoakdaa
