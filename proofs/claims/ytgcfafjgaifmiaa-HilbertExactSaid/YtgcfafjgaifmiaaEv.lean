/- Vectors: valid, finite, at most, differences. -/
import Derived.Test.YtgcfafjgaifmiaaGl
import Derived.Test.YtgcfafjgaifmiaaGd
import Derived.Test.YtgcfafjgaifmiaaGo
import Derived.Test.YtgcfafjgaifmiaaNb
namespace Go.Proofs.Ytgcfafjgaifmiaa
open Go.RowKit
set_option linter.unusedVariables false

def numB (x : Int) : Bool := decide (0 ≤ x) && decide (x ≤ 1048576)
def elemB (x : Int) : Bool := x == 1099511627776 || numB x
def validB (xs : List Int) : Bool := decide (xs.length ≤ 6) && xs.all elemB
def finiteB (xs : List Int) : Bool := decide (xs.length ≤ 6) && xs.all numB
def atMostB : List Int → List Int → Bool
  | [], _ => true
  | x :: xs, y :: ys => decide (x ≤ y) && atMostB xs ys
  | _ :: _, [] => false
def leqB (a b : List Int) : Bool := validB a && validB b && a.length == b.length && atMostB a b
theorem validB_false {xs : List Int} {k : Nat} (h : (xs.take k).all elemB = false) : validB xs = false := by
  rw [validB, all_of_false _ _ _ h, Bool.and_false]
theorem finiteB_false {xs : List Int} {k : Nat} (h : (xs.take k).all numB = false) : finiteB xs = false := by
  rw [finiteB, all_of_false _ _ _ h, Bool.and_false]
theorem atMostB_split : ∀ (a b : List Int) (k : Nat), k < a.length → k < b.length → atMostB (a.take (k + 1)) (b.take (k + 1)) = (atMostB (a.take k) (b.take k) && decide (a[k]?.getD 0 ≤ b[k]?.getD 0))
  | [], _, k, h, _ => by simp at h
  | _ :: _, [], k, _, h => by simp at h
  | x :: xs, y :: ys, 0, _, _ => by simp [atMostB]
  | x :: xs, y :: ys, k + 1, h, h' => by
    have := atMostB_split xs ys k (by simpa using h) (by simpa using h')
    simp [atMostB, this, Bool.and_assoc]

theorem atMostB_false : ∀ (a b : List Int) (k : Nat), k ≤ a.length → k ≤ b.length → atMostB (a.take k) (b.take k) = false → atMostB a b = false
  | _, _, 0, _, _, h => by simp [atMostB] at h
  | [], _, k + 1, h, _, _ => by simp at h
  | _ :: _, [], k + 1, _, h, _ => by simp at h
  | x :: xs, y :: ys, k + 1, h, h', e => by
    simp only [List.take_succ_cons, atMostB, Bool.and_eq_false_iff] at e ⊢
    rcases e with e | e
    · exact .inl e
    · exact .inr (atMostB_false xs ys k (by simpa using h) (by simpa using h') e)

theorem number_any (x : Int) (w : World) :
    Calls Try.prog 50 #[.int .i64 x] w fun e w' => e = .returned (.bool (numB x)) ∧ w' = w := by
  by_cases h0 : 0 ≤ x
  · go_enter Try.func50, Try.ntmps50
    go_wp2
    go_ret
    exact ⟨by simp [numB, h0], rfl⟩
  · go_enter Try.func50, Try.ntmps50
    go_wp2
    go_ret
    exact ⟨by simp [numB]; omega, rfl⟩

theorem valid1_any (x : Int) (w : World) :
    Calls Try.prog 72 #[.int .i64 x] w fun e w' => e = .returned (.bool (elemB x)) ∧ w' = w := by
  by_cases h0 : x = 1099511627776
  · subst h0
    go_enter Try.func72, Try.ntmps72
    go_wp2
    go_ret
    exact ⟨by simp [elemB], rfl⟩
  · have h1 : (x == 1099511627776) = false := by simpa using h0
    clear h0
    go_enter Try.func72, Try.ntmps72
    go_wp2_with (go_at_call 50; refine (number_any _ _).mono ?_; rintro e w' ⟨rfl, rfl⟩)
    go_ret
    exact ⟨by simp [elemB, h1], rfl⟩

theorem every_valid (v : Value) (xs : List Int) (w : World) (h : Ints w v xs) :
    Calls Try.prog 49 #[v, .func (.func 72) #[] #[]] w fun e w' => e = .returned (.bool (validB xs)) ∧ w' = w := by
  obtain ⟨a, cap, rfl, hl, hb, hc⟩ := h
  unfold maxLen at hl
  clear hb
  go_enter Try.func49, Try.ntmps49
  go_wp2
  · go_ret
    exact ⟨ret_bool (by simp [validB]; omega), rfl⟩
  · go_loop [12] (fun i => ∃ k : Nat, k ≤ xs.length ∧ i = .int .i64 k ∧ (xs.take k).all elemB = true) (fun i => xs.length - (intOf i).toNat)
    case atStart => exact ⟨0, Nat.zero_le _, rfl, rfl⟩
    case round =>
      obtain ⟨k, hk, rfl, ha⟩ := hrel
      by_cases hlt : k < xs.length
      · have HS := Lib.hid (all_snoc elemB xs k hlt)
        obtain ⟨b, off, rfl, hx⟩ := Ints.at hc hlt
        have HA := Lib.hid ha
        clear ha hc
        generalize xs[k]?.getD 0 = x at *
        cases hp : elemB x
        · go_wp2_with (go_at_call 72; refine (valid1_any _ _).mono ?_; rintro e w' ⟨rfl, rfl⟩)
          go_ret
          exact ⟨ret_bool (validB_false (k := k + 1) (by rw [HS.out, HA.out, hp]; rfl)).symm, rfl⟩
        · go_wp2_with (go_at_call 72; refine (valid1_any _ _).mono ?_; rintro e w' ⟨rfl, rfl⟩)
          go_round
          case rel => exact ⟨k + 1, by omega, by go_num, by rw [HS.out, HA.out, hp]; rfl⟩
          case measure => simp [intOf]; omega
      · clear hc
        go_wp2
        go_ret
        exact ⟨ret_bool (by rw [List.take_of_length_le (by omega)] at ha; rw [validB, ha, Bool.and_true]; symm; simp; omega), rfl⟩

theorem every_finite (v : Value) (xs : List Int) (w : World) (h : Ints w v xs) :
    Calls Try.prog 49 #[v, .func (.func 50) #[] #[]] w fun e w' => e = .returned (.bool (finiteB xs)) ∧ w' = w := by
  obtain ⟨a, cap, rfl, hl, hb, hc⟩ := h
  unfold maxLen at hl
  clear hb
  go_enter Try.func49, Try.ntmps49
  go_wp2
  · go_ret
    exact ⟨ret_bool (by simp [finiteB]; omega), rfl⟩
  · go_loop [12] (fun i => ∃ k : Nat, k ≤ xs.length ∧ i = .int .i64 k ∧ (xs.take k).all numB = true) (fun i => xs.length - (intOf i).toNat)
    case atStart => exact ⟨0, Nat.zero_le _, rfl, rfl⟩
    case round =>
      obtain ⟨k, hk, rfl, ha⟩ := hrel
      by_cases hlt : k < xs.length
      · have HS := Lib.hid (all_snoc numB xs k hlt)
        obtain ⟨b, off, rfl, hx⟩ := Ints.at hc hlt
        have HA := Lib.hid ha
        clear ha hc
        generalize xs[k]?.getD 0 = x at *
        cases hp : numB x
        · go_wp2_with (go_at_call 50; refine (number_any _ _).mono ?_; rintro e w' ⟨rfl, rfl⟩)
          go_ret
          exact ⟨ret_bool (finiteB_false (k := k + 1) (by rw [HS.out, HA.out, hp]; rfl)).symm, rfl⟩
        · go_wp2_with (go_at_call 50; refine (number_any _ _).mono ?_; rintro e w' ⟨rfl, rfl⟩)
          go_round
          case rel => exact ⟨k + 1, by omega, by go_num, by rw [HS.out, HA.out, hp]; rfl⟩
          case measure => simp [intOf]; omega
      · clear hc
        go_wp2
        go_ret
        exact ⟨ret_bool (by rw [List.take_of_length_le (by omega)] at ha; rw [finiteB, ha, Bool.and_true]; symm; simp; omega), rfl⟩

theorem valid_any (v : Value) (xs : List Int) (w : World) (h : Ints w v xs) :
    Calls Try.prog 66 #[v] w fun e w' => e = .returned (.bool (validB xs)) ∧ w' = w := by
  have H := Lib.hid h
  clear h
  go_enter Try.func66, Try.ntmps66
  go_wp2_with (go_at_call 49; refine (every_valid _ _ _ H.out).mono ?_; rintro e w' ⟨rfl, rfl⟩)
  go_ret
  exact ⟨rfl, rfl⟩

theorem finite_any (v : Value) (xs : List Int) (w : World) (h : Ints w v xs) :
    Calls Try.prog 33 #[v] w fun e w' => e = .returned (.bool (finiteB xs)) ∧ w' = w := by
  have H := Lib.hid h
  clear h
  go_enter Try.func33, Try.ntmps33
  go_wp2_with (go_at_call 49; refine (every_finite _ _ _ H.out).mono ?_; rintro e w' ⟨rfl, rfl⟩)
  go_ret
  exact ⟨rfl, rfl⟩


theorem atMost_any (va vb : Value) (xs ys : List Int) (w : World) (h : Ints w va xs) (h' : Ints w vb ys) (hl' : xs.length = ys.length) :
    Calls Try.prog 67 #[va, vb] w fun e w' => e = .returned (.bool (atMostB xs ys)) ∧ w' = w := by
  obtain ⟨a, cap, rfl, hl, hb, hc⟩ := h
  obtain ⟨a', cap', rfl, hl1, hb', hc'⟩ := h'
  unfold maxLen at hl hl1
  clear hb hb'
  have HE := Lib.hid hl'
  have hle : xs.length ≤ ys.length := by omega
  clear hl'
  go_enter Try.func67, Try.ntmps67
  go_wp2
  go_loop [9] (fun i => ∃ k : Nat, k ≤ xs.length ∧ i = .int .i64 k ∧ atMostB (xs.take k) (ys.take k) = true) (fun i => xs.length - (intOf i).toNat)
  case atStart => exact ⟨0, Nat.zero_le _, rfl, by simp [atMostB]⟩
  case round =>
    obtain ⟨k, hk, rfl, ha⟩ := hrel
    by_cases hlt : k < xs.length
    · have hlt' : k < ys.length := by omega
      have HS := Lib.hid (atMostB_split xs ys k hlt hlt')
      obtain ⟨b, off, rfl, hx⟩ := Ints.at hc hlt
      obtain ⟨b', off', rfl, hx'⟩ := Ints.at hc' hlt'
      have HA := Lib.hid ha
      have h1 : (k : Int) < (xs.length : Int) := by omega
      have h2 : (k : Int) < (ys.length : Int) := by omega
      clear ha hc hc'
      generalize xs[k]?.getD 0 = x at *
      generalize ys[k]?.getD 0 = y at *
      by_cases hp : x ≤ y
      · go_wp2
        go_round
        case rel => exact ⟨k + 1, by omega, by go_num, by rw [HS.out, HA.out]; simp [hp]⟩
        case measure => simp [intOf]; omega
      · go_wp2
        go_ret
        exact ⟨ret_bool (atMostB_false xs ys (k + 1) (by omega) (by omega) (by rw [HS.out, HA.out]; simp; omega)).symm, rfl⟩
    · clear hc hc'
      go_wp2
      go_ret
      exact ⟨ret_bool (by rw [List.take_of_length_le (by omega), List.take_of_length_le (by have := HE.out; omega)] at ha; rw [ha]), rfl⟩

theorem leq_any (va vb : Value) (xs ys : List Int) (w : World) (h : Ints w va xs) (h' : Ints w vb ys) :
    Calls Try.prog 53 #[va, vb] w fun e w' => e = .returned (.bool (leqB xs ys)) ∧ w' = w := by
  have H := Lib.hid h; have H' := Lib.hid h'
  obtain ⟨a, cap, rfl, hl, _, _⟩ := h
  obtain ⟨a', cap', rfl, hl1, _, _⟩ := h'
  unfold maxLen at hl hl1
  cases h1 : validB xs
  · go_enter Try.func53, Try.ntmps53
    go_wp2_with (go_at_call 66; refine (valid_any _ _ _ H.out).mono ?_; rintro e w' ⟨rfl, rfl⟩)
    go_ret
    exact ⟨ret_bool (by simp [leqB, h1]), rfl⟩
  cases h2 : validB ys
  · go_enter Try.func53, Try.ntmps53
    go_wp2_with fail
    refine (valid_any _ _ _ H.out).mono ?_; rintro e w' ⟨rfl, rfl⟩
    go_wp2_with fail
    refine (valid_any _ _ _ H'.out).mono ?_; rintro e w' ⟨rfl, rfl⟩
    go_wp2_with fail
    go_ret
    exact ⟨ret_bool (by simp [leqB, h2]), rfl⟩
  by_cases h3 : xs.length = ys.length
  · have H3 := Lib.hid h3
    have h4 : ((xs.length : Int) == (ys.length : Int)) = true := by simp [h3]
    clear h3
    go_enter Try.func53, Try.ntmps53
    go_wp2_with fail
    refine (valid_any _ _ _ H.out).mono ?_; rintro e w' ⟨rfl, rfl⟩
    go_wp2_with fail
    refine (valid_any _ _ _ H'.out).mono ?_; rintro e w' ⟨rfl, rfl⟩
    go_wp2_with fail
    refine (atMost_any _ _ _ _ _ H.out H'.out H3.out).mono ?_; rintro e w' ⟨rfl, rfl⟩
    go_wp2_with fail
    go_ret
    exact ⟨ret_bool (by simp [leqB, h1, h2, H3.out]), rfl⟩
  · have h4 : ((xs.length : Int) == (ys.length : Int)) = false := by simp; omega
    have H3 := Lib.hid h3
    clear h3
    go_enter Try.func53, Try.ntmps53
    go_wp2_with fail
    refine (valid_any _ _ _ H.out).mono ?_; rintro e w' ⟨rfl, rfl⟩
    go_wp2_with fail
    refine (valid_any _ _ _ H'.out).mono ?_; rintro e w' ⟨rfl, rfl⟩
    go_wp2_with fail
    go_ret
    exact ⟨ret_bool (by simp [leqB, H3.out]), rfl⟩

def subI (x y : Int) : Int := if x = 1099511627776 then 1099511627776 else x - y

theorem sub1_any (x y : Int) (w : World) (hx : 0 ≤ x ∧ x ≤ 1099511627776) (hy : 0 ≤ y ∧ y ≤ 1099511627776) :
    Calls Try.prog 70 #[.int .i64 x, .int .i64 y] w fun e w' => e = .returned (.int .i64 (subI x y)) ∧ w' = w := by
  obtain ⟨hx0, hx1⟩ := hx
  obtain ⟨hy0, hy1⟩ := hy
  by_cases h1 : x = 1099511627776
  · subst h1
    go_enter Try.func70, Try.ntmps70
    go_wp2
    go_ret
    exact ⟨ret_int (by simp [subI]), rfl⟩
  · have h3 : (x == 1099511627776) = false := by simpa using h1
    have H1 := Lib.hid h1
    clear h1
    go_enter Try.func70, Try.ntmps70
    go_wp2
    go_ret
    exact ⟨ret_int (by unfold subI; rw [if_neg H1.out]), rfl⟩

theorem combine_sub (va vb : Value) (xs ys : List Int) (w : World) (h : Ints w va xs) (h' : Ints w vb ys) (hl' : xs.length = ys.length) (hm : xs.length ≤ 1000)
    (bx : ∀ x ∈ xs, 0 ≤ x ∧ x ≤ 1099511627776) (by_ : ∀ x ∈ ys, 0 ≤ x ∧ x ≤ 1099511627776) :
    Calls Try.prog 69 #[va, vb, .func (.func 70) #[] #[]] w (Made (List.zipWith subI xs ys) w) := by
  have HI := Lib.hid h; have HI' := Lib.hid h'; have BX := Lib.hid bx; have BY := Lib.hid by_
  obtain ⟨a, cap, rfl, hl, hb, hc⟩ := h
  obtain ⟨a', cap', rfl, hl1, hb', hc'⟩ := h'
  unfold maxLen at hl hl1
  clear hb hb' hc hc' bx by_
  have HE := Lib.hid hl'
  have hle : xs.length ≤ ys.length := by omega
  clear hl'
  go_enter Try.func69, Try.ntmps69
  go_wp2_with (at_make; refine make_int rfl _ _ rfl xs.length rfl rfl (by omega) ?_)
  intro w1 ho hg
  have HO := Lib.hid ho; have HG1 := Lib.hid hg
  clear ho hg
  go_wp2_with fail
  go_loopw [15] (fun i wr => ∃ (k : Nat) (zs : List Int), i = .int .i64 k ∧ k ≤ xs.length ∧ Hid (zs.length = xs.length ∧ zs.take k = (List.zipWith subI xs ys).take k) ∧ Hid (OwnI wr w.heap.size (.slice (some ⟨w.heap.size, 0, none⟩) xs.length xs.length) zs) ∧ Hid (w.grownBy wr none)) (fun i _ => xs.length - (intOf i).toNat)
  case atStart => exact ⟨0, _, rfl, Nat.zero_le _, Lib.hid ⟨by simp, by simp⟩, HO, HG1⟩
  case round =>
    obtain ⟨k, zs, rfl, hk, hz, ho, hg⟩ := hrel
    by_cases hlt : k < xs.length
    · have hlt' : k < ys.length := by omega
      obtain ⟨_, _, hv, _, _, hc⟩ := HI.out.same hg.out
      simp only [Value.slice.injEq] at hv
      obtain ⟨rfl, -, -⟩ := hv
      obtain ⟨_, _, hv, _, _, hc'⟩ := HI'.out.same hg.out
      simp only [Value.slice.injEq] at hv
      obtain ⟨rfl, -, -⟩ := hv
      obtain ⟨b, off, rfl, hx⟩ := Ints.at hc hlt
      obtain ⟨b', off', rfl, hx'⟩ := Ints.at hc' hlt'
      have hbx := mem_at BX.out hlt
      have hby := mem_at BY.out hlt'
      have HZ := Lib.hid (zip_at subI xs ys k hlt hlt')
      have h1 : (k : Int) < (xs.length : Int) := by omega
      have h2 : (k : Int) < (ys.length : Int) := by omega
      obtain ⟨hcell, hfr⟩ := ho.out.cell k (by have := hz.out.1; omega)
      clear hc hc'
      generalize xs[k]?.getD 0 = x at *
      generalize ys[k]?.getD 0 = y at *
      have HX := Lib.hid hbx; have HY := Lib.hid hby
      clear hbx hby
      go_wp2_with (go_at_call 70; refine (sub1_any _ _ _ HX.out HY.out).mono ?_; rintro e w' ⟨rfl, rfl⟩)
      go_roundw
      case rel => exact ⟨k + 1, zs.set k (subI x y), by go_num, by omega, Lib.hid ⟨by simp; exact hz.out.1, by rw [← HZ.out]; exact set_take zs _ k (by have := hz.out.1; simp; omega) (by simp; omega) hz.out.2⟩, Lib.hid (ho.out.stored k _), Lib.hid (grown_then hg.out (grown_set _ _ _) (by rintro j ⟨⟩; exact .inl (Nat.le_refl _)))⟩
      case measure => simp [intOf]; omega
    · go_wp2_with fail
      go_ret
      have hq : zs = List.zipWith subI xs ys := by
        have h1 := hz.out.2
        have h2 := hz.out.1
        have h3 := HE.out
        rwa [List.take_of_length_le (by omega), List.take_of_length_le (by simp; omega)] at h1
      exact ⟨_, rfl, hq ▸ ho.out, hg.out⟩

/-- A vector and an error that a call gives. -/
def Gives (r : Int × List Int) (w : World) (e : Ending) (w' : World) : Prop := ∃ v, e = .returned (.tuple #[v, .int .i64 r.1]) ∧ OwnI w' w.heap.size v r.2 ∧ w.grownBy w' none

def subR (a b : List Int) : Int × List Int := if !validB a || !finiteB b then (2, []) else if a.length ≠ b.length then (3, []) else if atMostB b a then (0, List.zipWith subI a b) else (11, [])

theorem validB_le {xs : List Int} (h : validB xs = true) : xs.length ≤ 6 ∧ ∀ x ∈ xs, 0 ≤ x ∧ x ≤ 1099511627776 := by
  unfold validB at h
  rw [Bool.and_eq_true, List.all_eq_true] at h
  refine ⟨by simpa using h.1, fun x hx => ?_⟩
  have := h.2 x hx
  unfold elemB numB at this
  simp at this
  omega
theorem finiteB_le {xs : List Int} (h : finiteB xs = true) : xs.length ≤ 6 ∧ ∀ x ∈ xs, 0 ≤ x ∧ x ≤ 1048576 := by
  unfold finiteB at h
  rw [Bool.and_eq_true, List.all_eq_true] at h
  refine ⟨by simpa using h.1, fun x hx => ?_⟩
  have := h.2 x hx
  unfold numB at this
  simpa using this
theorem Gives.nil (c : Int) (w w' : World) (g : w.grownBy w' none) : Gives (c, []) w (.returned (.tuple #[.slice none 0 0, .int .i64 c])) w' := ⟨_, rfl, OwnI.nil _ _, g⟩

theorem sub_any (va vb : Value) (xs ys : List Int) (w : World) (h : Ints w va xs) (h' : Ints w vb ys) :
    Calls Try.prog 59 #[va, vb] w (Gives (subR xs ys) w) := by
  have H := Lib.hid h; have H' := Lib.hid h'
  obtain ⟨a, cap, rfl, hl, _, _⟩ := h
  obtain ⟨a', cap', rfl, hl1, _, _⟩ := h'
  unfold maxLen at hl hl1
  cases h1 : validB xs
  · go_enter Try.func59, Try.ntmps59
    go_wp2_with (go_at_call 66; refine (valid_any _ _ _ H.out).mono ?_; rintro e w' ⟨rfl, rfl⟩)
    go_ret2
    rw [show subR xs ys = (2, []) by simp [subR, h1]]
    exact Gives.nil _ _ _ (grown_refl _ _)
  cases h2 : finiteB ys
  · go_enter Try.func59, Try.ntmps59
    go_wp2_with fail
    refine (valid_any _ _ _ H.out).mono ?_; rintro e w' ⟨rfl, rfl⟩
    go_wp2_with fail
    refine (finite_any _ _ _ H'.out).mono ?_; rintro e w' ⟨rfl, rfl⟩
    go_wp2_with fail
    go_ret2
    rw [show subR xs ys = (2, []) by simp [subR, h2]]
    exact Gives.nil _ _ _ (grown_refl _ _)
  have b1 := validB_le h1
  have b2 := finiteB_le h2
  have B1 := Lib.hid b1; have B2 := Lib.hid b2
  clear b1 b2
  by_cases h3 : xs.length = ys.length
  · have H3 := Lib.hid h3
    have h4 : ((xs.length : Int) != (ys.length : Int)) = false := by simp [h3]
    clear h3
    cases h5 : atMostB ys xs
    · go_enter Try.func59, Try.ntmps59
      go_wp2_with fail
      refine (valid_any _ _ _ H.out).mono ?_; rintro e w' ⟨rfl, rfl⟩
      go_wp2_with fail
      refine (finite_any _ _ _ H'.out).mono ?_; rintro e w' ⟨rfl, rfl⟩
      go_wp2_with fail
      refine (atMost_any _ _ _ _ _ H'.out H.out H3.out.symm).mono ?_; rintro e w' ⟨rfl, rfl⟩
      go_wp2_with fail
      go_ret2
      rw [show subR xs ys = (11, []) by simp [subR, h1, h2, H3.out, h5]]
      exact Gives.nil _ _ _ (grown_refl _ _)
    · go_enter Try.func59, Try.ntmps59
      go_wp2_with fail
      refine (valid_any _ _ _ H.out).mono ?_; rintro e w' ⟨rfl, rfl⟩
      go_wp2_with fail
      refine (finite_any _ _ _ H'.out).mono ?_; rintro e w' ⟨rfl, rfl⟩
      go_wp2_with fail
      refine (atMost_any _ _ _ _ _ H'.out H.out H3.out.symm).mono ?_; rintro e w' ⟨rfl, rfl⟩
      go_wp2_with fail
      refine (combine_sub _ _ _ _ _ H.out H'.out H3.out (by have := B1.out.1; omega) B1.out.2 (fun x hx => by have := B2.out.2 x hx; omega)).mono ?_
      rintro e w1 ⟨v, rfl, ho, hg⟩
      have HO := Lib.hid ho; have HG := Lib.hid hg
      clear ho hg
      go_wp2_with fail
      go_ret2
      rw [show subR xs ys = (0, List.zipWith subI xs ys) by simp [subR, h1, h2, H3.out, h5]]
      exact ⟨_, rfl, HO.out, HG.out⟩
  · have h4 : ((xs.length : Int) != (ys.length : Int)) = true := by simp; omega
    have H3 := Lib.hid h3
    clear h3
    go_enter Try.func59, Try.ntmps59
    go_wp2_with fail
    refine (valid_any _ _ _ H.out).mono ?_; rintro e w' ⟨rfl, rfl⟩
    go_wp2_with fail
    refine (finite_any _ _ _ H'.out).mono ?_; rintro e w' ⟨rfl, rfl⟩
    go_wp2_with fail
    go_ret2
    rw [show subR xs ys = (3, []) by simp [subR, h1, h2, H3.out]]
    exact Gives.nil _ _ _ (grown_refl _ _)


end Go.Proofs.Ytgcfafjgaifmiaa
