/- Vectors: valid, finite, at most, differences. -/
import Derived.Test.YtahffjoehjpfkaaGl
import Derived.Test.YtahffjoehjpfkaaGd
import Derived.Test.YtahffjoehjpfkaaGo
import Derived.Test.YtahffjoehjpfkaaNb
namespace Go.Proofs.Ytahffjoehjpfkaa
open Go.RowKit
set_option linter.unusedVariables false

def numB (x : Int) : Bool := decide (0 ≤ x) && decide (x ≤ 1048576)
def elemB (x : Int) : Bool := x == 1099511627776 || numB x
def validB (xs : List Int) : Bool := decide (xs.length ≤ 6) && xs.all elemB
def finiteB (xs : List Int) : Bool := decide (xs.length ≤ 6) && xs.all numB
def atMostB : List Int → List Int → Bool
  | [], _ => true
  | x :: xs, y :: ys => decide (x ≤ y) && atMostB xs ys
  | _ :: _, [] => false
def leqB (a b : List Int) : Bool := validB a && validB b && a.length == b.length && atMostB a b
theorem validB_false {xs : List Int} {k : Nat} (h : (xs.take k).all elemB = false) : validB xs = false := by
  rw [validB, all_of_false _ _ _ h, Bool.and_false]
theorem finiteB_false {xs : List Int} {k : Nat} (h : (xs.take k).all numB = false) : finiteB xs = false := by
  rw [finiteB, all_of_false _ _ _ h, Bool.and_false]
theorem atMostB_split : ∀ (a b : List Int) (k : Nat), k < a.length → k < b.length → atMostB (a.take (k + 1)) (b.take (k + 1)) = (atMostB (a.take k) (b.take k) && decide (a[k]?.getD 0 ≤ b[k]?.getD 0))
  | [], _, k, h, _ => by simp at h
  | _ :: _, [], k, _, h => by simp at h
  | x :: xs, y :: ys, 0, _, _ => by simp [atMostB]
  | x :: xs, y :: ys, k + 1, h, h' => by
    have := atMostB_split xs ys k (by simpa using h) (by simpa using h')
    simp [atMostB, this, Bool.and_assoc]

theorem atMostB_false : ∀ (a b : List Int) (k : Nat), k ≤ a.length → k ≤ b.length → atMostB (a.take k) (b.take k) = false → atMostB a b = false
  | _, _, 0, _, _, h => by simp [atMostB] at h
  | [], _, k + 1, h, _, _ => by simp at h
  | _ :: _, [], k + 1, _, h, _ => by simp at h
  | x :: xs, y :: ys, k + 1, h, h', e => by
    simp only [List.take_succ_cons, atMostB, Bool.and_eq_false_iff] at e ⊢
    rcases e with e | e
    · exact .inl e
    · exact .inr (atMostB_false xs ys k (by simpa using h) (by simpa using h') e)

theorem number_any (x : Int) (w : World) :
    Calls Try.prog 60 #[.int .i64 x] w fun e w' => e = .returned (.bool (numB x)) ∧ w' = w := by
  by_cases h0 : 0 ≤ x
  · go_enter Try.func60, Try.ntmps60
    go_wp2
    go_ret
    exact ⟨by simp [numB, h0], rfl⟩
  · go_enter Try.func60, Try.ntmps60
    go_wp2
    go_ret
    exact ⟨by simp [numB]; omega, rfl⟩

theorem valid1_any (x : Int) (w : World) :
    Calls Try.prog 59 #[.int .i64 x] w fun e w' => e = .returned (.bool (elemB x)) ∧ w' = w := by
  by_cases h0 : x = 1099511627776
  · subst h0
    go_enter Try.func59, Try.ntmps59
    go_wp2
    go_ret
    exact ⟨by simp [elemB], rfl⟩
  · have h1 : (x == 1099511627776) = false := by simpa using h0
    clear h0
    go_enter Try.func59, Try.ntmps59
    go_wp2_with (go_at_call 60; refine (number_any _ _).mono ?_; rintro e w' ⟨rfl, rfl⟩)
    go_ret
    exact ⟨by simp [elemB, h1], rfl⟩

theorem every_valid (v : Value) (xs : List Int) (w : World) (h : Ints w v xs) :
    Calls Try.prog 58 #[v, .func (.func 59) #[] #[]] w fun e w' => e = .returned (.bool (validB xs)) ∧ w' = w := by
  obtain ⟨a, cap, rfl, hl, hb, hc⟩ := h
  unfold maxLen at hl
  clear hb
  go_enter Try.func58, Try.ntmps58
  go_wp2
  · go_ret
    exact ⟨ret_bool (by simp [validB]; omega), rfl⟩
  · go_loop [12] (fun i => ∃ k : Nat, k ≤ xs.length ∧ i = .int .i64 k ∧ (xs.take k).all elemB = true) (fun i => xs.length - (intOf i).toNat)
    case atStart => exact ⟨0, Nat.zero_le _, rfl, rfl⟩
    case round =>
      obtain ⟨k, hk, rfl, ha⟩ := hrel
      by_cases hlt : k < xs.length
      · have HS := Lib.hid (all_snoc elemB xs k hlt)
        obtain ⟨b, off, rfl, hx⟩ := Ints.at hc hlt
        have HA := Lib.hid ha
        clear ha hc
        generalize xs[k]?.getD 0 = x at *
        cases hp : elemB x
        · go_wp2_with (go_at_call 59; refine (valid1_any _ _).mono ?_; rintro e w' ⟨rfl, rfl⟩)
          go_ret
          exact ⟨ret_bool (validB_false (k := k + 1) (by rw [HS.out, HA.out, hp]; rfl)).symm, rfl⟩
        · go_wp2_with (go_at_call 59; refine (valid1_any _ _).mono ?_; rintro e w' ⟨rfl, rfl⟩)
          go_round
          case rel => exact ⟨k + 1, by omega, by go_num, by rw [HS.out, HA.out, hp]; rfl⟩
          case measure => simp [intOf]; omega
      · clear hc
        go_wp2
        go_ret
        exact ⟨ret_bool (by rw [List.take_of_length_le (by omega)] at ha; rw [validB, ha, Bool.and_true]; symm; simp; omega), rfl⟩

theorem every_finite (v : Value) (xs : List Int) (w : World) (h : Ints w v xs) :
    Calls Try.prog 58 #[v, .func (.func 60) #[] #[]] w fun e w' => e = .returned (.bool (finiteB xs)) ∧ w' = w := by
  obtain ⟨a, cap, rfl, hl, hb, hc⟩ := h
  unfold maxLen at hl
  clear hb
  go_enter Try.func58, Try.ntmps58
  go_wp2
  · go_ret
    exact ⟨ret_bool (by simp [finiteB]; omega), rfl⟩
  · go_loop [12] (fun i => ∃ k : Nat, k ≤ xs.length ∧ i = .int .i64 k ∧ (xs.take k).all numB = true) (fun i => xs.length - (intOf i).toNat)
    case atStart => exact ⟨0, Nat.zero_le _, rfl, rfl⟩
    case round =>
      obtain ⟨k, hk, rfl, ha⟩ := hrel
      by_cases hlt : k < xs.length
      · have HS := Lib.hid (all_snoc numB xs k hlt)
        obtain ⟨b, off, rfl, hx⟩ := Ints.at hc hlt
        have HA := Lib.hid ha
        clear ha hc
        generalize xs[k]?.getD 0 = x at *
        cases hp : numB x
        · go_wp2_with (go_at_call 60; refine (number_any _ _).mono ?_; rintro e w' ⟨rfl, rfl⟩)
          go_ret
          exact ⟨ret_bool (finiteB_false (k := k + 1) (by rw [HS.out, HA.out, hp]; rfl)).symm, rfl⟩
        · go_wp2_with (go_at_call 60; refine (number_any _ _).mono ?_; rintro e w' ⟨rfl, rfl⟩)
          go_round
          case rel => exact ⟨k + 1, by omega, by go_num, by rw [HS.out, HA.out, hp]; rfl⟩
          case measure => simp [intOf]; omega
      · clear hc
        go_wp2
        go_ret
        exact ⟨ret_bool (by rw [List.take_of_length_le (by omega)] at ha; rw [finiteB, ha, Bool.and_true]; symm; simp; omega), rfl⟩

theorem valid_any (v : Value) (xs : List Int) (w : World) (h : Ints w v xs) :
    Calls Try.prog 30 #[v] w fun e w' => e = .returned (.bool (validB xs)) ∧ w' = w := by
  have H := Lib.hid h
  clear h
  go_enter Try.func30, Try.ntmps30
  go_wp2_with (go_at_call 58; refine (every_valid _ _ _ H.out).mono ?_; rintro e w' ⟨rfl, rfl⟩)
  go_ret
  exact ⟨rfl, rfl⟩

theorem finite_any (v : Value) (xs : List Int) (w : World) (h : Ints w v xs) :
    Calls Try.prog 34 #[v] w fun e w' => e = .returned (.bool (finiteB xs)) ∧ w' = w := by
  have H := Lib.hid h
  clear h
  go_enter Try.func34, Try.ntmps34
  go_wp2_with (go_at_call 58; refine (every_finite _ _ _ H.out).mono ?_; rintro e w' ⟨rfl, rfl⟩)
  go_ret
  exact ⟨rfl, rfl⟩


theorem nan_any (x : Int) (w : World) :
    Calls Try.prog 75 #[.int .i64 x] w fun e w' => e = .returned (.bool false) ∧ w' = w := by
  go_enter Try.func75, Try.ntmps75
  go_wp2
  go_ret
  exact ⟨by simp, rfl⟩
theorem cmp_any (x y : Int) (w : World) :
    Calls Try.prog 61 #[.int .i64 x, .int .i64 y] w fun e w' => e = .returned (.int .i64 (orderI x y)) ∧ w' = w := by
  by_cases h1 : x < y
  · go_enter Try.func61, Try.ntmps61
    go_wp2_with (go_at_call 75; refine (nan_any _ _).mono ?_; rintro e w' ⟨rfl, rfl⟩)
    go_ret
    exact ⟨ret_int (by unfold orderI; rw [if_pos (by omega)]), rfl⟩
  · by_cases h2 : y < x
    · go_enter Try.func61, Try.ntmps61
      go_wp2_with (go_at_call 75; refine (nan_any _ _).mono ?_; rintro e w' ⟨rfl, rfl⟩)
      go_ret
      exact ⟨ret_int (by unfold orderI; rw [if_neg (by omega), if_pos (by omega)]), rfl⟩
    · go_enter Try.func61, Try.ntmps61
      go_wp2_with (go_at_call 75; refine (nan_any _ _).mono ?_; rintro e w' ⟨rfl, rfl⟩)
      go_ret
      exact ⟨ret_int (by unfold orderI; rw [if_neg (by omega), if_neg (by omega)]), rfl⟩

theorem slcmp_any (va vb : Value) (xs ys : List Int) (w : World) (h : Ints w va xs) (h' : Ints w vb ys) (hl' : xs.length = ys.length) :
    Calls Try.prog 62 #[va, vb] w fun e w' => e = .returned (.int .i64 (lexI xs ys)) ∧ w' = w := by
  obtain ⟨a, cap, rfl, hl, hb, hc⟩ := h
  obtain ⟨a', cap', rfl, hl1, hb', hc'⟩ := h'
  unfold maxLen at hl hl1
  clear hb hb'
  have HE := Lib.hid hl'
  have hle : xs.length ≤ ys.length := by omega
  have hge : ys.length ≤ xs.length := by omega
  clear hl'
  go_enter Try.func62, Try.ntmps62
  go_wp2
  go_loop [11] (fun i => ∃ k : Nat, k ≤ xs.length ∧ i = .int .i64 k ∧ lexI (xs.take k) (ys.take k) = 0) (fun i => xs.length - (intOf i).toNat)
  case atStart => exact ⟨0, Nat.zero_le _, rfl, by simp [lexI]⟩
  case round =>
    obtain ⟨k, hk, rfl, ha⟩ := hrel
    have HA := Lib.hid ha
    clear ha
    by_cases hlt : k < xs.length
    · have hlt' : k < ys.length := by omega
      have HS := Lib.hid (lexI_snoc xs ys k hlt hlt' HA.out)
      have HT := Lib.hid (lexI_at xs ys k hlt hlt' HA.out)
      obtain ⟨b, off, rfl, hx⟩ := Ints.at hc hlt
      obtain ⟨b', off', rfl, hx'⟩ := Ints.at hc' hlt'
      have h1 : (k : Int) < (xs.length : Int) := by omega
      have h2 : (k : Int) < (ys.length : Int) := by omega
      clear hc hc'
      generalize xs[k]?.getD 0 = x at *
      generalize ys[k]?.getD 0 = y at *
      by_cases hp : orderI x y = 0
      · have HP := Lib.hid hp
        have h3 : (orderI x y != 0) = false := by simp [hp]
        clear hp
        go_wp2_with (go_at_call 61; refine (cmp_any _ _ _).mono ?_; rintro e w' ⟨rfl, rfl⟩)
        go_round
        case rel => exact ⟨k + 1, by omega, by go_num, by rw [HS.out, HP.out]⟩
        case measure => simp [intOf]; omega
      · have HP := Lib.hid hp
        have h3 : (orderI x y != 0) = true := by simp [hp]
        clear hp
        go_wp2_with (go_at_call 61; refine (cmp_any _ _ _).mono ?_; rintro e w' ⟨rfl, rfl⟩)
        go_ret
        exact ⟨ret_int (HT.out HP.out).symm, rfl⟩
    · clear hc hc'
      go_wp2
      go_ret
      exact ⟨ret_int (by have ha := HA.out; rw [List.take_of_length_le (by omega), List.take_of_length_le (by have := HE.out; omega)] at ha; rw [ha]), rfl⟩

theorem compare_any (va vb : Value) (xs ys : List Int) (w : World) (h : Ints w va xs) (h' : Ints w vb ys) :
    Calls Try.prog 31 #[va, vb] w fun e w' => e = .returned (.int .i64 (compareI xs ys)) ∧ w' = w := by
  have H := Lib.hid h; have H' := Lib.hid h'
  obtain ⟨a, cap, rfl, hl, _, _⟩ := h
  obtain ⟨a', cap', rfl, hl1, _, _⟩ := h'
  unfold maxLen at hl hl1
  by_cases h3 : xs.length = ys.length
  · have H3 := Lib.hid h3
    have h4 : orderI (xs.length : Int) (ys.length : Int) = 0 := by unfold orderI; rw [if_neg (by omega), if_neg (by omega)]
    have h5 : (orderI (xs.length : Int) (ys.length : Int) != 0) = false := by rw [h4]; rfl
    clear h3 h4
    go_enter Try.func31, Try.ntmps31
    go_wp2_with fail
    refine (cmp_any _ _ _).mono ?_; rintro e w' ⟨rfl, rfl⟩
    go_wp2_with fail
    refine (slcmp_any _ _ _ _ _ H.out H'.out H3.out).mono ?_; rintro e w' ⟨rfl, rfl⟩
    go_wp2_with fail
    go_ret
    exact ⟨ret_int (by have := H3.out; unfold compareI; rw [if_neg (by omega), if_neg (by omega)]), rfl⟩
  · have H3 := Lib.hid h3
    have h5 : (orderI (xs.length : Int) (ys.length : Int) != 0) = true := by unfold orderI; split <;> simp; omega
    clear h3
    go_enter Try.func31, Try.ntmps31
    go_wp2_with fail
    refine (cmp_any _ _ _).mono ?_; rintro e w' ⟨rfl, rfl⟩
    go_wp2_with fail
    go_ret
    exact ⟨ret_int (by have := H3.out; unfold compareI orderI; split <;> rename_i h6 <;> split <;> rename_i h7 <;> first | omega | (rw [if_pos (by omega)]) | (rw [if_neg (by omega), if_pos (by omega)])), rfl⟩

def subI (x y : Int) : Int := if x = 1099511627776 then 1099511627776 else x - y

/-- A vector and an error that a call gives. -/
def Gives (r : Int × List Int) (w : World) (e : Ending) (w' : World) : Prop := ∃ v, e = .returned (.tuple #[v, .int .i64 r.1]) ∧ OwnI w' w.heap.size v r.2 ∧ w.grownBy w' none

def subR (a b : List Int) : Int × List Int := if !validB a || !finiteB b then (2, []) else if a.length ≠ b.length then (3, []) else if atMostB b a then (0, List.zipWith subI a b) else (11, [])

theorem validB_le {xs : List Int} (h : validB xs = true) : xs.length ≤ 6 ∧ ∀ x ∈ xs, 0 ≤ x ∧ x ≤ 1099511627776 := by
  unfold validB at h
  rw [Bool.and_eq_true, List.all_eq_true] at h
  refine ⟨by simpa using h.1, fun x hx => ?_⟩
  have := h.2 x hx
  unfold elemB numB at this
  simp at this
  omega
theorem finiteB_le {xs : List Int} (h : finiteB xs = true) : xs.length ≤ 6 ∧ ∀ x ∈ xs, 0 ≤ x ∧ x ≤ 1048576 := by
  unfold finiteB at h
  rw [Bool.and_eq_true, List.all_eq_true] at h
  refine ⟨by simpa using h.1, fun x hx => ?_⟩
  have := h.2 x hx
  unfold numB at this
  simpa using this
theorem Gives.nil (c : Int) (w w' : World) (g : w.grownBy w' none) : Gives (c, []) w (.returned (.tuple #[.slice none 0 0, .int .i64 c])) w' := ⟨_, rfl, OwnI.nil _ _, g⟩

end Go.Proofs.Ytahffjoehjpfkaa
