/- Contracts over lists of numbers: within, Min, Clone, clone.Ints, ContainsFunc of what is not 0. -/
import Derived.Test.YtgdnlibklopdiaaSa
import Derived.Laws.CopyOwn
namespace Go.Proofs.Ytgdnlibklopdiaa
open Go.RowKit
set_option linter.unusedVariables false

def withB (most : Int) (xs : List Int) : Bool := xs.all (fun x => decide (0 ≤ x) && decide (x ≤ most))
theorem withB_iff {most : Int} {xs : List Int} : withB most xs = true ↔ ∀ x ∈ xs, 0 ≤ x ∧ x ≤ most := by simp [withB]

theorem within_any (v : Value) (xs : List Int) (most : Int) (w : World) (h : Ints w v xs) :
    Calls Try.prog 66 #[v, .int .i64 most] w fun e w' => e = .returned (.bool (withB most xs)) ∧ w' = w := by
  obtain ⟨a, cap, rfl, hl, hb, hc⟩ := h
  unfold maxLen at hl
  go_enter Try.func66, Try.ntmps66
  go_wp2
  go_loop [9] (fun i => ∃ k : Nat, k ≤ xs.length ∧ i = .int .i64 k ∧ withB most (xs.take k) = true) (fun i => xs.length - (intOf i).toNat)
  case atStart => exact ⟨0, Nat.zero_le _, rfl, by simp [withB]⟩
  case round =>
    obtain ⟨k, hk, rfl, ha⟩ := hrel
    have HA := Lib.hid ha
    clear ha
    by_cases hlt : k < xs.length
    · have HS := Lib.hid (all_snoc (fun x => decide (0 ≤ x) && decide (x ≤ most)) xs k hlt)
      have HF := Lib.hid (all_of_false (fun x => decide (0 ≤ x) && decide (x ≤ most)) xs (k + 1))
      obtain ⟨b, off, rfl, hx⟩ := Ints.at hc hlt
      have h1 : (k : Int) < (xs.length : Int) := by omega
      clear hc
      generalize xs[k]?.getD 0 = x at *
      by_cases h2 : x < 0
      · go_wp2
        go_ret
        exact ⟨ret_bool (by rw [withB, HF.out (by rw [HS.out]; simp; omega)]), rfl⟩
      · by_cases h3 : most < x
        · go_wp2
          go_ret
          exact ⟨ret_bool (by rw [withB, HF.out (by rw [HS.out]; simp; omega)]), rfl⟩
        · go_wp2
          go_round
          case rel => exact ⟨k + 1, by omega, by go_num, by rw [withB, HS.out]; have := HA.out; unfold withB at this; rw [this]; simp; omega⟩
          case measure => simp [intOf]; omega
    · go_wp2
      go_ret
      exact ⟨ret_bool (by have ha := HA.out; rw [List.take_of_length_le (by omega)] at ha; exact ha.symm), rfl⟩

/-- The least number of a list. -/
def IsMin (m : Int) (xs : List Int) : Prop := m ∈ xs ∧ ∀ x ∈ xs, m ≤ x
theorem IsMin.next {m : Int} {xs : List Int} {k : Nat} (h : IsMin m (xs.take k)) (hk : k < xs.length) : IsMin (min m (xs[k]?.getD 0)) (xs.take (k + 1)) := by
  rw [take_snoc' xs k hk]
  refine ⟨?_, ?_⟩
  · rcases Int.le_total m (xs[k]?.getD 0) with h1 | h1
    · rw [Int.min_eq_left h1]; exact List.mem_append_left _ h.1
    · rw [Int.min_eq_right h1]; simp
  · intro x hx
    rcases List.mem_append.1 hx with hx | hx
    · have := h.2 x hx; omega
    · simp at hx; subst hx; omega
def Mins (xs : List Int) (w : World) (e : Ending) (w' : World) : Prop := ∃ m, e = .returned (.int .i64 m) ∧ IsMin m xs ∧ w' = w
theorem min_any (v : Value) (xs : List Int) (w : World) (h : Ints w v xs) (hne : 1 ≤ xs.length) :
    Calls Try.prog 94 #[v] w (Mins xs w) := by
  obtain ⟨a, cap, rfl, hl, hb, hc⟩ := h
  unfold maxLen at hl
  have h0 : ¬ (xs.length : Int) < 1 := by omega
  obtain ⟨b, off, rfl, hx0⟩ := Ints.at hc (show 0 < xs.length by omega)
  rw [Nat.add_zero] at hx0
  go_enter Try.func94, Try.ntmps94
  go_wp2
  go_loopw [3, 4] (fun m i wr => ∃ (k : Nat) (z : Int), 1 ≤ k ∧ k ≤ xs.length ∧ i = .int .i64 k ∧ m = .int .i64 z ∧ Hid (IsMin z (xs.take k)) ∧ wr = w) (fun _ i _ => xs.length - (intOf i).toNat)
  case atStart => exact ⟨1, _, Nat.le_refl _, by omega, rfl, rfl, Lib.hid (by
    rw [take_snoc' xs 0 (by omega)]
    exact ⟨by simp, by simp⟩), rfl⟩
  case round =>
    obtain ⟨k, z, hk1, hk, rfl, rfl, hm, rfl⟩ := hrel
    by_cases hlt : k < xs.length
    · have HN := Lib.hid (hm.out.next hlt)
      obtain ⟨b, off, hb1, hx⟩ := Ints.at hc hlt
      obtain ⟨rfl, rfl⟩ : _ ∧ _ := by simpa using hb1
      have h1 : (k : Int) < (xs.length : Int) := by omega
      clear hc hx0 hb1 hm
      generalize xs[k]?.getD 0 = x at *
      go_wp2
      go_roundw
      case rel => exact ⟨k + 1, _, by omega, by omega, by go_num, rfl, HN, trivial⟩
      case measure => simp [intOf]; omega
    · have h1 : ¬ (k : Int) < (xs.length : Int) := by omega
      go_wp2
      go_ret
      exact ⟨z, rfl, by have := hm.out; rwa [List.take_of_length_le (by omega)] at this, rfl⟩

theorem times1_any (x : Int) (w : World) :
    Calls Try.prog 92 #[.int .i64 x] w fun e w' => e = .returned (.bool (x != 0)) ∧ w' = w := by
  by_cases h : x = 0
  · subst h
    go_enter Try.func92, Try.ntmps92
    go_wp2
    go_ret
    exact ⟨by simp, rfl⟩
  · have h1 : (x != 0) = true := by simp [h]
    go_enter Try.func92, Try.ntmps92
    go_wp2
    go_ret
    exact ⟨by simp [h], rfl⟩

def zeroB (xs : List Int) : Bool := xs.all (fun x => x == 0)
def Idx0 (B : Bool) (w : World) (e : Ending) (w' : World) : Prop := ∃ k : Int, e = .returned (.int .i64 k) ∧ decide (0 ≤ k) = B ∧ w' = w
theorem index0_any (v : Value) (xs : List Int) (w : World) (h : Ints w v xs) :
    Calls Try.prog 103 #[v, .func (.func 92) #[] #[]] w (Idx0 (!zeroB xs) w) := by
  obtain ⟨a, cap, rfl, hl, hb, hc⟩ := h
  unfold maxLen at hl
  go_enter Try.func103, Try.ntmps103
  go_wp2
  go_loop [8] (fun i => ∃ k : Nat, k ≤ xs.length ∧ i = .int .i64 k ∧ Hid (zeroB (xs.take k) = true)) (fun i => xs.length - (intOf i).toNat)
  case atStart => exact ⟨0, Nat.zero_le _, rfl, Lib.hid (by simp [zeroB])⟩
  case round =>
    obtain ⟨k, hk, rfl, HA⟩ := hrel
    by_cases hlt : k < xs.length
    · have HS := Lib.hid (all_snoc (fun x => x == 0) xs k hlt)
      have HF := Lib.hid (all_of_false (fun x => x == 0) xs (k + 1))
      obtain ⟨b, off, rfl, hx⟩ := Ints.at hc hlt
      have h1 : (k : Int) < (xs.length : Int) := by omega
      clear hc
      generalize xs[k]?.getD 0 = x at *
      by_cases h2 : x = 0
      · have h3 : (x != 0) = false := by simp [h2]
        have HX := Lib.hid h2
        clear h2
        go_wp2_with (go_at_call 92; refine (times1_any _ _).mono ?_; rintro e w' ⟨rfl, rfl⟩)
        go_round
        case rel => exact ⟨k + 1, by omega, by go_num, Lib.hid (by rw [zeroB, HS.out, HX.out]; have := HA.out; unfold zeroB at this; rw [this]; rfl)⟩
        case measure => simp [intOf]; omega
      · have h3 : (x != 0) = true := by simp [h2]
        have HX := Lib.hid h2
        clear h2
        go_wp2_with (go_at_call 92; refine (times1_any _ _).mono ?_; rintro e w' ⟨rfl, rfl⟩)
        go_ret
        exact ⟨k, rfl, by rw [zeroB, HF.out (by rw [HS.out]; simp [HX.out])]; simp, rfl⟩
    · go_wp2
      go_ret
      exact ⟨-1, rfl, by have ha := HA.out; rw [List.take_of_length_le (by omega)] at ha; rw [ha]; decide, rfl⟩
theorem contains0_any (v : Value) (xs : List Int) (w : World) (h : Ints w v xs) :
    Calls Try.prog 91 #[v, .func (.func 92) #[] #[]] w fun e w' => e = .returned (.bool (!zeroB xs)) ∧ w' = w := by
  have H := Lib.hid h
  obtain ⟨a, cap, rfl, -⟩ := h
  go_enter Try.func91, Try.ntmps91
  go_wp2_with fail
  refine (index0_any _ _ _ H.out).mono ?_
  rintro e w' ⟨k, rfl, hk, rfl⟩
  have HK := Lib.hid hk
  clear hk
  go_wp2_with fail
  go_ret
  exact ⟨by show Ending.returned (.bool (decide (0 ≤ k))) = _; rw [HK.out], rfl⟩

/-- Copying into a row of the call's own. -/
theorem copied {w : World} {base g n cap : Nat} {zs xs : List Int} (h : OwnI w base (.slice (some ⟨g, 0, none⟩) n cap) zs) (hl : xs.length = n) :
    ∃ cur, w.heap[g]? = some (.cells cur 3 (0, 0)) ∧ n ≤ cur.size ∧ ∀ (W : World), W = w.setRow g (xs.map (Value.int .i64) ++ cur.toList.drop xs.length).toArray →
      OwnI W base (.slice (some ⟨g, 0, none⟩) n cap) xs ∧ w.grownBy W (some g) := by
  rcases h.2 with ⟨h', _⟩ | ⟨g', cap', cur, h', hb, hh, hn, hm, hs, ht⟩
  · simp at h'
  · simp only [Value.slice.injEq, Option.some.injEq, Addr.mk.injEq] at h'
    obtain ⟨⟨rfl, -⟩, h2, rfl⟩ := h'
    have hzl : zs.length = n := h2.symm
    rw [Nat.mul_one] at hs
    refine ⟨cur, hh, by omega, ?_⟩
    rintro W rfl
    refine ⟨⟨by simp, .inr ⟨g, cap, _, by rw [hl], hb, setRow_heap _ _ _ _ _ _ hh, by omega, hm, ?_, ?_⟩⟩, ?_⟩
    · simp <;> omega
    · simp [hl]
    · exact ⟨rfl, rfl, rfl, by simp [World.setRow], fun k _ hk => setRow_other w g k _ (by intro e; exact hk (by rw [e]))⟩

end Go.Proofs.Ytgdnlibklopdiaa
