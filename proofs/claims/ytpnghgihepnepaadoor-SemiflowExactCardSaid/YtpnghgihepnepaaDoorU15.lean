/- Texts Da in one. -/
import Derived.Test.YtpnghgihepnepaaDoorU12
import Derived.Test.YtpnghgihepnepaaDoorU13
import Derived.Test.YtpnghgihepnepaaDoorU14
namespace Go.Proofs.YtpnghgihepnepaaDoor
open Go.RowKit
set_option linter.unusedVariables false

/-! ### Max, Min -/
def IsMax (m : Int) (xs : List Int) : Prop := m ∈ xs ∧ ∀ x ∈ xs, x ≤ m
theorem IsMax.next {m : Int} {xs : List Int} {k : Nat} (h : IsMax m (xs.take k)) (hk : k < xs.length) : IsMax (max m (xs[k]?.getD 0)) (xs.take (k + 1)) := by
  rw [take_snoc' xs k hk]
  refine ⟨?_, ?_⟩
  · rcases Int.le_total m (xs[k]?.getD 0) with h1 | h1
    · rw [Int.max_eq_right h1]; simp
    · rw [Int.max_eq_left h1]; exact List.mem_append_left _ h.1
  · intro x hx
    rcases List.mem_append.1 hx with hx | hx
    · have := h.2 x hx; omega
    · simp at hx; subst hx; omega
def Maxs (xs : List Int) (w : World) (e : Ending) (w' : World) : Prop := ∃ m, e = .returned (.int .i64 m) ∧ IsMax m xs ∧ w' = w
theorem max_any (v : Value) (xs : List Int) (w : World) (h : Ints w v xs) (hne : 1 ≤ xs.length) :
    Calls Tryd.prog 39 #[v] w (Maxs xs w) := by
  obtain ⟨a, cap, rfl, hl, hb, hc⟩ := h
  unfold maxLen at hl
  have h0 : ¬ (xs.length : Int) < 1 := by omega
  obtain ⟨b, off, rfl, hx0⟩ := Ints.at hc (show 0 < xs.length by omega)
  rw [Nat.add_zero] at hx0
  go_enter Tryd.func39, Tryd.ntmps39
  go_wp2
  go_loopw [3, 4] (fun m i wr => ∃ (k : Nat) (z : Int), 1 ≤ k ∧ k ≤ xs.length ∧ i = .int .i64 k ∧ m = .int .i64 z ∧ Hid (IsMax z (xs.take k)) ∧ wr = w) (fun _ i _ => xs.length - (intOf i).toNat)
  case atStart => exact ⟨1, _, Nat.le_refl _, by omega, rfl, rfl, Lib.hid (by
    rw [take_snoc' xs 0 (by omega)]
    exact ⟨by simp, by simp⟩), rfl⟩
  case round =>
    obtain ⟨k, z, hk1, hk, rfl, rfl, hm, rfl⟩ := hrel
    by_cases hlt : k < xs.length
    · have HN := Lib.hid (hm.out.next hlt)
      obtain ⟨b, off, hb1, hx⟩ := Ints.at hc hlt
      obtain ⟨rfl, rfl⟩ : _ ∧ _ := by simpa using hb1
      have h1 : (k : Int) < (xs.length : Int) := by omega
      clear hc hx0 hb1 hm
      generalize xs[k]?.getD 0 = x at *
      go_wp2
      go_roundw
      case rel => exact ⟨k + 1, _, by omega, by omega, by go_num, rfl, HN, trivial⟩
      case measure => simp [intOf]; omega
    · have h1 : ¬ (k : Int) < (xs.length : Int) := by omega
      go_wp2
      go_ret
      exact ⟨z, rfl, by have := hm.out; rwa [List.take_of_length_le (by omega)] at this, rfl⟩
def IsMin (m : Int) (xs : List Int) : Prop := m ∈ xs ∧ ∀ x ∈ xs, m ≤ x
theorem IsMin.next {m : Int} {xs : List Int} {k : Nat} (h : IsMin m (xs.take k)) (hk : k < xs.length) : IsMin (min m (xs[k]?.getD 0)) (xs.take (k + 1)) := by
  rw [take_snoc' xs k hk]
  refine ⟨?_, ?_⟩
  · rcases Int.le_total m (xs[k]?.getD 0) with h1 | h1
    · rw [Int.min_eq_left h1]; exact List.mem_append_left _ h.1
    · rw [Int.min_eq_right h1]; simp
  · intro x hx
    rcases List.mem_append.1 hx with hx | hx
    · have := h.2 x hx; omega
    · simp at hx; subst hx; omega
def Mins (xs : List Int) (w : World) (e : Ending) (w' : World) : Prop := ∃ m, e = .returned (.int .i64 m) ∧ IsMin m xs ∧ w' = w
theorem min_any (v : Value) (xs : List Int) (w : World) (h : Ints w v xs) (hne : 1 ≤ xs.length) :
    Calls Tryd.prog 46 #[v] w (Mins xs w) := by
  obtain ⟨a, cap, rfl, hl, hb, hc⟩ := h
  unfold maxLen at hl
  have h0 : ¬ (xs.length : Int) < 1 := by omega
  obtain ⟨b, off, rfl, hx0⟩ := Ints.at hc (show 0 < xs.length by omega)
  rw [Nat.add_zero] at hx0
  go_enter Tryd.func46, Tryd.ntmps46
  go_wp2
  go_loopw [3, 4] (fun m i wr => ∃ (k : Nat) (z : Int), 1 ≤ k ∧ k ≤ xs.length ∧ i = .int .i64 k ∧ m = .int .i64 z ∧ Hid (IsMin z (xs.take k)) ∧ wr = w) (fun _ i _ => xs.length - (intOf i).toNat)
  case atStart => exact ⟨1, _, Nat.le_refl _, by omega, rfl, rfl, Lib.hid (by
    rw [take_snoc' xs 0 (by omega)]
    exact ⟨by simp, by simp⟩), rfl⟩
  case round =>
    obtain ⟨k, z, hk1, hk, rfl, rfl, hm, rfl⟩ := hrel
    by_cases hlt : k < xs.length
    · have HN := Lib.hid (hm.out.next hlt)
      obtain ⟨b, off, hb1, hx⟩ := Ints.at hc hlt
      obtain ⟨rfl, rfl⟩ : _ ∧ _ := by simpa using hb1
      have h1 : (k : Int) < (xs.length : Int) := by omega
      clear hc hx0 hb1 hm
      generalize xs[k]?.getD 0 = x at *
      go_wp2
      go_roundw
      case rel => exact ⟨k + 1, _, by omega, by omega, by go_num, rfl, HN, trivial⟩
      case measure => simp [intOf]; omega
    · have h1 : ¬ (k : Int) < (xs.length : Int) := by omega
      go_wp2
      go_ret
      exact ⟨z, rfl, by have := hm.out; rwa [List.take_of_length_le (by omega)] at this, rfl⟩

/-! ### within, check -/
theorem within_any (v : Value) (xs : List Int) (most : Int) (w : World) (h : Ints w v xs) (hb : ∀ x ∈ xs, 0 ≤ x ∧ x ≤ most) :
    Calls Tryd.prog 38 #[v, .int .i64 most] w fun e w' => e = .returned (.bool true) ∧ w' = w := by
  obtain ⟨a, cap, rfl, hl, -, hc⟩ := h
  unfold maxLen at hl
  have HC := Lib.hid hc; have HB := Lib.hid hb
  clear hc hb
  go_enter Tryd.func38, Tryd.ntmps38
  go_wp2_with fail
  go_loop [9] (fun i => ∃ k : Nat, i = .int .i64 k ∧ k ≤ xs.length) (fun i => xs.length - (intOf i).toNat)
  case atStart => exact ⟨0, rfl, Nat.zero_le _⟩
  case round =>
    obtain ⟨k, rfl, hk⟩ := hrel
    by_cases hkb : k < xs.length
    · have h1 : (k : Int) < (xs.length : Int) := by omega
      have i1 : IntKind.i64.wrap ((k : Int) + 1) = (k : Int) + 1 := IntWalk.i64_in _ (by omega)
      obtain ⟨b, off, rfl, hx⟩ := Ints.at HC.out hkb
      have hb := mem_at (P := fun y => 0 ≤ y ∧ y ≤ most) HB.out hkb
      generalize xs[k]?.getD 0 = x at *
      have f1 : ¬ x < 0 := by omega
      have f2 : ¬ most < x := by omega
      go_wp2_with fail
      go_round
      case rel => exact ⟨k + 1, by go_num, by omega⟩
      case measure => simp [intOf]; omega
    · obtain rfl : k = xs.length := by omega
      have h1 : ¬ (xs.length : Int) < (xs.length : Int) := by omega
      go_wp2_with fail
      go_ret
      exact ⟨rfl, rfl⟩
theorem scheck_any {r c : Nat} {ps : List Row} {v : Value} {w : World} (h : RowsP w v ps) (hm : MatOkP r c ps) (h6 : r ≤ 6) :
    Calls Tryd.prog 30 #[v] w fun e w' => e = .returned (.int .i64 0) ∧ w' = w := by
  have H := Lib.hid h; have HM := Lib.hid hm
  obtain ⟨a, cap, rfl, -⟩ : ∃ a cap, v = .slice a ps.length cap ∧ True := by obtain ⟨a, cap, h, -⟩ := h; exact ⟨a, cap, h, trivial⟩
  have e1 : ¬ (6 : Int) < (ps.length : Int) := by have := hm.1; omega
  clear h hm
  go_enter Tryd.func30, Tryd.ntmps30
  go_wp2_with fail
  refine (Check10_any H.out HM.out).mono ?_
  rintro e w' ⟨rfl, hw⟩
  subst hw
  go_wp2_with fail
  go_ret
  exact ⟨rfl, rfl⟩

/-! ### Value -/
theorem value_any (vy vx : Value) (ys xs : List Int) (w : World) (h : Ints w vy ys) (h' : Ints w vx xs) (hl : ys.length = xs.length) (h6 : ys.length ≤ 6) (hy : ∀ y ∈ ys, 0 ≤ y ∧ y ≤ 1099511627776) (hx : ∀ x ∈ xs, 0 ≤ x ∧ x ≤ 1048576) :
    Calls Tryd.prog 24 #[vy, vx] w fun e w' => e = .returned (.tuple #[.int .i64 (dotL ys xs), .int .i64 0]) ∧ w' = w := by
  have HY := Lib.hid h; have HX := Lib.hid h'; have HYB := Lib.hid hy; have HXB := Lib.hid hx; have HL := Lib.hid hl
  obtain ⟨a, cap, rfl, -, -, hc⟩ := h
  obtain ⟨a2, cap2, rfl, -, -, hc2⟩ := h'
  rw [← hl] at HX ⊢
  have HC := Lib.hid hc; have HC2 := Lib.hid hc2
  have k1 : ((ys.length : Int) != (ys.length : Int)) = false := by simp
  have k2 : ¬ (6 : Int) < (ys.length : Int) := by omega
  clear hc hc2 hy hx hl
  go_enter Tryd.func24, Tryd.ntmps24
  go_wp2_with fail
  refine (within_any _ _ _ _ HY.out HYB.out).mono ?_
  rintro e w' ⟨rfl, hw⟩
  subst hw
  go_wp2_with fail
  refine (within_any _ _ _ _ HX.out HXB.out).mono ?_
  rintro e w' ⟨rfl, hw⟩
  subst hw
  go_wp2_with fail
  go_loop [29, 6] (fun i s => ∃ k : Nat, i = .int .i64 k ∧ k ≤ ys.length ∧ s = .int .i64 (dotL (ys.take k) (xs.take k))) (fun i _ => ys.length - (intOf i).toNat)
  case atStart => exact ⟨0, rfl, Nat.zero_le _, rfl⟩
  case round =>
    obtain ⟨k, rfl, hk, rfl⟩ := hrel
    by_cases hkb : k < ys.length
    · have h1 : (k : Int) < (ys.length : Int) := by omega
      have i1 : IntKind.i64.wrap ((k : Int) + 1) = (k : Int) + 1 := IntWalk.i64_in _ (by omega)
      have hkx : k < xs.length := by have := HL.out; omega
      obtain ⟨b, off, rfl, hc1⟩ := Ints.at HC.out hkb
      obtain ⟨b2, off2, rfl, hc2⟩ := Ints.at HC2.out hkx
      have b1 := mem_at (P := fun y => 0 ≤ y ∧ y ≤ 1099511627776) HYB.out hkb
      have b2' := mem_at (P := fun y => 0 ≤ y ∧ y ≤ 1048576) HXB.out hkx
      have hds := dot_snoc ys xs k hkb hkx
      have hbd := dot_bd (A := 1099511627776) (B := 1048576) (ys.take k) (xs.take k) (fun y hy => by have := HYB.out y (List.mem_of_mem_take hy); omega) (fun y hy => by have := HXB.out y (List.mem_of_mem_take hy); omega) (by decide)
      have hbl : (ys.take k).length ≤ 6 := by have := List.length_take_le k ys; omega
      have HDS := Lib.hid hds
      generalize (ys.take k).length = tl at *
      generalize dotL (ys.take k) (xs.take k) = s0 at *
      generalize ys[k]?.getD 0 = x at *
      generalize xs[k]?.getD 0 = y at *
      have hmb := mul_bd (x := x) (y := y) (A := 1099511627776) (B := 1048576) (by omega) (by omega)
      obtain ⟨z, hz⟩ : ∃ z, x * y = z := ⟨_, rfl⟩
      rw [hz] at hmb HDS
      have m1 : IntKind.i64.wrap (x * y) = z := by rw [hz]; exact IntWalk.i64_in _ (by omega)
      have m2 : IntKind.i64.wrap (s0 + z) = s0 + z := IntWalk.i64_in _ (by omega)
      have h2 : (k : Int) < (ys.length : Int) := h1
      clear hds b1 b2' hbd hbl hmb hz hkx
      go_wp2_with fail
      go_round
      case rel => exact ⟨k + 1, by go_num, by omega, by rw [HDS.out]⟩
      case measure => simp [intOf]; omega
    · obtain rfl : k = ys.length := by omega
      have h1 : ¬ (ys.length : Int) < (ys.length : Int) := by omega
      have es : dotL (ys.take ys.length) (xs.take ys.length) = dotL ys xs := by rw [List.take_length, List.take_of_length_le (by rw [HL.out]; exact Nat.le_refl _)]
      rw [es]
      clear es
      go_wp2_with fail
      go_ret2
      exact ⟨rfl, rfl⟩

/-! ### Holds -/
def HoldsTo (C : List (List Int)) (r : Nat) (y : List Int) (w : World) (e : Ending) (w' : World) : Prop := ∃ b : Bool, e = .returned (.bool b) ∧ (b = true ↔ (Flow C r y ∧ ∃ i : Nat, 0 < y[i]?.getD 0)) ∧ w' = w
theorem colI_colL (ps : List Row) (j : Nat) : colI (ps.map Prod.snd) j = colL ps j := by unfold colI colL; rw [List.map_map]; rfl
set_option maxRecDepth 100000 in
set_option maxHeartbeats 2000000 in
theorem holds_any {v vy : Value} {w : World} {ps : List Row} {y : List Int} {r c : Nat} (h : RowsP w v ps) (hm : MatOkP r c ps) (h6 : r ≤ 6) (hy : Ints w vy y) (hl : y.length = r) (hb : ∀ x ∈ y, 0 ≤ x ∧ x ≤ 1099511627776) :
    Calls Tryd.prog 17 #[v, vy] w (HoldsTo (ps.map Prod.snd) c y w) := by
  have HM := Lib.hid hm
  obtain ⟨hpl, hr1, hr12, hc1, hc12, hrc, hq⟩ := hm
  obtain ⟨a, cap, rfl, -⟩ : ∃ a cap, v = .slice a ps.length cap ∧ True := by obtain ⟨a, cap, h, -⟩ := h; exact ⟨a, cap, h, trivial⟩
  have H := Lib.hid h; have HQ := Lib.hid hq; have HY := Lib.hid hy; have HB := Lib.hid hb
  have h0 : 0 < ps.length := by omega
  obtain ⟨b, off, a2, c2, rfl, hc0, -, -⟩ := h.row h0
  rw [(hq _ (List.getElem_mem h0)).1, Nat.add_zero] at hc0
  obtain ⟨ay, cy, rfl, -, -, hyc⟩ := hy
  have HYC := Lib.hid hyc
  have HYL : Hid (y.length = ps.length) := Lib.hid (by omega)
  have hp6 : ps.length ≤ 6 := by omega
  rw [HYL.out] at HY ⊢
  have k1 : ((ps.length : Int) != (ps.length : Int)) = false := by simp
  have HFL : Hid (Flow (ps.map Prod.snd) c y ↔ ∀ j, j < c → dotL y (colL ps j) = 0) := Lib.hid (by
    unfold Flow
    constructor
    · rintro ⟨-, h2⟩ j hj; rw [← colI_colL]; exact h2 j hj
    · intro h2; exact ⟨by rw [List.length_map]; omega, fun j hj => by rw [colI_colL]; exact h2 j hj⟩)
  have HC0 := Lib.hid hc0
  clear h hq hb hyc hl hpl hr1 hr12 hrc h6
  go_enter Tryd.func17, Tryd.ntmps17
  go_wp2_with fail
  refine (scheck_any H.out HM.out (by have := HM.out.1; omega)).mono ?_
  rintro e w' ⟨rfl, hw⟩
  subst hw
  go_wp2_with fail
  refine (within_any _ _ _ _ HY.out HB.out).mono ?_
  rintro e w' ⟨rfl, hw⟩
  subst hw
  go_wp2_with fail
  refine (max_any _ _ _ HY.out (by have := HYL.out; omega)).mono ?_
  rintro e w' ⟨m, rfl, hmx, hw⟩
  subst hw
  have HMX := Lib.hid hmx
  by_cases hm0 : m = 0
  · subst hm0
    have q1 : ((0 : Int) == 0) = true := by decide
    clear hmx
    go_wp2_with fail
    go_ret
    refine ⟨false, rfl, ⟨fun h => (by cases h), fun h => ?_⟩, rfl⟩
    obtain ⟨-, i, hi⟩ := h
    by_cases hil : i < y.length
    · rw [List.getElem?_eq_getElem hil] at hi
      have := HMX.out.2 _ (List.getElem_mem hil)
      simp only [Option.getD_some] at hi
      omega
    · rw [List.getElem?_eq_none (by omega)] at hi; simp at hi
  · have q1 : (m == 0) = false := by simpa using hm0
    have HPOS : Hid (∃ i : Nat, 0 < y[i]?.getD 0) := Lib.hid (by
      obtain ⟨i, hi, e⟩ := List.getElem_of_mem hmx.1
      have := HB.out _ (List.getElem_mem hi)
      exact ⟨i, by rw [List.getElem?_eq_getElem hi]; simp only [Option.getD_some]; omega⟩)
    clear hmx
    go_wp2_with fail
    clear hc0
    go_loop [33] (fun i => ∃ j : Nat, i = .int .i64 j ∧ j ≤ c ∧ Hid (∀ j', j' < j → dotL y (colL ps j') = 0)) (fun i => c - (intOf i).toNat)
    case atStart => exact ⟨0, rfl, Nat.zero_le _, Lib.hid (fun j' h => by omega)⟩
    case round =>
      obtain ⟨j, rfl, hj, HD⟩ := hrel
      by_cases hjb : j < c
      · have h1 : (j : Int) < (c : Int) := by omega
        have i1 : IntKind.i64.wrap ((j : Int) + 1) = (j : Int) + 1 := IntWalk.i64_in _ (by omega)
        go_wp2_with fail
        go_loop [38, 6] (fun i s => ∃ k : Nat, i = .int .i64 k ∧ k ≤ ps.length ∧ s = .int .i64 (dotL (y.take k) ((colL ps j).take k))) (fun i _ => ps.length - (intOf i).toNat)
        case atStart => exact ⟨0, rfl, Nat.zero_le _, rfl⟩
        case round =>
          obtain ⟨k, rfl, hk, rfl⟩ := hrel
          by_cases hkb : k < ps.length
          · have h2 : (k : Int) < (ps.length : Int) := by omega
            have i2 : IntKind.i64.wrap ((k : Int) + 1) = (k : Int) + 1 := IntWalk.i64_in _ (by omega)
            have hky : k < y.length := by have := HYL.out; omega
            obtain ⟨by', oy, rfl, hcy⟩ := Ints.at HYC.out hky
            obtain ⟨b', off', ar, cr, hbe, hcr, -, hri⟩ := H.out.row hkb
            simp only [Option.some.injEq, Addr.mk.injEq, and_true] at hbe
            obtain ⟨rfl, rfl⟩ := hbe
            have hql := HQ.out _ (List.getElem_mem hkb)
            obtain ⟨_, _, hxv, -, -, hxc⟩ := hri
            simp only [Value.slice.injEq] at hxv
            obtain ⟨rfl, -, rfl⟩ := hxv
            obtain ⟨bx, ox, rfl, hcx⟩ := Ints.at hxc (show j < ps[k].2.length by rw [hql.1]; exact hjb)
            rw [hql.1] at hcr
            have b1 := mem_at (P := fun y => 0 ≤ y ∧ y ≤ 1099511627776) HB.out hky
            have b2 := mem_at (P := fun y => -16 ≤ y ∧ y ≤ 16) hql.2 (show j < ps[k].2.length by rw [hql.1]; exact hjb)
            have hds := dot_snoc y (colL ps j) k hky (by rw [colL_len]; exact hkb)
            rw [colL_at j hkb] at hds
            have hbd := dot_bd (A := 1099511627776) (B := 16) (y.take k) ((colL ps j).take k) (fun x hx => by have := HB.out x (List.mem_of_mem_take hx); omega) (fun x hx => by
              have hx2 := List.mem_of_mem_take hx
              unfold colL at hx2
              obtain ⟨q, hq', rfl⟩ := List.mem_map.1 hx2
              have hq2 := HQ.out q hq'
              have hjl : j < q.2.length := by omega
              rw [List.getElem?_eq_getElem hjl]
              exact hq2.2 _ (List.getElem_mem hjl)) (by decide)
            have hbl : (y.take k).length ≤ 6 := by have := List.length_take_le k y; omega
            have HDS := Lib.hid hds
            generalize (y.take k).length = tl at *
            generalize dotL (y.take k) ((colL ps j).take k) = s0 at *
            generalize ps[k].2[j]?.getD 0 = x at *
            generalize y[k]?.getD 0 = u at *
            have hmb := mul_bd (x := u) (y := x) (A := 1099511627776) (B := 16) (by omega) b2
            obtain ⟨z, hz⟩ : ∃ z, u * x = z := ⟨_, rfl⟩
            rw [hz] at hmb HDS
            have m1 : IntKind.i64.wrap (u * x) = z := by rw [hz]; exact IntWalk.i64_in _ (by omega)
            have m2 : IntKind.i64.wrap (s0 + z) = s0 + z := IntWalk.i64_in _ (by omega)
            clear hql hxc b1 b2 hds hbd hbl hmb hz hky
            go_wp2_with fail
            clear hcy hcr hcx
            go_round
            case rel => exact ⟨k + 1, by go_num, by omega, by rw [HDS.out]⟩
            case measure => simp [intOf]; omega
          · obtain rfl : k = ps.length := by omega
            have h2 : ¬ (ps.length : Int) < (ps.length : Int) := by omega
            have es : dotL (y.take ps.length) ((colL ps j).take ps.length) = dotL y (colL ps j) := by rw [List.take_of_length_le (by rw [HYL.out]; exact Nat.le_refl _), List.take_of_length_le (by rw [colL_len]; exact Nat.le_refl _)]
            rw [es]
            clear es
            by_cases hs : dotL y (colL ps j) = 0
            · rw [hs]
              have q2 : ((0 : Int) != 0) = false := by decide
              have HDN : Hid (∀ j', j' < j + 1 → dotL y (colL ps j') = 0) := Lib.hid (fun j' hj' => by
                by_cases e : j' = j
                · subst e; exact hs
                · exact HD.out j' (by omega))
              clear hs
              go_wp2_with fail
              go_round
              case rel => exact ⟨j + 1, by go_num, by omega, HDN⟩
              case measure => simp [intOf]; omega
            · have HS := Lib.hid hs
              have HNF : Hid (¬ Flow (ps.map Prod.snd) c y) := Lib.hid (fun hf => hs ((HFL.out.1 hf) j hjb))
              have q2 : (dotL y (colL ps j) != 0) = true := by simpa using hs
              generalize dotL y (colL ps j) = s at *
              clear hs
              go_wp2_with fail
              go_ret
              exact ⟨false, rfl, ⟨fun h => (by cases h), fun h => absurd h.1 HNF.out⟩, rfl⟩
      · obtain rfl : j = c := by omega
        have h1 : ¬ (j : Int) < (j : Int) := by omega
        go_wp2_with fail
        go_ret
        exact ⟨true, rfl, ⟨fun _ => ⟨HFL.out.2 HD.out, HPOS.out⟩, fun _ => rfl⟩, rfl⟩
end Go.Proofs.YtpnghgihepnepaaDoor
