/- Contracts of package priority: quiet, firstPlace. -/
import Derived.Test.YtaenkbcclgpphaaPm
import Derived.Test.YtaenkbcclgpphaaGb
import Derived.Deep.RegionHeld3
namespace Go.Proofs.Ytaenkbcclgpphaa
open Go.RowKit
set_option linter.unusedVariables false

theorem letter_nat {rs b : List Int} (h : validP rs b = true) {k : Nat} (hk : k < b.length) : ∃ q : Nat, b[k]?.getD 0 = (q : Int) ∧ q < rs.length := by
  have := (validP_le h).2.2 _ (List.getElem_mem hk)
  obtain ⟨q, hq⟩ := Int.eq_ofNat_of_zero_le this.1
  exact ⟨q, by simp [hk, hq], by omega⟩
theorem rk_nat (rs : List Int) (q : Nat) : rk rs (q : Int) = rs[q]?.getD 0 := rfl
theorem sub_at (b : List Int) (f m k : Nat) (hm : m ≤ b.length) (hk : k < m - f) : ((b.take m).drop f)[k]?.getD 0 = b[f + k]?.getD 0 := by
  rw [List.getElem?_drop, List.getElem?_take, if_pos (by omega)]

set_option maxHeartbeats 2000000 in
theorem pquiet_any (vr vb : Value) (rs b : List Int) (f m : Nat) (w : World) (hr : Ints w vr rs) (hb : RowOk w (vb, b)) (hv : validP rs b = true) (hf : f ≤ m) (hm : m < b.length) :
    Calls Try.prog 71 #[vr, vb, .int .i64 (f : Int), .int .i64 (m : Int)] w fun e w' => e = .returned (.bool (quietP rs b f m)) ∧ Drew w w' := by
  have HV := Lib.hid hv; have HB := Lib.hid hb
  obtain ⟨ar, cr, rfl, hrl, -, hrc⟩ := hr
  obtain ⟨⟨a, cap, hvb, hl, -, hc⟩, hgood, -⟩ := hb
  simp only at hvb
  subst hvb
  have hcap := hgood.2 _ _ _ rfl
  dsimp only at hl hc
  unfold maxLen at hrl hl
  obtain ⟨b0, off, rfl, hy⟩ := Ints.at hc hm
  obtain ⟨q2, hq2, hq2l⟩ := letter_nat hv hm
  obtain ⟨br, offr, rfl, hy2⟩ := Ints.at hrc hq2l
  rw [hq2] at hy
  have HP : Hid (quietP rs b f m = ((b.take m).drop f).all (fun x => decide (rk rs x ≤ rs[q2]?.getD 0))) := Lib.hid (by unfold quietP; rw [hq2]; rfl)
  have HL : Hid (((b.take m).drop f).length = m - f) := Lib.hid (by rw [List.length_drop, List.length_take]; omega)
  have i1 : (q2 : Int) < (rs.length : Int) := by omega
  have i2 : (m : Int) < (b.length : Int) := by omega
  have i3 : (0 : Int) ≤ (f : Int) := by omega
  have i4 : (f : Int) ≤ (m : Int) := by omega
  have i5 : (m : Int) ≤ (cap : Int) := by omega
  have i6 : ¬ cap = f := by omega
  have hfl : f < cap := by omega
  generalize rs[q2]?.getD 0 = y at *
  clear hq2 hv
  go_enter Try.func71, Try.ntmps71
  go_wp2_with fail
  go_loopw [16] (fun i wr => ∃ k n : Nat, k ≤ m - f ∧ i = .int .i64 k ∧ Hid ((((b.take m).drop f).take k).all (fun x => decide (rk rs x ≤ y)) = true) ∧ wr = w.drewN n) (fun i _ => (m - f) - (intOf i).toNat)
  case atStart => exact ⟨0, 0, Nat.zero_le _, rfl, Lib.hid rfl, rfl⟩
  case round =>
    obtain ⟨k, n, hk, rfl, ha, rfl⟩ := hrel
    by_cases hlt : k < m - f
    · have g1 : (k : Int) < ((m - f : Nat) : Int) := by omega
      have hfk : f + k < b.length := by omega
      obtain ⟨q, hq, hql⟩ := letter_nat HV.out hfk
      have hx : w.cell? ⟨b0, off + f + k, none⟩ = some (.int .i64 (q : Int)) := by
        rcases hc with rfl | ⟨b1, o1, hab, hc⟩
        · simp at hm
        · simp only [Option.some.injEq, Addr.mk.injEq, and_true] at hab
          obtain ⟨rfl, rfl⟩ := hab
          rw [Nat.add_assoc, hc (f + k) hfk, hq]
      have hx2 : w.cell? ⟨br, offr + q, none⟩ = some (.int .i64 (rs[q]?.getD 0)) := by
        rcases hrc with rfl | ⟨b1, o1, hab, hrc⟩
        · simp at hql
        · simp only [Option.some.injEq, Addr.mk.injEq, and_true] at hab
          obtain ⟨rfl, rfl⟩ := hab
          exact hrc q hql
      have HS : Hid ((((b.take m).drop f).take (k + 1)).all (fun x => decide (rk rs x ≤ y)) = ((((b.take m).drop f).take k).all (fun x => decide (rk rs x ≤ y)) && decide (rs[q]?.getD 0 ≤ y))) := Lib.hid (by
        rw [all_snoc (fun x => decide (rk rs x ≤ y)) _ k (by rw [HL.out]; exact hlt), sub_at b f m k (by omega) hlt, hq]; rfl)
      have HN : Hid ((((b.take m).drop f).take (k + 1)).all (fun x => decide (rk rs x ≤ y)) = false → quietP rs b f m = false) := Lib.hid (fun e => by rw [HP.out]; exact all_of_false _ _ _ e)
      have j1 : (q : Int) < (rs.length : Int) := by omega
      generalize rs[q]?.getD 0 = x at *
      clear hq hc hrc
      by_cases hp : y < x
      · have g2 : decide (y < x) = true := by simpa using hp
        have E := Lib.hid (HN.out (by rw [HS.out, decide_eq_false (by omega), Bool.and_false]))
        go_wp2_with fail
        go_big_quiet (fail)
        go_wp2_with fail
        go_ret
        exact ⟨ret_bool E.out.symm, (Drew.mk _ _).trans (Drew.mk _ _)⟩
      · have g2 : decide (y < x) = false := by simpa using hp
        have E : Hid ((((b.take m).drop f).take (k + 1)).all (fun x => decide (rk rs x ≤ y)) = true) := Lib.hid (by rw [HS.out, ha.out, decide_eq_true (by omega)]; rfl)
        go_wp2_with fail
        go_big_quiet (fail)
        go_wp2_with fail
        go_roundw
        case rel => exact ⟨k + 1, _, by omega, by go_num, E, rfl⟩
        case measure => simp [intOf]; omega
    · have g1 : ¬ (k : Int) < ((m - f : Nat) : Int) := by omega
      clear hc hrc
      go_wp2_with fail
      go_ret
      exact ⟨ret_bool (by rw [HP.out]; have := ha.out; rw [List.take_of_length_le (by rw [HL.out]; omega)] at this; rw [this]), Drew.mk _ _⟩

theorem range_step0 (f n : Nat) (h : 0 < n) : List.range' f n = f :: List.range' (f + 1) (n - 1) := by
  obtain ⟨m, rfl⟩ : ∃ m, n = m + 1 := ⟨n - 1, by omega⟩
  rw [List.range'_succ]; rfl
theorem firstP_hit {rs b : List Int} {m : List Bool} {f j : Nat} (hf : f ≤ j) (hj : j < b.length) (hn : ∀ i, f ≤ i → i < j → hitP rs b m f i = false) (h : hitP rs b m f j = true) : firstP rs b m f = some j := by
  unfold firstP
  rw [show b.length - f = (j - f) + (b.length - j) by omega, List.range'_append_1.symm, List.find?_append]
  have h1 : (List.range' f (j - f)).find? (hitP rs b m f) = none := by
    rw [List.find?_eq_none]
    intro i hi
    rw [List.mem_range'_1] at hi
    rw [hn i hi.1 (by omega)]; simp
  rw [h1, show f + (j - f) = j by omega, range_step0 j (b.length - j) (by omega), List.find?_cons, h]
  rfl
theorem firstP_no {rs b : List Int} {m : List Bool} {f : Nat} (hn : ∀ i, f ≤ i → i < b.length → hitP rs b m f i = false) : firstP rs b m f = none := by
  unfold firstP
  rw [List.find?_eq_none]
  intro i hi
  rw [List.mem_range'_1] at hi
  rw [hn i hi.1 (by omega)]; simp

set_option maxHeartbeats 2000000 in
theorem firstplace_any (vr vb vm : Value) (rs b : List Int) (ms : List Bool) (f : Nat) (w : World) (hr : Ints w vr rs) (hb : RowOk w (vb, b)) (hms : Bools w vm ms) (hml : ms.length = b.length) (hv : validP rs b = true) (hf : f ≤ b.length) :
    Calls Try.prog 64 #[vr, vb, .int .i64 (f : Int), vm] w fun e w' => e = .returned (.int .i64 (optI (firstP rs b ms f))) ∧ Drew w w' := by
  have HV := Lib.hid hv; have HB := Lib.hid hb; have HR := Lib.hid hr
  obtain ⟨⟨a, cap, hvb, hl, -, -⟩, -, -⟩ := hb
  simp only at hvb
  subst hvb
  obtain ⟨am, cm, rfl, -, hc⟩ := hms
  dsimp only at hl
  unfold maxLen at hl
  have HML := Lib.hid hml
  have hml1 : ms.length ≤ b.length := by omega
  have hml2 : b.length ≤ ms.length := by omega
  clear hr hv hml
  go_enter Try.func64, Try.ntmps64
  go_wp2_with fail
  go_loopw [9] (fun i wr => ∃ j n : Nat, f ≤ j ∧ j ≤ b.length ∧ i = .int .i64 j ∧ Hid (∀ i, f ≤ i → i < j → hitP rs b ms f i = false) ∧ wr = w.drewN n) (fun i _ => b.length - (intOf i).toNat)
  case atStart => exact ⟨f, 0, Nat.le_refl _, hf, rfl, Lib.hid (by omega), rfl⟩
  case round =>
    obtain ⟨j, n, hfj, hj, rfl, ha, rfl⟩ := hrel
    by_cases hlt : j < b.length
    · have g1 : (j : Int) < (b.length : Int) := by omega
      have g2 : (j : Int) < (ms.length : Int) := by omega
      obtain ⟨b1, o1, rfl, hx⟩ := Bools.at hc (show j < ms.length by omega)
      have HH : Hid (hitP rs b ms f j = (ms[j]?.getD false && quietP rs b f j)) := Lib.hid rfl
      have HNX : Hid (hitP rs b ms f j = false → ∀ i, f ≤ i → i < j + 1 → hitP rs b ms f i = false) := Lib.hid (fun e i h1 h2 => by
        rcases Nat.lt_or_ge i j with h | h
        · exact ha.out i h1 h
        · obtain rfl : i = j := by omega
          exact e)
      generalize ms[j]?.getD false = mk at *
      clear hc
      cases mk
      · go_wp2_with fail
        go_roundw
        case rel => exact ⟨j + 1, n, by omega, by omega, by go_num, Lib.hid (HNX.out (by rw [HH.out]; rfl)), rfl⟩
        case measure => simp [intOf]; omega
      · go_wp2_with fail
        refine (pquiet_any _ _ _ _ _ _ _ (HR.out.same (grown_drewN _ _ none)) (HB.out.same (grown_drewN _ _ none)) HV.out hfj hlt).mono ?_
        rintro e w1 ⟨rfl, m, rfl⟩
        cases hq : quietP rs b f j
        · have HQ := Lib.hid hq
          clear hq
          go_wp2_with fail
          go_roundw
          case rel => exact ⟨j + 1, n + m, by omega, by omega, by go_num, Lib.hid (HNX.out (by rw [HH.out, HQ.out]; rfl)), by simp⟩
          case measure => simp [intOf]; omega
        · have HQ := Lib.hid hq
          clear hq
          go_wp2_with fail
          go_ret
          exact ⟨ret_int (by rw [firstP_hit hfj hlt ha.out (by rw [HH.out, HQ.out]; rfl)]; rfl), Drew.mk _ _⟩
    · have g1 : ¬ (j : Int) < (b.length : Int) := by omega
      clear hc
      go_wp2_with fail
      go_ret
      exact ⟨ret_int (by rw [firstP_no (fun i h1 h2 => ha.out i h1 (by omega))]; rfl), Drew.mk _ _⟩

end Go.Proofs.Ytaenkbcclgpphaa
