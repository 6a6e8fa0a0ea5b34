/- Contracts of the reference of words: Valid, Places, Proves. -/
import Derived.Test.YtaenkbcclgpphaaWk
namespace Go.Proofs.Ytaenkbcclgpphaa
open Go.RowKit
set_option linter.unusedVariables false

theorem rvalidW_any (v : Value) (xs : List Int) (w : World) (h : Ints w v xs) :
    Calls Try.prog 18 #[v] w fun e w' => e = .returned (.bool (validW xs)) ∧ w' = w := by
  obtain ⟨a, cap, rfl, hl, hb, hc⟩ := h
  unfold maxLen at hl
  clear hb
  go_enter Try.func18, Try.ntmps18
  go_wp2
  go_loop [3] (fun i => ∃ k : Nat, k ≤ xs.length ∧ i = .int .i64 k ∧ (xs.take k).all letterB = true) (fun i => xs.length - (intOf i).toNat)
  case atStart => exact ⟨0, Nat.zero_le _, rfl, rfl⟩
  case round =>
    obtain ⟨k, hk, rfl, ha⟩ := hrel
    by_cases hlt : k < xs.length
    · have HS := Lib.hid (all_snoc letterB xs k hlt)
      obtain ⟨b, off, rfl, hx⟩ := Ints.at hc hlt
      have HA := Lib.hid ha
      have h1 : (k : Int) < (xs.length : Int) := by omega
      clear ha hc
      generalize xs[k]?.getD 0 = x at *
      by_cases h0 : x < 0
      · have g1 : decide (x < 0) = true := by simpa using h0
        go_wp2_with fail
        go_ret
        exact ⟨ret_bool (validW_false (k := k + 1) (by rw [HS.out, HA.out]; simp [letterB]; omega)).symm, rfl⟩
      · have g1 : decide (x < 0) = false := by simpa using h0
        by_cases h2 : x < 16
        · have g2 : decide (16 ≤ x) = false := by simp; omega
          go_wp2_with fail
          go_round
          case rel => exact ⟨k + 1, by omega, by go_num, by rw [HS.out, HA.out]; simp [letterB]; omega⟩
          case measure => simp [intOf]; omega
        · have g2 : decide (16 ≤ x) = true := by simp; omega
          go_wp2_with fail
          go_ret
          exact ⟨ret_bool (validW_false (k := k + 1) (by rw [HS.out, HA.out]; simp [letterB]; omega)).symm, rfl⟩
    · clear hc
      have HA := Lib.hid ha
      clear ha
      have h1 : ¬ (k : Int) < (xs.length : Int) := by omega
      go_wp2_with fail
      go_ret
      exact ⟨ret_bool (by have ha := HA.out; rw [List.take_of_length_le (by omega)] at ha; rw [validW, ha, Bool.and_true, decide_eq_decide]; omega), rfl⟩

theorem okP_neg {ys : List Int} {x p before : Int} (h : p < 0) (hb : -1 ≤ before) : okP ys x p before = false := by
  unfold okP
  have : decide (before < p) = false := by simp; omega
  rw [this]; rfl
theorem okP_far {ys : List Int} {x p before : Int} (h : (ys.length : Int) ≤ p) : okP ys x p before = false := by
  unfold okP
  have : decide (p < (ys.length : Int)) = false := by simp; omega
  rw [this]; simp
theorem okP_low {ys : List Int} {x p before : Int} (h : p ≤ before) : okP ys x p before = false := by
  unfold okP
  have : decide (before < p) = false := by simp; omega
  rw [this]; rfl
theorem okP_in {ys : List Int} {x before : Int} {q : Nat} (h : before < q) (hq : q < ys.length) : okP ys x q before = (ys[q]?.getD 0 == x) := by
  unfold okP
  have h1 : decide (before < (q : Int)) = true := by simpa using h
  have h2 : decide ((q : Int) < (ys.length : Int)) = true := by simpa using hq
  rw [h1, h2]; simp
theorem lastP_take {ps : List Int} {k : Nat} (h : k < ps.length) : lastP (ps.take (k + 1)) (-1) = ps[k]?.getD 0 := by rw [take_snoc' ps k h, lastP_snoc]

set_option maxRecDepth 100000 in
set_option maxHeartbeats 8000000 in
theorem rplaces_any (va vb vp : Value) (xs ys ps : List Int) (w : World) (h : Ints w va xs) (h' : Ints w vb ys) (h'' : Ints w vp ps) :
    Calls Try.prog 52 #[va, vb, vp] w fun e w' => e = .returned (.bool (provesL ys xs ps (-1))) ∧ Drew w w' := by
  obtain ⟨a, cap, rfl, hl, _, hc⟩ := h
  obtain ⟨a', cap', rfl, hl1, _, hc'⟩ := h'
  obtain ⟨a'', cap'', rfl, hl2, hb2, hc''⟩ := h''
  unfold maxLen at hl hl1 hl2
  have B2 := Lib.hid hb2
  clear hb2
  by_cases h3 : ps.length = xs.length
  · have H3 := Lib.hid h3
    have h4 : ((ps.length : Int) != (xs.length : Int)) = false := by simp [h3]
    have hle : ps.length ≤ xs.length := by omega
    have hge : xs.length ≤ ps.length := by omega
    clear h3
    go_enter Try.func52, Try.ntmps52
    go_wp2_with fail
    go_loopw [7] (fun v wr => ∃ k n : Nat, k ≤ xs.length ∧ v = .int .i64 k ∧ Hid (0 < k → 0 ≤ ps[k - 1]?.getD 0) ∧ Hid (provesL ys (xs.take k) (ps.take k) (-1) = true) ∧ wr = w.drewN n) (fun i _ => xs.length - (intOf i).toNat)
    case atStart => exact ⟨0, 0, Nat.zero_le _, rfl, Lib.hid (by omega), Lib.hid (by simp [provesL]), rfl⟩
    case round =>
      obtain ⟨k, n, hk, rfl, hz, ha, rfl⟩ := hrel
      by_cases hlt : k < xs.length
      · have hlt' : k < ps.length := by omega
        have hsp := provesL_split ys xs ps k H3.out.symm hlt
        rw [ha.out, Bool.true_and] at hsp
        have HS := Lib.hid hsp
        clear hsp
        have hlb : -1 ≤ lastP (ps.take k) (-1) := by
          cases k with
          | zero => simp [lastP]
          | succ m => rw [lastP_take (by omega)]; have := hz.out (by omega); simp only [Nat.add_sub_cancel] at this; omega
        have HLB := Lib.hid hlb
        clear hlb
        have HF : Hid (okP ys (xs[k]?.getD 0) (ps[k]?.getD 0) (lastP (ps.take k) (-1)) = false → provesL ys xs ps (-1) = false) := Lib.hid (fun e => provesL_false ys xs ps (k + 1) (-1) (by rw [HS.out, e]) H3.out.symm)
        obtain ⟨b, off, rfl, hx⟩ := Ints.at hc hlt
        obtain ⟨b'', off'', rfl, hx''⟩ := Ints.at hc'' hlt'
        obtain ⟨hp0, hp1⟩ := Ints.bd B2.out hlt'
        have hlt2 : (k : Int) < (ps.length : Int) := by omega
        have hlt3 : (k : Int) < (xs.length : Int) := by omega
        clear hc
        have hpk := Lib.hid (rfl : ps[k]?.getD 0 = ps[k]?.getD 0)
        generalize hgx : xs[k]?.getD 0 = x at *
        generalize hgp : ps[k]?.getD 0 = p at *
        have GP := Lib.hid hgp
        clear hgx hgp hpk
        by_cases c1 : p < 0
        · have g1 : decide (p < 0) = true := by simpa using c1
          have E1 := Lib.hid (HF.out (okP_neg c1 HLB.out))
          clear hc' hc''
          go_wp2_with fail
          go_big_quiet (fail)
          go_wp2_with fail
          go_ret
          exact ⟨ret_bool E1.out.symm, (Drew.mk _ _).trans (Drew.mk _ _)⟩
        have g1 : decide (p < 0) = false := by simpa using c1
        by_cases c2 : (ys.length : Int) ≤ p
        · have g2 : decide ((ys.length : Int) ≤ p) = true := by simpa using c2
          have E1 := Lib.hid (HF.out (okP_far c2))
          clear hc' hc''
          go_wp2_with fail
          go_big_quiet (fail)
          go_wp2_with fail
          go_ret
          exact ⟨ret_bool E1.out.symm, (Drew.mk _ _).trans (Drew.mk _ _)⟩
        obtain ⟨q, rfl⟩ := Int.eq_ofNat_of_zero_le (show 0 ≤ p by omega)
        have c2' : q < ys.length := by omega
        have g2 : decide ((ys.length : Int) ≤ (q : Int)) = false := by simp; omega
        have g2' : decide (ys.length ≤ q) = false := by simp; omega
        obtain ⟨b', off', rfl, hx'⟩ := Ints.at hc' c2'
        have g0 : decide ((q : Int) < 0) = false := decide_eq_false (by omega)
        clear hc' g1
        have HY := Lib.hid (rfl : ys[q]?.getD 0 = ys[q]?.getD 0)
        generalize hgy : ys[q]?.getD 0 = y at *
        have GY := Lib.hid hgy
        clear hgy HY
        by_cases c3 : y = x
        · have g3 : (y != x) = false := by simp [c3]
          have C3 := Lib.hid c3
          clear c3
          by_cases hk0 : k = 0
          · have hlast : lastP (ps.take k) (-1) = -1 := by rw [hk0]; simp [lastP]
            have hok := okP_in (x := x) (before := lastP (ps.take k) (-1)) (q := q) (by rw [hlast]; omega) c2'
            have E1 : Hid (provesL ys (xs.take (k + 1)) (ps.take (k + 1)) (-1) = true) := Lib.hid (by rw [HS.out, hok, GY.out, C3.out]; simp)
            have Z1 : Hid (0 < k + 1 → 0 ≤ ps[k + 1 - 1]?.getD 0) := Lib.hid (fun _ => by rw [Nat.add_sub_cancel, GP.out]; omega)
            have i2 : decide ((0 : Int) < (k : Int)) = false := by simp; omega
            have i2' : decide (0 < k) = false := by simp; omega
            have i3 : ¬ (0 : Int) < (k : Int) := by omega
            clear hc'' hlast hok hk0
            go_wp2_with fail
            go_big_quiet (fail)
            go_wp2_with fail
            go_roundw
            case rel => exact ⟨k + 1, _, by omega, by go_num, Z1, E1, rfl⟩
            case measure => simp [intOf]; omega
          · obtain ⟨m, hm⟩ : ∃ m, k = m + 1 := ⟨k - 1, by omega⟩
            obtain ⟨b9, off9, hab, hx9⟩ := Ints.at hc'' (show m < ps.length by omega)
            simp only [Option.some.injEq, Addr.mk.injEq, and_true] at hab
            obtain ⟨rfl, rfl⟩ := hab
            have hL := lastP_take (show m < ps.length by omega)
            rw [← hm] at hL
            obtain ⟨hq0, hq1⟩ := Ints.bd B2.out (show m < ps.length by omega)
            generalize ps[m]?.getD 0 = r at *
            have HL := Lib.hid hL
            have i1 : IntKind.i64.wrap ((k : Int) - 1) = (m : Int) := by rw [IntWalk.i64_in _ (by omega)]; omega
            have i2 : decide ((0 : Int) < (k : Int)) = true := by simp; omega
            have i2' : decide (0 < k) = true := by simp; omega
            have i4 : (0 : Int) < (k : Int) := by omega
            have i3 : (m : Int) < (ps.length : Int) := by omega
            have HM := Lib.hid hm
            clear hL hc'' hk0 hm
            by_cases c4 : (q : Int) ≤ r
            · have g4 : decide ((q : Int) ≤ r) = true := by simpa using c4
              have E1 := Lib.hid (HF.out (okP_low (by rw [HL.out]; exact c4)))
              go_wp2_with fail
              go_big_quiet (fail)
              go_wp2_with fail
              go_ret
              exact ⟨ret_bool E1.out.symm, (Drew.mk _ _).trans (Drew.mk _ _)⟩
            · have g4 : decide ((q : Int) ≤ r) = false := by simpa using c4
              have hok := okP_in (x := x) (before := lastP (ps.take k) (-1)) (q := q) (by rw [HL.out]; omega) c2'
              have E1 : Hid (provesL ys (xs.take (k + 1)) (ps.take (k + 1)) (-1) = true) := Lib.hid (by rw [HS.out, hok, GY.out, C3.out]; simp)
              have Z1 : Hid (0 < k + 1 → 0 ≤ ps[k + 1 - 1]?.getD 0) := Lib.hid (fun _ => by rw [Nat.add_sub_cancel, GP.out]; omega)
              clear hok
              go_wp2_with fail
              go_big_quiet (fail)
              go_wp2_with fail
              go_roundw
              case rel => exact ⟨k + 1, _, by omega, by go_num, Z1, E1, rfl⟩
              case measure => simp [intOf]; omega
        · have g3 : (y != x) = true := by simpa using c3
          have E1 := Lib.hid (HF.out (by
            by_cases c5 : lastP (ps.take k) (-1) < (q : Int)
            · rw [okP_in c5 c2', GY.out]; simpa using c3
            · exact okP_low (by omega)))
          clear hc'' c3
          go_wp2_with fail
          go_big_quiet (fail)
          go_wp2_with fail
          go_ret
          exact ⟨ret_bool E1.out.symm, (Drew.mk _ _).trans (Drew.mk _ _)⟩
      · clear hc hc' hc''
        have h1 : ¬ (k : Int) < (xs.length : Int) := by omega
        go_wp2_with fail
        go_ret
        exact ⟨ret_bool (by have ha := ha.out; have h3 := H3.out; rw [List.take_of_length_le (by omega), List.take_of_length_le (by omega)] at ha; rw [ha]), Drew.mk _ _⟩
  · have h4 : ((ps.length : Int) != (xs.length : Int)) = true := by simp; omega
    have H3 := Lib.hid h3
    clear h3 hc hc' hc''
    go_enter Try.func52, Try.ntmps52
    go_wp2_with fail
    go_ret
    exact ⟨ret_bool (by cases hq : provesL ys xs ps (-1)
                        · rfl
                        · exact absurd (provesL_len _ _ _ _ hq).symm H3.out), Drew.refl _⟩

theorem rprovesW_any (va vb vp : Value) (xs ys ps : List Int) (w : World) (h : Ints w va xs) (h' : Ints w vb ys) (h'' : Ints w vp ps) :
    Calls Try.prog 27 #[va, vb, vp] w fun e w' => e = .returned (.bool (provesW xs ys ps)) ∧ Drew w w' := by
  have H := Lib.hid h; have H' := Lib.hid h'; have H'' := Lib.hid h''
  clear h h' h''
  cases h1 : validW xs
  · have E : Hid (provesW xs ys ps = false) := Lib.hid (by simp [provesW, h1])
    have H1 := Lib.hid h1
    clear h1
    go_enter Try.func27, Try.ntmps27
    go_wp2_with fail
    refine (rvalidW_any _ _ _ H.out).mono ?_; rintro e w' ⟨rfl, rfl⟩
    rw [H1.out]
    go_wp2_with fail
    go_ret
    exact ⟨ret_bool E.out.symm, Drew.refl _⟩
  cases h2 : validW ys
  · have E : Hid (provesW xs ys ps = false) := Lib.hid (by simp [provesW, h2])
    have H1 := Lib.hid h1; have H2 := Lib.hid h2
    clear h1 h2
    go_enter Try.func27, Try.ntmps27
    go_wp2_with fail
    refine (rvalidW_any _ _ _ H.out).mono ?_; rintro e w1 ⟨rfl, rfl⟩
    rw [H1.out]
    go_wp2_with fail
    refine (rvalidW_any _ _ _ H'.out).mono ?_; rintro e w' ⟨rfl, rfl⟩
    rw [H2.out]
    go_wp2_with fail
    go_ret
    exact ⟨ret_bool E.out.symm, Drew.refl _⟩
  · have E : Hid (provesW xs ys ps = provesL ys xs ps (-1)) := Lib.hid (by simp [provesW, h1, h2])
    have H1 := Lib.hid h1; have H2 := Lib.hid h2
    clear h1 h2
    go_enter Try.func27, Try.ntmps27
    go_wp2_with fail
    refine (rvalidW_any _ _ _ H.out).mono ?_; rintro e w1 ⟨rfl, rfl⟩
    rw [H1.out]
    go_wp2_with fail
    refine (rvalidW_any _ _ _ H'.out).mono ?_; rintro e w' ⟨rfl, rfl⟩
    rw [H2.out]
    go_wp2_with fail
    refine (rplaces_any _ _ _ _ _ _ _ H.out H'.out H''.out).mono ?_; rintro e w2 ⟨rfl, hd⟩
    have HD := Lib.hid hd
    clear hd
    go_wp2_with fail
    go_ret
    exact ⟨ret_bool E.out.symm, HD.out⟩

end Go.Proofs.Ytaenkbcclgpphaa
