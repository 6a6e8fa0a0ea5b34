/- Contracts of package word: Proves. -/
import Derived.Test.YtaenkbcclgpphaaWc
namespace Go.Proofs.Ytaenkbcclgpphaa
open Go.RowKit
set_option linter.unusedVariables false

set_option maxHeartbeats 1000000 in
theorem provesW_any (va vb vp : Value) (xs ys ps : List Int) (w : World) (h : Ints w va xs) (h' : Ints w vb ys) (h'' : Ints w vp ps) :
    Calls Try.prog 26 #[va, vb, vp] w fun e w' => e = .returned (.bool (provesW xs ys ps)) ∧ Drew w w' := by
  have H := Lib.hid h; have H' := Lib.hid h'; have H'' := Lib.hid h''
  obtain ⟨a, cap, rfl, hl, _, hc⟩ := h
  obtain ⟨a', cap', rfl, hl1, _, hc'⟩ := h'
  obtain ⟨a'', cap'', rfl, hl2, hb2, hc''⟩ := h''
  unfold maxLen at hl hl1 hl2
  have B2 := Lib.hid hb2
  clear hb2
  cases h1 : validW xs
  · clear hc hc' hc''
    go_enter Try.func26, Try.ntmps26
    go_wp2_with (go_at_call 17; refine (validW_any _ _ _ H.out).mono ?_; rintro e w' ⟨rfl, rfl⟩)
    go_ret
    exact ⟨ret_bool (by simp [provesW, h1]), Drew.refl _⟩
  cases h2 : validW ys
  · clear hc hc' hc''
    go_enter Try.func26, Try.ntmps26
    go_wp2_with fail
    refine (validW_any _ _ _ H.out).mono ?_; rintro e w' ⟨rfl, rfl⟩
    go_wp2_with fail
    refine (validW_any _ _ _ H'.out).mono ?_; rintro e w' ⟨rfl, rfl⟩
    go_wp2_with fail
    go_ret
    exact ⟨ret_bool (by simp [provesW, h2]), Drew.refl _⟩
  have H1 := Lib.hid h1; have H2 := Lib.hid h2
  by_cases h3 : ps.length = xs.length
  · have H3 := Lib.hid h3
    have h4 : ((ps.length : Int) != (xs.length : Int)) = false := by simp [h3]
    have hle : ps.length ≤ xs.length := by omega
    have hge : xs.length ≤ ps.length := by omega
    have HR : Hid (provesW xs ys ps = provesL ys xs ps (-1)) := Lib.hid (by simp [provesW, h1, h2])
    clear h3 h1 h2
    go_enter Try.func26, Try.ntmps26
    go_wp2_with fail
    refine (validW_any _ _ _ H.out).mono ?_; rintro e w0 ⟨rfl, rfl⟩
    rw [H1.out]
    go_wp2_with fail
    refine (validW_any _ _ _ H'.out).mono ?_; rintro e w' ⟨rfl, rfl⟩
    rw [H2.out]
    go_wp2_with fail
    go_loopw [7, 27] (fun v i wr => ∃ k n : Nat, ∃ before : Int, k ≤ ps.length ∧ i = .int .i64 k ∧ v = .int .i64 before ∧ -1 ≤ before ∧ Hid (before = lastP (ps.take k) (-1)) ∧ Hid (provesL ys (xs.take k) (ps.take k) (-1) = true) ∧ wr = w'.drewN n) (fun _ i _ => ps.length - (intOf i).toNat)
    case atStart => exact ⟨0, 0, -1, Nat.zero_le _, rfl, rfl, by omega, Lib.hid rfl, Lib.hid (by simp [provesL]), rfl⟩
    case round =>
      obtain ⟨k, n, before, hk, rfl, rfl, hb0, hbf, ha, rfl⟩ := hrel
      by_cases hlt : k < ps.length
      · have hlt' : k < xs.length := by omega
        have hsp := provesL_split ys xs ps k H3.out.symm hlt'
        rw [ha.out, Bool.true_and, ← hbf.out] at hsp
        have HS := Lib.hid hsp
        clear hsp
        have hlast : lastP (ps.take (k + 1)) (-1) = ps[k]?.getD 0 := by rw [take_snoc' ps k hlt, lastP_snoc]
        have HL := Lib.hid hlast
        clear hlast
        obtain ⟨b, off, rfl, hx⟩ := Ints.at hc hlt'
        obtain ⟨b'', off'', rfl, hx''⟩ := Ints.at hc'' hlt
        obtain ⟨hp0, hp1⟩ := Ints.bd B2.out hlt
        have hlt2 : (k : Int) < (ps.length : Int) := by omega
        have hlt3 : (k : Int) < (xs.length : Int) := by omega
        clear hc hc''
        generalize xs[k]?.getD 0 = x at *
        generalize ps[k]?.getD 0 = p at *
        by_cases c1 : before < p
        · by_cases c2 : p < (ys.length : Int)
          · obtain ⟨q, rfl⟩ := Int.eq_ofNat_of_zero_le (show 0 ≤ p by omega)
            have c2' : q < ys.length := by omega
            obtain ⟨b', off', rfl, hx'⟩ := Ints.at hc' c2'
            clear hc'
            have HO : Hid (okP ys x q before = (ys[q]?.getD 0 == x)) := Lib.hid (by unfold okP; simp [c1, c2'])
            generalize ys[q]?.getD 0 = y at *
            have g1 : decide ((q : Int) ≤ before) = false := by simp; omega
            have g2 : decide ((ys.length : Int) ≤ (q : Int)) = false := by simp; omega
            by_cases c3 : y = x
            · have g3 : (y != x) = false := by simp [c3]
              have C3 := Lib.hid c3
              clear c3
              go_wp2_with fail
              go_quiet (fail)
              go_wp2_with fail
              go_roundw
              case rel => exact ⟨k + 1, _, (q : Int), by omega, by go_num, rfl, by omega, Lib.hid HL.out.symm, Lib.hid (by rw [HS.out, HO.out]; simpa using C3.out), rfl⟩
              case measure => simp [intOf]; omega
            · have g3 : (y != x) = true := by simpa using c3
              have C3 := Lib.hid c3
              clear c3
              go_wp2_with fail
              go_quiet (fail)
              go_wp2_with fail
              go_ret
              exact ⟨ret_bool (by rw [HR.out]; exact (provesL_false ys xs ps (k + 1) (-1) (by rw [HS.out, HO.out]; simpa using C3.out) H3.out.symm).symm), (Drew.mk _ _).trans (Drew.mk _ _)⟩
          · have HO : Hid (okP ys x p before = false) := Lib.hid (by unfold okP; have : decide (p < (ys.length : Int)) = false := by simp; omega
                                                                     rw [this]; simp)
            have g1 : decide (p ≤ before) = false := by simp; omega
            have g2 : decide ((ys.length : Int) ≤ p) = true := by simp; omega
            clear hc'
            go_wp2_with fail
            go_quiet (fail)
            go_wp2_with fail
            go_ret
            exact ⟨ret_bool (by rw [HR.out]; exact (provesL_false ys xs ps (k + 1) (-1) (by rw [HS.out, HO.out]) H3.out.symm).symm), (Drew.mk _ _).trans (Drew.mk _ _)⟩
        · have HO : Hid (okP ys x p before = false) := Lib.hid (by unfold okP; have : decide (before < p) = false := by simp; omega
                                                                   rw [this]; simp)
          have g1 : decide (p ≤ before) = true := by simp; omega
          clear hc'
          go_wp2_with fail
          go_quiet (fail)
          go_wp2_with fail
          go_ret
          exact ⟨ret_bool (by rw [HR.out]; exact (provesL_false ys xs ps (k + 1) (-1) (by rw [HS.out, HO.out]) H3.out.symm).symm), (Drew.mk _ _).trans (Drew.mk _ _)⟩
      · clear hc hc' hc''
        go_wp2_with fail
        go_ret
        exact ⟨ret_bool (by have ha := ha.out; have h3 := H3.out; rw [List.take_of_length_le (by omega), List.take_of_length_le (by omega)] at ha; rw [HR.out, ha]), Drew.mk _ _⟩
  · have h4 : ((ps.length : Int) != (xs.length : Int)) = true := by simp; omega
    have H3 := Lib.hid h3
    clear h3 hc hc' hc''
    go_enter Try.func26, Try.ntmps26
    go_wp2_with fail
    refine (validW_any _ _ _ H.out).mono ?_; rintro e w0 ⟨rfl, rfl⟩
    go_wp2_with fail
    refine (validW_any _ _ _ H'.out).mono ?_; rintro e w' ⟨rfl, rfl⟩
    go_wp2_with fail
    go_ret
    exact ⟨ret_bool (by cases hq : provesL ys xs ps (-1)
                        · simp [provesW, hq]
                        · exact absurd (provesL_len _ _ _ _ hq).symm H3.out), Drew.refl _⟩

end Go.Proofs.Ytaenkbcclgpphaa
