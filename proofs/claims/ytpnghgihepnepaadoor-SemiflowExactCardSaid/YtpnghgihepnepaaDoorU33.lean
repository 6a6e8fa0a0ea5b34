/- Texts Qh in one. -/
import Derived.Test.YtpnghgihepnepaaDoorU32
namespace Go.Proofs.YtpnghgihepnepaaDoor
open Go.RowKit
set_option linter.unusedVariables false

def allB (st nw : List Int) (fs : List (List Int)) : Bool := fs.all (fun y => dotL y st == dotL y nw)
theorem allB_snoc (st nw : List Int) (fs : List (List Int)) (k : Nat) (h : k < fs.length) : allB st nw (fs.take (k + 1)) = (allB st nw (fs.take k) && (dotL fs[k] st == dotL fs[k] nw)) := by
  unfold allB
  rw [List.take_succ_eq_append_getElem h, List.all_append]
  simp
theorem allB_no {st nw : List Int} {fs : List (List Int)} {k : Nat} (h : k < fs.length) (hp : (dotL fs[k] st == dotL fs[k] nw) = false) : allB st nw fs = false := by
  unfold allB
  rw [List.all_eq_false]
  exact ⟨fs[k], List.getElem_mem h, by rw [hp]; simp⟩
def AllowsIs (C : List (List Int)) (c r : Nat) (st nw : List Int) (w : World) (e : Ending) (w' : World) : Prop := ∃ fs, OfL C c (2 ^ r) fs ∧ SortedL fs ∧ e = .returned (.tuple #[.bool (allB st nw fs), .int .i64 0]) ∧ w.grownBy w' none
theorem ret_two {a b : Bool} (h : a = b) : Ending.returned (Value.tuple #[.bool a, .int .i64 0]) = .returned (.tuple #[.bool b, .int .i64 0]) := by rw [h]
set_option maxRecDepth 100000 in
set_option maxHeartbeats 1000000 in
theorem allows_is {w : World} {v vs vn : Value} {ps : List Row} {r c : Nat} {st nw : List Int} (h : RowsP w v ps) (hm : MatOkP r c ps) (h6 : r ≤ 6) (hT : TabW w) (hs : Ints w vs st) (hsl : st.length = r) (hsb : ∀ x ∈ st, 0 ≤ x ∧ x ≤ 1048576) (hn : Ints w vn nw) (hnl : nw.length = r) (hnb : ∀ x ∈ nw, 0 ≤ x ∧ x ≤ 1048576) :
    Calls Tryd.prog 22 #[v, vs, vn] w (AllowsIs (ps.map Prod.snd) c r st nw w) := by
  have HM := Lib.hid hm; have HS := Lib.hid hs; have HSB := Lib.hid hsb; have HN := Lib.hid hn; have HNB := Lib.hid hnb
  have HOF := Lib.hid (of_any h hm h6 hT)
  have HPL := Lib.hid hm.1; have HSL := Lib.hid hsl; have HNL := Lib.hid hnl
  obtain ⟨a, cap, rfl, -⟩ : ∃ a cap, v = .slice a ps.length cap ∧ True := by obtain ⟨a, cap, h, -⟩ := h; exact ⟨a, cap, h, trivial⟩
  obtain ⟨as', cs', rfl, -⟩ := hs
  obtain ⟨an, cn, rfl, -⟩ := hn
  have e1 : ps.length = r := hm.1
  rw [e1] at HOF ⊢
  rw [hsl] at HS ⊢
  rw [hnl] at HN ⊢
  have k1 : ((r : Int) != (r : Int)) = false := by simp
  have HCL : Hid ((ps.map Prod.snd).length = r) := Lib.hid (by rw [List.length_map]; exact e1)
  clear h hsb hnb hm hsl hnl e1 hT
  go_enter Tryd.func22, Tryd.ntmps22
  go_wp2_with fail
  refine HOF.out.mono ?_
  rintro e w1 ⟨vf, fs, rfl, hF, hL, hso, hg⟩
  have HF := Lib.hid hF; have HL := Lib.hid hL; have HSO : Hid (SortedL (fs.map Prod.snd)) := Lib.hid hso; have HG := Lib.hid hg
  replace HS := Lib.hid (HS.out.same hg); replace HN := Lib.hid (HN.out.same hg)
  obtain ⟨af, cf, rfl, -⟩ : ∃ a cap, vf = .slice a fs.length cap ∧ True := by obtain ⟨a, cap, h, -⟩ := hF; exact ⟨a, cap, h, trivial⟩
  have hfl : fs.length ≤ maxLen := by obtain ⟨_, _, -, h, -⟩ := hF; exact h
  unfold maxLen at hfl
  clear hF hL hg hso HOF
  go_wp2_with fail
  refine (within_is _ _ _ _ HS.out).mono ?_
  rintro e w2 ⟨rfl, hw⟩
  subst hw
  rw [nn_all HSB.out]
  go_wp2_with fail
  refine (within_is _ _ _ _ HN.out).mono ?_
  rintro e w3 ⟨rfl, hw⟩
  subst hw
  rw [nn_all HNB.out]
  go_wp2_with fail
  go_loopw [49] (fun i wr => ∃ k : Nat, i = .int .i64 k ∧ k ≤ fs.length ∧ Hid (allB st nw ((fs.map Prod.snd).take k) = true) ∧ Hid (w.grownBy wr none) ∧ Hid (w3.grownBy wr none)) (fun i _ => fs.length - (intOf i).toNat)
  case atStart => exact ⟨0, rfl, Nat.zero_le _, Lib.hid rfl, HG, Lib.hid (grown_refl _ _)⟩
  case round =>
    clear HG
    obtain ⟨k, rfl, hk, HA, HG, HK⟩ := hrel
    rename World => wk
    by_cases hkb : k < fs.length
    · have h1 : (k : Int) < (fs.length : Int) := by omega
      have i1 : IntKind.i64.wrap ((k : Int) + 1) = (k : Int) + 1 := IntWalk.i64_in _ (by omega)
      obtain ⟨b', off, a2, c2, rfl, hc, hi⟩ := row_ints (HF.out.same HK.out) hkb
      have hfb := flows_at HL.out HCL.out hkb
      have HBN : Hid (allB st nw ((fs.map Prod.snd).take (k + 1)) = (dotL fs[k].2 st == dotL fs[k].2 nw)) := Lib.hid (by
        rw [allB_snoc _ _ _ k (by rw [List.length_map]; exact hkb), HA.out, mapsnd_at fs k hkb, Bool.true_and])
      have HNO : Hid ((dotL fs[k].2 st == dotL fs[k].2 nw) = false → allB st nw (fs.map Prod.snd) = false) := Lib.hid (fun h => allB_no (k := k) (by rw [List.length_map]; exact hkb) (by rw [mapsnd_at fs k hkb]; exact h))
      have hyl : fs[k].2.length = r := hfb.1
      rw [hyl] at hc hi
      have HI := Lib.hid hi; have HB := Lib.hid hfb.2; have HYL := Lib.hid hyl
      generalize hyk : fs[k].2 = y at *
      clear hyk hi hfb hyl
      go_wp2_with fail
      refine (value_any _ _ y st _ HI.out (HS.out.same HK.out) (by rw [HYL.out, HSL.out]) (by rw [HYL.out]; exact h6) HB.out HSB.out).mono ?_
      rintro e w4 ⟨rfl, hw⟩
      subst hw
      go_wp2_with fail
      refine (value_any _ _ y nw _ HI.out (HN.out.same HK.out) (by rw [HYL.out, HNL.out]) (by rw [HYL.out]; exact h6) HB.out HNB.out).mono ?_
      rintro e w5 ⟨rfl, hw⟩
      subst hw
      generalize dotL y st = z at *
      generalize dotL y nw = z2 at *
      by_cases he : z = z2
      · subst he
        have q1 : (z != z) = false := by simp
        have HA2 : Hid (allB st nw ((fs.map Prod.snd).take (k + 1)) = true) := Lib.hid (by rw [HBN.out]; simp)
        go_wp2_with fail
        go_roundw
        case rel => exact ⟨k + 1, by go_num, by omega, HA2, HG, HK⟩
        case measure => simp [intOf]; omega
      · have q1 : (z != z2) = true := by simpa using he
        have HF0 : Hid (allB st nw (fs.map Prod.snd) = false) := Lib.hid (HNO.out (by simpa using he))
        go_wp2_with fail
        go_ret2
        exact ⟨_, HL.out, HSO.out, by rw [HF0.out]; rfl, HG.out⟩
    · obtain rfl : k = fs.length := by omega
      have h1 : ¬ (fs.length : Int) < (fs.length : Int) := by omega
      have HBE : Hid (allB st nw (fs.map Prod.snd) = true) := Lib.hid (by have := HA.out; rw [List.take_of_length_le (by rw [List.length_map]; exact Nat.le_refl _)] at this; exact this)
      go_wp2_with fail
      go_ret2
      exact ⟨_, HL.out, HSO.out, by rw [HBE.out]; rfl, HG.out⟩
set_option maxRecDepth 100000 in
set_option maxHeartbeats 1000000 in
theorem rallows_is {w : World} {v vs vn : Value} {ps : List Row} {r c : Nat} {st nw : List Int} (h : RowsP w v ps) (hm : MatOkP r c ps) (h6 : r ≤ 6) (hs : Ints w vs st) (hsl : st.length = r) (hsb : ∀ x ∈ st, 0 ≤ x ∧ x ≤ 1048576) (hn : Ints w vn nw) (hnl : nw.length = r) (hnb : ∀ x ∈ nw, 0 ≤ x ∧ x ≤ 1048576) :
    Calls Tryd.prog 23 #[v, vs, vn] w (AllowsIs (ps.map Prod.snd) c r st nw w) := by
  have HM := Lib.hid hm; have HS := Lib.hid hs; have HSB := Lib.hid hsb; have HN := Lib.hid hn; have HNB := Lib.hid hnb
  have HOF := Lib.hid (rOf_any h hm h6)
  have HPL := Lib.hid hm.1; have HSL := Lib.hid hsl; have HNL := Lib.hid hnl
  obtain ⟨a, cap, rfl, -⟩ : ∃ a cap, v = .slice a ps.length cap ∧ True := by obtain ⟨a, cap, h, -⟩ := h; exact ⟨a, cap, h, trivial⟩
  obtain ⟨as', cs', rfl, -⟩ := hs
  obtain ⟨an, cn, rfl, -⟩ := hn
  have e1 : ps.length = r := hm.1
  rw [e1] at HOF ⊢
  rw [hsl] at HS ⊢
  rw [hnl] at HN ⊢
  have k1 : ((r : Int) != (r : Int)) = false := by simp
  have HCL : Hid ((ps.map Prod.snd).length = r) := Lib.hid (by rw [List.length_map]; exact e1)
  clear h hsb hnb hm hsl hnl e1
  go_enter Tryd.func23, Tryd.ntmps23
  go_wp2_with fail
  refine HOF.out.mono ?_
  rintro e w1 ⟨vf, fs, rfl, hF, hL, hso, hg⟩
  have HF := Lib.hid hF; have HL := Lib.hid hL; have HSO : Hid (SortedL (fs.map Prod.snd)) := Lib.hid hso; have HG := Lib.hid hg
  replace HS := Lib.hid (HS.out.same hg); replace HN := Lib.hid (HN.out.same hg)
  obtain ⟨af, cf, rfl, -⟩ : ∃ a cap, vf = .slice a fs.length cap ∧ True := by obtain ⟨a, cap, h, -⟩ := hF; exact ⟨a, cap, h, trivial⟩
  have hfl : fs.length ≤ maxLen := by obtain ⟨_, _, -, h, -⟩ := hF; exact h
  unfold maxLen at hfl
  clear hF hL hg hso HOF
  go_wp2_with fail
  refine (rnumbers_is _ _ _ _ HS.out).mono ?_
  rintro e w2 ⟨rfl, hw⟩
  subst hw
  rw [nn_all HSB.out]
  go_wp2_with fail
  refine (rnumbers_is _ _ _ _ HN.out).mono ?_
  rintro e w3 ⟨rfl, hw⟩
  subst hw
  rw [nn_all HNB.out]
  go_wp2_with fail
  go_loopw [10] (fun i wr => ∃ k : Nat, i = .int .i64 k ∧ k ≤ fs.length ∧ Hid (allB st nw ((fs.map Prod.snd).take k) = true) ∧ Hid (w.grownBy wr none) ∧ Hid (w3.grownBy wr none)) (fun i _ => fs.length - (intOf i).toNat)
  case atStart => exact ⟨0, rfl, Nat.zero_le _, Lib.hid rfl, HG, Lib.hid (grown_refl _ _)⟩
  case round =>
    clear HG
    obtain ⟨k, rfl, hk, HA, HG, HK⟩ := hrel
    rename World => wk
    by_cases hkb : k < fs.length
    · have h1 : (k : Int) < (fs.length : Int) := by omega
      have i1 : IntKind.i64.wrap ((k : Int) + 1) = (k : Int) + 1 := IntWalk.i64_in _ (by omega)
      obtain ⟨b', off, a2, c2, rfl, hc, hi⟩ := row_ints (HF.out.same HK.out) hkb
      have hfb := flows_at HL.out HCL.out hkb
      have HBN : Hid (allB st nw ((fs.map Prod.snd).take (k + 1)) = (dotL fs[k].2 st == dotL fs[k].2 nw)) := Lib.hid (by
        rw [allB_snoc _ _ _ k (by rw [List.length_map]; exact hkb), HA.out, mapsnd_at fs k hkb, Bool.true_and])
      have HNO : Hid ((dotL fs[k].2 st == dotL fs[k].2 nw) = false → allB st nw (fs.map Prod.snd) = false) := Lib.hid (fun h => allB_no (k := k) (by rw [List.length_map]; exact hkb) (by rw [mapsnd_at fs k hkb]; exact h))
      have hyl : fs[k].2.length = r := hfb.1
      rw [hyl] at hc hi
      have HI := Lib.hid hi; have HB := Lib.hid hfb.2; have HYL := Lib.hid hyl
      generalize hyk : fs[k].2 = y at *
      clear hyk hi hfb hyl
      have HSK := Lib.hid (HS.out.same HK.out); have HNK := Lib.hid (HN.out.same HK.out)
      have HC1 : Hid (∀ n, Calls Tryd.prog 41 #[.slice a2 r c2, .slice as' r cs'] (wk.drewN n) (fun e w' => e = .returned (.int .i64 (dotL y st)) ∧ Drew (wk.drewN n) w')) := Lib.hid (fun n => rsum_any _ _ y st _ (HI.out.same (grown_drewN _ _ none)) (HSK.out.same (grown_drewN _ _ none)) (by rw [HYL.out, HSL.out]) (by rw [HYL.out]; exact h6) HB.out HSB.out)
      have HC2 : Hid (∀ n, Calls Tryd.prog 41 #[.slice a2 r c2, .slice an r cn] (wk.drewN n) (fun e w' => e = .returned (.int .i64 (dotL y nw)) ∧ Drew (wk.drewN n) w')) := Lib.hid (fun n => rsum_any _ _ y nw _ (HI.out.same (grown_drewN _ _ none)) (HNK.out.same (grown_drewN _ _ none)) (by rw [HYL.out, HNL.out]) (by rw [HYL.out]; exact h6) HB.out HNB.out)
      go_wp2_with fail
      go_big_quiet ((go_at_call 41; first
        | ((with_reducible refine (HC1.out _).mono ?_); exact (fun _ _ ⟨he, hd⟩ => ⟨he, by obtain ⟨m, rfl⟩ := hd; exact ⟨_ + m, by simp; rfl⟩⟩))
        | ((with_reducible refine (HC2.out _).mono ?_); exact (fun _ _ ⟨he, hd⟩ => ⟨he, by obtain ⟨m, rfl⟩ := hd; exact ⟨_ + m, by simp; rfl⟩⟩))))
      replace HG := Lib.hid (grown_trans HG.out (grown_drewN wk nq none))
      replace HK := Lib.hid (grown_trans HK.out (grown_drewN wk nq none))
      clear HSK HNK hc HC1 HC2
      generalize wk.drewN nq = wd at *
      generalize dotL y st = z at *
      generalize dotL y nw = z2 at *
      by_cases he : z = z2
      · subst he
        have q1 : (z != z) = false := by simp
        have HA2 : Hid (allB st nw ((fs.map Prod.snd).take (k + 1)) = true) := Lib.hid (by rw [HBN.out]; simp)
        go_wp2_with fail
        go_roundw
        case rel => exact ⟨k + 1, by go_num, by omega, HA2, HG, HK⟩
        case measure => simp [intOf]; omega
      · have q1 : (z != z2) = true := by simpa using he
        have HF0 : Hid (allB st nw (fs.map Prod.snd) = false) := Lib.hid (HNO.out (by simpa using he))
        go_wp2_with fail
        go_ret2
        exact ⟨_, HL.out, HSO.out, by rw [HF0.out]; rfl, HG.out⟩
    · obtain rfl : k = fs.length := by omega
      have h1 : ¬ (fs.length : Int) < (fs.length : Int) := by omega
      have HBE : Hid (allB st nw (fs.map Prod.snd) = true) := Lib.hid (by have := HA.out; rw [List.take_of_length_le (by rw [List.length_map]; exact Nat.le_refl _)] at this; exact this)
      go_wp2_with fail
      go_ret2
      exact ⟨_, HL.out, HSO.out, by rw [HBE.out]; rfl, HG.out⟩
theorem allows_no {ms : List Row} {va vs vn : Value} {w : World} (h : RowsI w va ms) (hno : ¬ Shape11 ms) :
    Calls Tryd.prog 22 #[va, vs, vn] w fun e w' => e = .returned (.tuple #[.bool false, .int .i64 10]) ∧ w.grownBy w' none := by
  have H := Lib.hid (of_no h hno)
  clear h
  go_enter Tryd.func22, Tryd.ntmps22
  go_wp2_with fail
  refine H.out.mono ?_
  rintro e w1 ⟨rfl, hg⟩
  have HG := Lib.hid hg
  clear hg
  go_wp2_with fail
  go_ret2
  exact ⟨rfl, HG.out⟩
set_option maxRecDepth 100000 in
set_option maxHeartbeats 1000000 in
theorem allows_bad {w : World} {v vs vn : Value} {ps : List Row} {r c : Nat} {st nw : List Int} {err : Int} (h : RowsP w v ps) (hm : MatOkP r c ps) (h6 : r ≤ 6) (hT : TabW w) (hs : Ints w vs st) (hn : Ints w vn nw)
    (hb : ((st.length ≠ r ∨ nw.length ≠ r) ∧ err = 3) ∨ (st.length = r ∧ nw.length = r ∧ (st.all (nnB 1048576) && nw.all (nnB 1048576)) = false ∧ err = 2)) :
    Calls Tryd.prog 22 #[v, vs, vn] w fun e w' => e = .returned (.tuple #[.bool false, .int .i64 err]) ∧ w.grownBy w' none := by
  have HS := Lib.hid hs; have HN := Lib.hid hn
  have HOF := Lib.hid (of_any h hm h6 hT)
  obtain ⟨a, cap, rfl, -⟩ : ∃ a cap, v = .slice a ps.length cap ∧ True := by obtain ⟨a, cap, h, -⟩ := h; exact ⟨a, cap, h, trivial⟩
  obtain ⟨as', cs', rfl, hsm, -⟩ := hs
  obtain ⟨an, cn, rfl, hnm, -⟩ := hn
  unfold maxLen at hsm hnm
  have e1 : ps.length = r := hm.1
  rw [e1] at HOF ⊢
  clear h hm e1 hT
  rcases hb with ⟨hl, rfl⟩ | ⟨hl, hl2, hb, rfl⟩
  · by_cases hs1 : st.length = r
    · have k1 : ((st.length : Int) != (r : Int)) = false := by simp; omega
      have k2 : ((nw.length : Int) != (r : Int)) = true := by simp; omega
      clear hl hs1
      go_enter Tryd.func22, Tryd.ntmps22
      go_wp2_with fail
      refine HOF.out.mono ?_
      rintro e w1 ⟨vf, fs, rfl, hF, -, -, hg⟩
      have HG := Lib.hid hg
      replace HS := Lib.hid (HS.out.same hg); replace HN := Lib.hid (HN.out.same hg)
      obtain ⟨af, cf, rfl, -⟩ : ∃ a cap, vf = .slice a fs.length cap ∧ True := by obtain ⟨a, cap, h, -⟩ := hF; exact ⟨a, cap, h, trivial⟩
      clear hF hg HOF
      go_wp2_with fail
      go_ret2
      exact ⟨rfl, HG.out⟩
    · have k1 : ((st.length : Int) != (r : Int)) = true := by simp; omega
      clear hl hs1
      go_enter Tryd.func22, Tryd.ntmps22
      go_wp2_with fail
      refine HOF.out.mono ?_
      rintro e w1 ⟨vf, fs, rfl, hF, -, -, hg⟩
      have HG := Lib.hid hg
      replace HS := Lib.hid (HS.out.same hg); replace HN := Lib.hid (HN.out.same hg)
      obtain ⟨af, cf, rfl, -⟩ : ∃ a cap, vf = .slice a fs.length cap ∧ True := by obtain ⟨a, cap, h, -⟩ := hF; exact ⟨a, cap, h, trivial⟩
      clear hF hg HOF
      go_wp2_with fail
      go_ret2
      exact ⟨rfl, HG.out⟩
  · have k1 : ((st.length : Int) != (r : Int)) = false := by simp; omega
    have k2 : ((nw.length : Int) != (r : Int)) = false := by simp; omega
    clear hl hl2
    cases hst : st.all (nnB 1048576) with
    | false =>
      have HST := Lib.hid hst
      clear hb hst
      go_enter Tryd.func22, Tryd.ntmps22
      go_wp2_with fail
      refine HOF.out.mono ?_
      rintro e w1 ⟨vf, fs, rfl, hF, -, -, hg⟩
      have HG := Lib.hid hg
      replace HS := Lib.hid (HS.out.same hg); replace HN := Lib.hid (HN.out.same hg)
      obtain ⟨af, cf, rfl, -⟩ : ∃ a cap, vf = .slice a fs.length cap ∧ True := by obtain ⟨a, cap, h, -⟩ := hF; exact ⟨a, cap, h, trivial⟩
      clear hF hg HOF
      go_wp2_with fail
      refine (within_is _ _ _ _ HS.out).mono ?_
      rintro e w2 ⟨rfl, hw⟩
      subst hw
      rw [HST.out]
      go_wp2_with fail
      go_ret2
      exact ⟨rfl, HG.out⟩
    | true =>
      have HST := Lib.hid hst
      have HNT : Hid (nw.all (nnB 1048576) = false) := Lib.hid (by rw [hst, Bool.true_and] at hb; exact hb)
      clear hb hst
      go_enter Tryd.func22, Tryd.ntmps22
      go_wp2_with fail
      refine HOF.out.mono ?_
      rintro e w1 ⟨vf, fs, rfl, hF, -, -, hg⟩
      have HG := Lib.hid hg
      replace HS := Lib.hid (HS.out.same hg); replace HN := Lib.hid (HN.out.same hg)
      obtain ⟨af, cf, rfl, -⟩ : ∃ a cap, vf = .slice a fs.length cap ∧ True := by obtain ⟨a, cap, h, -⟩ := hF; exact ⟨a, cap, h, trivial⟩
      clear hF hg HOF
      go_wp2_with fail
      refine (within_is _ _ _ _ HS.out).mono ?_
      rintro e w2 ⟨rfl, hw⟩
      subst hw
      rw [HST.out]
      go_wp2_with fail
      refine (within_is _ _ _ _ HN.out).mono ?_
      rintro e w2 ⟨rfl, hw⟩
      subst hw
      rw [HNT.out]
      go_wp2_with fail
      go_ret2
      exact ⟨rfl, HG.out⟩
theorem rallows_no {ms : List Row} {va vs vn : Value} {w : World} (h : RowsI w va ms) (hno : ¬ Shape11 ms) :
    Calls Tryd.prog 23 #[va, vs, vn] w fun e w' => e = .returned (.tuple #[.bool false, .int .i64 10]) ∧ w.grownBy w' none := by
  have H := Lib.hid (rOf_no h hno)
  clear h
  go_enter Tryd.func23, Tryd.ntmps23
  go_wp2_with fail
  refine H.out.mono ?_
  rintro e w1 ⟨rfl, hg⟩
  have HG := Lib.hid hg
  clear hg
  go_wp2_with fail
  go_ret2
  exact ⟨rfl, HG.out⟩
set_option maxRecDepth 100000 in
set_option maxHeartbeats 1000000 in
theorem rallows_bad {w : World} {v vs vn : Value} {ps : List Row} {r c : Nat} {st nw : List Int} {err : Int} (h : RowsP w v ps) (hm : MatOkP r c ps) (h6 : r ≤ 6) (hs : Ints w vs st) (hn : Ints w vn nw)
    (hb : ((st.length ≠ r ∨ nw.length ≠ r) ∧ err = 3) ∨ (st.length = r ∧ nw.length = r ∧ (st.all (nnB 1048576) && nw.all (nnB 1048576)) = false ∧ err = 2)) :
    Calls Tryd.prog 23 #[v, vs, vn] w fun e w' => e = .returned (.tuple #[.bool false, .int .i64 err]) ∧ w.grownBy w' none := by
  have HS := Lib.hid hs; have HN := Lib.hid hn
  have HOF := Lib.hid (rOf_any h hm h6)
  obtain ⟨a, cap, rfl, -⟩ : ∃ a cap, v = .slice a ps.length cap ∧ True := by obtain ⟨a, cap, h, -⟩ := h; exact ⟨a, cap, h, trivial⟩
  obtain ⟨as', cs', rfl, hsm, -⟩ := hs
  obtain ⟨an, cn, rfl, hnm, -⟩ := hn
  unfold maxLen at hsm hnm
  have e1 : ps.length = r := hm.1
  rw [e1] at HOF ⊢
  clear h hm e1
  rcases hb with ⟨hl, rfl⟩ | ⟨hl, hl2, hb, rfl⟩
  · by_cases hs1 : st.length = r
    · have k1 : ((st.length : Int) != (r : Int)) = false := by simp; omega
      have k2 : ((nw.length : Int) != (r : Int)) = true := by simp; omega
      clear hl hs1
      go_enter Tryd.func23, Tryd.ntmps23
      go_wp2_with fail
      refine HOF.out.mono ?_
      rintro e w1 ⟨vf, fs, rfl, hF, -, -, hg⟩
      have HG := Lib.hid hg
      replace HS := Lib.hid (HS.out.same hg); replace HN := Lib.hid (HN.out.same hg)
      obtain ⟨af, cf, rfl, -⟩ : ∃ a cap, vf = .slice a fs.length cap ∧ True := by obtain ⟨a, cap, h, -⟩ := hF; exact ⟨a, cap, h, trivial⟩
      clear hF hg HOF
      go_wp2_with fail
      go_ret2
      exact ⟨rfl, HG.out⟩
    · have k1 : ((st.length : Int) != (r : Int)) = true := by simp; omega
      clear hl hs1
      go_enter Tryd.func23, Tryd.ntmps23
      go_wp2_with fail
      refine HOF.out.mono ?_
      rintro e w1 ⟨vf, fs, rfl, hF, -, -, hg⟩
      have HG := Lib.hid hg
      replace HS := Lib.hid (HS.out.same hg); replace HN := Lib.hid (HN.out.same hg)
      obtain ⟨af, cf, rfl, -⟩ : ∃ a cap, vf = .slice a fs.length cap ∧ True := by obtain ⟨a, cap, h, -⟩ := hF; exact ⟨a, cap, h, trivial⟩
      clear hF hg HOF
      go_wp2_with fail
      go_ret2
      exact ⟨rfl, HG.out⟩
  · have k1 : ((st.length : Int) != (r : Int)) = false := by simp; omega
    have k2 : ((nw.length : Int) != (r : Int)) = false := by simp; omega
    clear hl hl2
    cases hst : st.all (nnB 1048576) with
    | false =>
      have HST := Lib.hid hst
      clear hb hst
      go_enter Tryd.func23, Tryd.ntmps23
      go_wp2_with fail
      refine HOF.out.mono ?_
      rintro e w1 ⟨vf, fs, rfl, hF, -, -, hg⟩
      have HG := Lib.hid hg
      replace HS := Lib.hid (HS.out.same hg); replace HN := Lib.hid (HN.out.same hg)
      obtain ⟨af, cf, rfl, -⟩ : ∃ a cap, vf = .slice a fs.length cap ∧ True := by obtain ⟨a, cap, h, -⟩ := hF; exact ⟨a, cap, h, trivial⟩
      clear hF hg HOF
      go_wp2_with fail
      refine (rnumbers_is _ _ _ _ HS.out).mono ?_
      rintro e w2 ⟨rfl, hw⟩
      subst hw
      rw [HST.out]
      go_wp2_with fail
      go_ret2
      exact ⟨rfl, HG.out⟩
    | true =>
      have HST := Lib.hid hst
      have HNT : Hid (nw.all (nnB 1048576) = false) := Lib.hid (by rw [hst, Bool.true_and] at hb; exact hb)
      clear hb hst
      go_enter Tryd.func23, Tryd.ntmps23
      go_wp2_with fail
      refine HOF.out.mono ?_
      rintro e w1 ⟨vf, fs, rfl, hF, -, -, hg⟩
      have HG := Lib.hid hg
      replace HS := Lib.hid (HS.out.same hg); replace HN := Lib.hid (HN.out.same hg)
      obtain ⟨af, cf, rfl, -⟩ : ∃ a cap, vf = .slice a fs.length cap ∧ True := by obtain ⟨a, cap, h, -⟩ := hF; exact ⟨a, cap, h, trivial⟩
      clear hF hg HOF
      go_wp2_with fail
      refine (rnumbers_is _ _ _ _ HS.out).mono ?_
      rintro e w2 ⟨rfl, hw⟩
      subst hw
      rw [HST.out]
      go_wp2_with fail
      refine (rnumbers_is _ _ _ _ HN.out).mono ?_
      rintro e w2 ⟨rfl, hw⟩
      subst hw
      rw [HNT.out]
      go_wp2_with fail
      go_ret2
      exact ⟨rfl, HG.out⟩
def AllowsU (ok : Bool) (err : Int) (w : World) (e : Ending) (w' : World) : Prop := e = .returned (.tuple #[.bool ok, .int .i64 err]) ∧ w.grownBy w' none
/-- One answer for both sides. -/
theorem allows_u (ms : List Row) (st nw : List Int) : ∃ ok err, (∀ w v u t, TabW w → RowsI w v ms → Ints w u st → Ints w t nw → Calls Tryd.prog 22 #[v, u, t] w (AllowsU ok err w)) ∧ ∀ w v u t, RowsI w v ms → Ints w u st → Ints w t nw → Calls Tryd.prog 23 #[v, u, t] w (AllowsU ok err w) := by
  by_cases hs : Shape11 ms
  · obtain ⟨r, c, hm, h6⟩ := hs
    by_cases hl : st.length = r ∧ nw.length = r
    · obtain ⟨hl, hl2⟩ := hl
      cases hb : (st.all (nnB 1048576) && nw.all (nnB 1048576)) with
      | false => exact ⟨false, 2, fun w v u t hT a b d => allows_bad (a.toP hm) hm h6 hT b d (.inr ⟨hl, hl2, hb, rfl⟩), fun w v u t a b d => rallows_bad (a.toP hm) hm h6 b d (.inr ⟨hl, hl2, hb, rfl⟩)⟩
      | true =>
        rw [Bool.and_eq_true] at hb
        by_cases he : ∃ fs, OfL (ms.map Prod.snd) c (2 ^ r) fs ∧ SortedL fs
        · obtain ⟨fs, g1, g2⟩ := he
          refine ⟨allB st nw fs, 0, fun w v u t hT a b d => (allows_is (a.toP hm) hm h6 hT b hl (all_nn hb.1) d hl2 (all_nn hb.2)).mono fun e w' h => ?_, fun w v u t a b d => (rallows_is (a.toP hm) hm h6 b hl (all_nn hb.1) d hl2 (all_nn hb.2)).mono fun e w' h => ?_⟩
          · obtain ⟨gs, h1, h2, h3, h4⟩ := h
            rw [h1.same g1 h2 g2] at h3
            exact ⟨h3, h4⟩
          · obtain ⟨gs, h1, h2, h3, h4⟩ := h
            rw [h1.same g1 h2 g2] at h3
            exact ⟨h3, h4⟩
        · refine ⟨false, 0, fun w v u t hT a b d => (allows_is (a.toP hm) hm h6 hT b hl (all_nn hb.1) d hl2 (all_nn hb.2)).mono fun e w' h => ?_, fun w v u t a b d => (rallows_is (a.toP hm) hm h6 b hl (all_nn hb.1) d hl2 (all_nn hb.2)).mono fun e w' h => ?_⟩
          · obtain ⟨gs, h1, h2, h3, h4⟩ := h
            exact absurd ⟨_, h1, h2⟩ he
          · obtain ⟨gs, h1, h2, h3, h4⟩ := h
            exact absurd ⟨_, h1, h2⟩ he
    · exact ⟨false, 3, fun w v u t hT a b d => allows_bad (a.toP hm) hm h6 hT b d (.inl ⟨by omega, rfl⟩), fun w v u t a b d => rallows_bad (a.toP hm) hm h6 b d (.inl ⟨by omega, rfl⟩)⟩
  · exact ⟨false, 10, fun w v u t hT a b d => allows_no a hs, fun w v u t a b d => rallows_no a hs⟩
end Go.Proofs.YtpnghgihepnepaaDoor
