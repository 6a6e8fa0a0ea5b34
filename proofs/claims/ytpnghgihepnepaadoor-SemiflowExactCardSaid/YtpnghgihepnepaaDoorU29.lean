/- Texts Cc in one. -/
import Derived.Test.YtpnghgihepnepaaDoorU28
namespace Go.Proofs.YtpnghgihepnepaaDoor
open Go.RowKit
set_option linter.unusedVariables false

def KerRows (w wr : World) (vo : Value) (L : List (List Int)) : Prop := ∃ os, OwnP wr w.heap.size vo os ∧ os.map Prod.snd = L ∧ os.length ≤ 12
theorem kerL_small (R : List (List Int)) (P : List Int) (m : Nat) : ∀ k, (kerL R P m k).length ≤ k
  | 0 => Nat.le_refl _
  | k + 1 => by
    have := kerL_small R P m k
    unfold kerL
    split
    · omega
    · rw [List.length_append, List.length_singleton]; omega
theorem vec_bd {m col : Nat} {c : Nat → Nat} {s : Nat} {pl xl : Nat → Int} {n : Nat} (hs : s ≤ 12079595520) (he : ∀ i, i < n → (entV s (pl i) (xl i)).natAbs ≤ 12079595520) : ∀ q, q ≤ n → ∀ x ∈ vecV m col c s pl xl q, x.natAbs ≤ 12079595520
  | 0, _, x, hx => by
    unfold vecV at hx
    rcases List.mem_or_eq_of_mem_set hx with h | h
    · have := List.eq_of_mem_replicate h; subst this; decide
    · subst h; rw [Int.natAbs_natCast]; exact hs
  | q + 1, hq, x, hx => by
    unfold vecV at hx
    rcases List.mem_or_eq_of_mem_set hx with h | h
    · exact vec_bd hs he q (by omega) x h
    · subst h; exact he q (by omega)
theorem natAbs_i64 {x : Int} (h : x.natAbs ≤ 12079595520) : -9223372036854775808 ≤ x ∧ x ≤ 9223372036854775807 := by omega

set_option maxRecDepth 100000 in
set_option maxHeartbeats 8000000 in
theorem rKernel_any {w : World} {v : Value} {ps : List Row} {r m : Nat} (h : RowsP w v ps) (hm : MatOkP r m ps) {R : List (List Int)} {P : List Int} (hRP : (R, P) = lredN (ps.map (fun q => primL q.2), []) m) :
    Calls Tryd.prog 52 #[v] w (GotR (kerL R P m m) w) := by
  obtain ⟨a, cap, rfl, -⟩ : ∃ a cap, v = .slice a ps.length cap ∧ True := by obtain ⟨a, cap, h, -⟩ := h; exact ⟨a, cap, h, trivial⟩
  have HKI := Lib.hid (kinfo_of hm hRP)
  have hn1 : 1 ≤ ps.length := by have := hm.1; have := hm.2.1; omega
  have hm1 : 1 ≤ m := hm.2.2.2.1
  have hm12 : m ≤ 12 := hm.2.2.2.2.1
  obtain ⟨b, off, a2, c2, rfl, hc0, -, -⟩ := h.row (show 0 < ps.length by omega)
  rw [(hm.2.2.2.2.2.2 _ (List.getElem_mem _)).1, Nat.add_zero] at hc0
  have HC0 := Lib.hid hc0
  have e0 : (0 : Int) < (ps.length : Int) := by omega
  have H := Lib.hid h; have HM := Lib.hid hm; have HRP := Lib.hid hRP
  clear h hm hc0 hRP
  go_enter Tryd.func52, Tryd.ntmps52
  go_wp2_with fail
  refine (rcheck10_ok H.out HM.out).mono ?_
  rintro e w1 ⟨rfl, hg⟩
  have HG1 := Lib.hid hg
  clear hg
  go_wp2_with fail
  refine (rreduced_any (H.out.same HG1.out) HM.out).mono ?_
  rintro e w2 ⟨vr, vp, qs, pv, R', rfl, hR, hP, hE, hpl, hqs, hg⟩
  obtain ⟨rfl, rfl⟩ : R' = R ∧ pv = P := by
    have := hE.trans HRP.out.symm
    simp only [Prod.mk.injEq] at this
    exact this
  have hql : qs.length = pv.length := by have := congrArg List.length hqs; rw [List.length_map, List.length_take, Nat.min_eq_left hpl] at this; exact this
  obtain ⟨ar, cr, hv, hrm⟩ := id hR
  rw [hql] at hv
  subst hv
  obtain ⟨ap, cp, rfl, hpm, -⟩ := id hP
  have hpn : pv.length ≤ 12 := by
    have h1 := HM.out.1; have h2 := HM.out.2.2.1
    have h3 := (linfo_of HM.out).len m (Nat.le_refl _)
    rw [← HRP.out] at h3
    dsimp only at h3
    omega
  have HG := Lib.hid (grown_trans HG1.out hg)
  have hc0 := HG.out.cell HC0.out (by simp)
  have HR := Lib.hid hR; have HP := Lib.hid hP; have HQL := Lib.hid hql; have HPL := Lib.hid hpl
  have HQS : Hid (∀ l (hl : l < qs.length), qs[l].2 = R'[l]?.getD []) := Lib.hid (fun l hl => by
    rw [← snd_at hl, hqs, List.getElem?_take_of_lt (by omega)])
  have HO : Hid (KerRows w2 w2 (.slice none 0 0) (kerL R' pv m 0)) := Lib.hid ⟨[], OwnP.nil _ _, rfl, by simp⟩
  have HB := Lib.hid (grown_refl w2 none)
  clear hE hg hqs hP hR hrm HRP hpl hql
  go_wp2_with fail
  clear hc0
  go_loopw [7, 8] (fun vo c wr => ∃ (k : Nat), c = .int .i64 k ∧ k ≤ m ∧ Hid (KerRows w2 wr vo (kerL R' pv m k)) ∧ Hid (w2.grownBy wr none)) (fun _ c _ => m - (intOf c).toNat)
  case atStart => exact ⟨0, rfl, Nat.zero_le _, HO, HB⟩
  case round =>
    clear HO HB
    obtain ⟨k, rfl, hk, HO, HB⟩ := hrel
    rename World => wk
    have hc0 := (grown_trans HG.out HB.out).cell HC0.out (by simp)
    by_cases hkm : k < m
    · have h3 : (k : Int) < (m : Int) := by omega
      have i1 : IntKind.i64.wrap ((k : Int) + 1) = (k : Int) + 1 := IntWalk.i64_in _ (by omega)
      go_wp2_with fail
      refine (rhas_any _ pv (k : Int) _ (HP.out.same HB.out)).mono ?_
      rintro e w3 ⟨rfl, hd⟩
      have HB3 := Lib.hid (grown_trans HB.out (hd.grown none))
      have HW3 := Lib.hid (hd.grown none)
      clear hd
      by_cases hin : (k : Int) ∈ pv
      · have hdt : decide ((k : Int) ∈ pv) = true := by simpa using hin
        rw [hdt]
        have HO3 : Hid (KerRows w2 w3 u7 (kerL R' pv m (k + 1))) := Lib.hid (by
          obtain ⟨os, h1, h2, h3⟩ := HO.out
          refine ⟨os, h1.same HW3.out, ?_, h3⟩
          rw [h2]; show _ = (if (k : Int) ∈ pv then _ else _); rw [if_pos hin])
        clear hin hdt HO hc0
        go_wp2_with fail
        go_roundw
        case rel => exact ⟨k + 1, by go_num, by omega, HO3, HB3⟩
        case measure => (simp [intOf]; try omega)
      · have hdf : decide ((k : Int) ∈ pv) = false := by simpa using hin
        rw [hdf]
        have HIN := Lib.hid hin
        clear hin hdf
        have HD0 := Lib.hid (grown_refl w3 none)
        have HSC : Hid (∀ i, i ≤ pv.length → scaleN (plL R' pv) (xlL R' k) i ≤ 12079595520) := Lib.hid (HKI.out.sc k)
        have hc1 := HW3.out.cell hc0 (by simp)
        have HC1 := Lib.hid hc1
        clear hc0 hc1
        go_wp2_with fail
        go_loopw [9, 10] (fun s i wr => ∃ q : Nat, i = .int .i64 q ∧ q ≤ pv.length ∧ s = .int .i64 ((scaleN (plL R' pv) (xlL R' k) q : Nat) : Int) ∧ Hid (w3.grownBy wr none)) (fun _ i _ => pv.length - (intOf i).toNat)
        case atStart => exact ⟨0, rfl, Nat.zero_le _, rfl, HD0⟩
        case round =>
          clear HD0
          obtain ⟨q, rfl, hq, rfl, HD⟩ := hrel
          rename World => wq
          by_cases hqb : q < pv.length
          · have h4 : (q : Int) < (pv.length : Int) := by omega
            have i2 : IntKind.i64.wrap ((q : Int) + 1) = (q : Int) + 1 := IntWalk.i64_in _ (by omega)
            have HX := Lib.hid (grown_trans HB3.out HD.out)
            have hqq : q < qs.length := by rw [HQL.out]; exact hqb
            obtain ⟨br, orr, a3, c3, rfl, hcr, -, hir⟩ := (HR.out.same HX.out).row hqq
            have hqR := HQS.out q hqq
            have hwr : (R'[q]?.getD []).length = m := HKI.out.wide q (by have := HPL.out; omega)
            rw [hqR, hwr] at hcr hir
            obtain ⟨_, _, hxv, -, -, hxc⟩ := hir
            simp only [Value.slice.injEq] at hxv
            obtain ⟨rfl, -, rfl⟩ := hxv
            obtain ⟨_, _, hyv, -, -, hyc⟩ := HP.out.same HX.out
            simp only [Value.slice.injEq] at hyv
            obtain ⟨rfl, -, rfl⟩ := hyv
            obtain ⟨bp, op, rfl, hcp⟩ := Ints.at hyc hqb
            have hpb := HKI.out.pbd q hqb
            obtain ⟨pq, hpq⟩ : ∃ pq : Nat, pv[q]?.getD 0 = (pq : Int) := ⟨(pv[q]?.getD 0).toNat, by omega⟩
            rw [hpq] at hcp hpb
            have hpm2 : pq < m := by omega
            obtain ⟨bx, ox, rfl, hcx⟩ := Ints.at hxc (k := pq) (by rw [hwr]; exact hpm2)
            obtain ⟨by', oy, hbe, hcy⟩ := Ints.at hxc (k := k) (by rw [hwr]; exact hkm)
            simp only [Option.some.injEq, Addr.mk.injEq, and_true] at hbe
            obtain ⟨rfl, rfl⟩ := hbe
            have hpl : (R'[q]?.getD [])[pq]?.getD 0 = plL R' pv q := by unfold plL; rw [hpq]; rfl
            have hxl : (R'[q]?.getD [])[k]?.getD 0 = xlL R' k q := rfl
            have hpp := HKI.out.pos q hqb
            have hpbd : (plL R' pv q).natAbs ≤ 12079595520 := by rw [← hpl]; exact HKI.out.bd q pq
            have hxbd : (xlL R' k q).natAbs ≤ 12079595520 := HKI.out.bd q k
            rw [hpl] at hcx; rw [hxl] at hcy
            have hni := need_int (xlL R' k q) hpp
            have hnp := need_pos (xlL R' k q) hpp
            have hnd := need_dvd (plL R' pv q) (xlL R' k q)
            have hsq := HSC.out q hq
            have hsq1 := HSC.out (q + 1) (by omega)
            have hes : scaleN (plL R' pv) (xlL R' k) (q + 1) = Nat.lcm (scaleN (plL R' pv) (xlL R' k) q) (needN (plL R' pv q) (xlL R' k q)) := rfl
            rw [hes] at hsq1
            have HES := Lib.hid hes
            generalize plL R' pv q = p at *
            generalize xlL R' k q = x at *
            generalize scaleN (plL R' pv) (xlL R' k) q = s at *
            obtain ⟨nd, hnd'⟩ : ∃ nd, needN p x = nd := ⟨_, rfl⟩
            rw [hnd'] at hni hnp hnd hsq1 HES
            obtain ⟨gg, hgg⟩ : ∃ gg, Nat.gcd p.natAbs x.natAbs = gg := ⟨_, rfl⟩
            rw [hgg] at hni
            have hnb : nd ≤ 12079595520 := Nat.le_trans (Nat.le_of_dvd (by omega) hnd) hpbd
            obtain ⟨g2, hg2⟩ : ∃ g2, Nat.gcd s nd = g2 := ⟨_, rfl⟩
            have hls := lcm_step s nd
            rw [hg2] at hls
            have q1 : ¬ (gg : Int) = 0 := by
              have : 0 < gg := by rw [← hgg]; exact Nat.gcd_pos_of_pos_left _ (by omega)
              omega
            have q2 : ((gg : Int) == 0) = false := by simpa using q1
            have q3 : ¬ (g2 : Int) = 0 := by
              have : 0 < g2 := by rw [← hg2]; exact Nat.gcd_pos_of_pos_right _ hnp
              omega
            have q4 : ((g2 : Int) == 0) = false := by simpa using q3
            have m1 : IntKind.i64.wrap (p.tdiv (gg : Int)) = (nd : Int) := by rw [hni]; exact IntWalk.i64_in _ (by omega)
            obtain ⟨lc, hlc⟩ : ∃ lc, Nat.lcm s nd = lc := ⟨_, rfl⟩
            rw [hlc] at hls hsq1 HES
            obtain ⟨sd, hsd⟩ : ∃ sd, (s : Int).tdiv (g2 : Int) = sd := ⟨_, rfl⟩
            have hsb : sd.natAbs ≤ 12079595520 := by
              have := tdiv_small (s : Int) g2
              rw [hsd, Int.natAbs_natCast] at this; omega
            rw [hsd] at hls
            have m2 : IntKind.i64.wrap ((s : Int).tdiv (g2 : Int)) = sd := by rw [hsd]; exact IntWalk.i64_in _ (by omega)
            have m3 : IntKind.i64.wrap (sd * (nd : Int)) = (lc : Int) := by rw [hls]; exact IntWalk.i64_in _ (by omega)
            have HGA : Hid (∀ W, Calls Tryd.prog 71 #[.int .i64 p, .int .i64 x] W fun e w' => e = .returned (.int .i64 (gg : Int)) ∧ Drew W w') := Lib.hid (fun W => by
              have := rgcd_any p x W (by omega) (by omega)
              rw [hgg] at this; exact this)
            have HGB : Hid (∀ W, Calls Tryd.prog 71 #[.int .i64 (s : Int), .int .i64 (nd : Int)] W fun e w' => e = .returned (.int .i64 (g2 : Int)) ∧ Drew W w') := Lib.hid (fun W => by
              have := rgcd_any (s : Int) (nd : Int) W (by omega) (by omega)
              rw [Int.natAbs_natCast, Int.natAbs_natCast, hg2] at this; exact this)
            have C := Lib.hid (And.intro hcr (And.intro hcp (And.intro hcx hcy)))
            have i5 : 0 ≤ (pq : Int) := by omega
            have i6 : (pq : Int) < (m : Int) := by omega
            have HSD := Lib.hid hsd
            clear hxc hyc hpl hxl hni hnd hes hnd' hgg hg2 hls hlc hsd hqR hwr hpq hpb
            go_wp2_with fail
            go_big_quiet (fail)
            have GA := Lib.hid (grown_drewN wq nq none)
            have hcr2 := GA.out.cell C.out.1 (by simp); have hcy2 := GA.out.cell C.out.2.2.2 (by simp)
            clear hcr hcp hcx hcy
            generalize wq.drewN nq = wa at *
            go_wp2_with fail
            refine (HGA.out _).mono ?_
            rintro e w5 ⟨rfl, hd5⟩
            have GB := Lib.hid (grown_trans GA.out (hd5.grown none))
            clear hd5 hcr2 hcy2
            go_wp2_with fail
            refine (HGB.out _).mono ?_
            rintro e w6 ⟨rfl, hd6⟩
            have HD6 := Lib.hid (grown_trans (grown_trans HD.out GB.out) (hd6.grown none))
            clear hd6
            go_wp2_with fail
            go_roundw
            case rel =>
              refine ⟨q + 1, by go_num, by omega, ?_, HD6⟩
              rw [HES.out]
              have e9 : (s : Int) / (g2 : Int) = sd := by rw [← HSD.out, Int.tdiv_eq_ediv_of_nonneg (by omega)]
              rw [e9]
              rw [IntWalk.wrap64_in sd (by omega), ← IntWalk.i64_left, m3]
            case measure => (simp [intOf]; try omega)
          · obtain rfl : q = pv.length := by omega
            have h4 : ¬ (pv.length : Int) < (pv.length : Int) := by omega
            have HSX := Lib.hid (HSC.out pv.length (Nat.le_refl _))
            have hc1 := HD.out.cell HC1.out (by simp)
            obtain ⟨S, hS⟩ : ∃ S, scaleN (plL R' pv) (xlL R' k) pv.length = S := ⟨_, rfl⟩
            rw [hS] at HSX ⊢
            obtain ⟨SI, hSI⟩ : ∃ SI : Int, (S : Int) = SI := ⟨_, rfl⟩
            rw [hSI]
            have HEN : Hid (∀ i, i < pv.length → (entV S (plL R' pv i) (xlL R' k i)).natAbs ≤ 12079595520) := Lib.hid (by have := HKI.out.en k; rw [hS] at this; exact this)
            have HS := Lib.hid hS; have HSI := Lib.hid hSI
            have HVB : Hid (∀ q, q ≤ pv.length → ∀ x ∈ vecV m k (posL pv) S (plL R' pv) (xlL R' k) q, x.natAbs ≤ 12079595520) := Lib.hid (vec_bd HSX.out HEN.out)
            clear hS hSI
            go_wp2_with (at_make; refine make_int rfl _ _ rfl m rfl rfl (by omega) ?_)
            intro w9 ho hg
            have hz := (ho.cell k (by simpa using hkm)).1; have hf := (ho.cell k (by simpa using hkm)).2
            have HV0 : Hid (OwnI (w9.setCell ⟨wq.heap.size, k, none⟩ (.int .i64 SI)) wq.heap.size (.slice (some ⟨wq.heap.size, 0, none⟩) m m) (vecV m k (posL pv) S (plL R' pv) (xlL R' k) 0)) := Lib.hid (by
              have := ho.stored k SI
              rw [← HSI.out] at this ⊢; exact this)
            have HD9 : Hid (w3.grownBy (w9.setCell ⟨wq.heap.size, k, none⟩ (.int .i64 SI)) none) := Lib.hid (grown_then (grown_trans HD.out hg) (grown_set _ _ _) (by rintro j ⟨⟩; exact .inl HD.out.size))
            have HWQ := Lib.hid HD.out.size
            clear ho hg hc1 HD
            go_wp2_with fail
            clear hz hf
            generalize w9.setCell ⟨wq.heap.size, k, none⟩ (.int .i64 SI) = w10 at *
            go_loopw [14] (fun i wr => ∃ q : Nat, i = .int .i64 q ∧ q ≤ pv.length ∧ Hid (OwnI wr wq.heap.size (.slice (some ⟨wq.heap.size, 0, none⟩) m m) (vecV m k (posL pv) S (plL R' pv) (xlL R' k) q)) ∧ Hid (w3.grownBy wr none)) (fun i _ => pv.length - (intOf i).toNat)
            case atStart => exact ⟨0, rfl, Nat.zero_le _, HV0, HD9⟩
            case round =>
              clear HV0 HD9
              obtain ⟨q, rfl, hq, HV, HD⟩ := hrel
              rename World => wt
              by_cases hqb : q < pv.length
              · have h5 : (q : Int) < (pv.length : Int) := by omega
                have i2 : IntKind.i64.wrap ((q : Int) + 1) = (q : Int) + 1 := IntWalk.i64_in _ (by omega)
                have HX := Lib.hid (grown_trans HB3.out HD.out)
                have hqq : q < qs.length := by rw [HQL.out]; exact hqb
                obtain ⟨br, orr, a3, c3, rfl, hcr, -, hir⟩ := (HR.out.same HX.out).row hqq
                have hqR := HQS.out q hqq
                have hwr : (R'[q]?.getD []).length = m := HKI.out.wide q (by have := HPL.out; omega)
                rw [hqR, hwr] at hcr hir
                obtain ⟨_, _, hxv, -, -, hxc⟩ := hir
                simp only [Value.slice.injEq] at hxv
                obtain ⟨rfl, -, rfl⟩ := hxv
                obtain ⟨_, _, hyv, -, -, hyc⟩ := HP.out.same HX.out
                simp only [Value.slice.injEq] at hyv
                obtain ⟨rfl, -, rfl⟩ := hyv
                obtain ⟨bp, op, rfl, hcp⟩ := Ints.at hyc hqb
                have hpb := HKI.out.pbd q hqb
                obtain ⟨pq, hpq⟩ : ∃ pq : Nat, pv[q]?.getD 0 = (pq : Int) := ⟨(pv[q]?.getD 0).toNat, by omega⟩
                have hpos : posL pv q = pq := by unfold posL; rw [hpq]; rfl
                rw [hpq] at hcp hpb
                have hpm2 : pq < m := by omega
                obtain ⟨bx, ox, rfl, hcx⟩ := Ints.at hxc (k := pq) (by rw [hwr]; exact hpm2)
                obtain ⟨by', oy, hbe, hcy⟩ := Ints.at hxc (k := k) (by rw [hwr]; exact hkm)
                simp only [Option.some.injEq, Addr.mk.injEq, and_true] at hbe
                obtain ⟨rfl, rfl⟩ := hbe
                have hpl : (R'[q]?.getD [])[pq]?.getD 0 = plL R' pv q := by unfold plL; rw [hpq]; rfl
                have hxl : (R'[q]?.getD [])[k]?.getD 0 = xlL R' k q := rfl
                have hpp := HKI.out.pos q hqb
                have hpbd : (plL R' pv q).natAbs ≤ 12079595520 := by rw [← hpl]; exact HKI.out.bd q pq
                have hxbd : (xlL R' k q).natAbs ≤ 12079595520 := HKI.out.bd q k
                rw [hpl] at hcx; rw [hxl] at hcy
                have hni := need_int (xlL R' k q) hpp
                have hnp := need_pos (xlL R' k q) hpp
                have henb := HEN.out q hqb
                have hvs : vecV m k (posL pv) S (plL R' pv) (xlL R' k) (q + 1) = (vecV m k (posL pv) S (plL R' pv) (xlL R' k) q).set pq (entV S (plL R' pv q) (xlL R' k q)) := by rw [← hpos]; rfl
                have hzc := (HV.out.cell pq (by rw [vec_len]; exact hpm2)).1; have hzf := (HV.out.cell pq (by rw [vec_len]; exact hpm2)).2
                have hst := HV.out.stored pq (entV S (plL R' pv q) (xlL R' k q))
                
                generalize (vecV m k (posL pv) S (plL R' pv) (xlL R' k) q)[pq]?.getD 0 = zold at *
                have hent : entV S (plL R' pv q) (xlL R' k q) = -((xlL R' k q).tdiv (Nat.gcd (plL R' pv q).natAbs (xlL R' k q).natAbs : Nat)) * ((S : Int).tdiv ((plL R' pv q).tdiv (Nat.gcd (plL R' pv q).natAbs (xlL R' k q).natAbs : Nat))) := rfl
                obtain ⟨ev, hev⟩ : ∃ ev, entV S (plL R' pv q) (xlL R' k q) = ev := ⟨_, rfl⟩
                rw [hev] at hent hst hvs henb
                generalize plL R' pv q = p at *
                generalize xlL R' k q = x at *
                obtain ⟨gg, hgg⟩ : ∃ gg, Nat.gcd p.natAbs x.natAbs = gg := ⟨_, rfl⟩
                rw [hgg] at hni hent
                have hg0 : 0 < gg := by rw [← hgg]; exact Nat.gcd_pos_of_pos_left _ (by omega)
                obtain ⟨gI, hgI⟩ : ∃ gI : Int, (gg : Int) = gI := ⟨_, rfl⟩
                obtain ⟨xg, hxg⟩ : ∃ xg, x.tdiv (gg : Int) = xg := ⟨_, rfl⟩
                have hxgb := tdiv_small x gg
                rw [hxg] at hxgb hent
                obtain ⟨pg, hpg⟩ : ∃ pg, p.tdiv (gg : Int) = pg := ⟨_, rfl⟩
                rw [hpg] at hni hent
                obtain ⟨sg, hsg⟩ : ∃ sg, (S : Int).tdiv pg = sg := ⟨_, rfl⟩
                have hsgb : sg.natAbs ≤ 12079595520 := by
                  have := tdiv_small (S : Int) (needN p x)
                  rw [← hni, hsg, Int.natAbs_natCast] at this
                  have := HSX.out; omega
                rw [hsg] at hent
                rw [HSI.out] at hsg
                obtain ⟨nx, hnx⟩ : ∃ nx, -xg = nx := ⟨_, rfl⟩
                rw [hnx] at hent
                have q1 : ¬ gI = 0 := by omega
                have q2 : (gI == 0) = false := by simpa using q1
                have q3 : ¬ pg = 0 := by omega
                have q4 : (pg == 0) = false := by simpa using q3
                have m1 : IntKind.i64.wrap (x.tdiv gI) = xg := by rw [← hgI, hxg]; exact IntWalk.i64_in _ (by omega)
                have m2 : IntKind.i64.wrap (-xg) = nx := by rw [hnx]; exact IntWalk.i64_in _ (by omega)
                have m3 : IntKind.i64.wrap (p.tdiv gI) = pg := by rw [← hgI, hpg]; exact IntWalk.i64_in _ (by have := tdiv_small p gg; rw [hpg] at this; omega)
                have m4 : IntKind.i64.wrap (SI.tdiv pg) = sg := by rw [hsg]; exact IntWalk.i64_in _ (by omega)
                have m5 : IntKind.i64.wrap (nx * sg) = ev := by rw [← hent]; exact IntWalk.i64_in _ (by omega)
                have HGA : Hid (∀ W, Calls Tryd.prog 71 #[.int .i64 p, .int .i64 x] W fun e w' => e = .returned (.int .i64 gI) ∧ Drew W w') := Lib.hid (fun W => by
                  have := rgcd_any p x W (by omega) (by omega)
                  rw [hgg, hgI] at this; exact this)
                have C := Lib.hid (And.intro hcr (And.intro hcp (And.intro hcx (And.intro hcy (And.intro hzc hzf)))))
                have M := Lib.hid (And.intro m1 (And.intro m2 (And.intro m3 (And.intro m4 m5))))
                have HVS := Lib.hid hvs
                have i5 : 0 ≤ (pq : Int) := by omega
                have i6 : (pq : Int) < (m : Int) := by omega
                clear hxc hyc hpl hxl hni hent hev hgg hgI hxg hpg hsg hnx hqR hwr hpq hpb hvs hst hzc hzf m1 m2 m3 m4 m5 hpos
                go_wp2_with fail
                go_big_quiet (fail)
                have GA := Lib.hid (grown_drewN wt nq none)
                have hcr2 := GA.out.cell C.out.1 (by simp); have hcy2 := GA.out.cell C.out.2.2.2.1 (by simp)
                clear hcr hcp hcx hcy
                generalize wt.drewN nq = wa at *
                go_wp2_with fail
                refine (HGA.out _).mono ?_
                rintro e w5 ⟨rfl, hd5⟩
                have GB := Lib.hid (grown_trans GA.out (hd5.grown none))
                clear hd5 hcr2 hcy2
                have hcr := GB.out.cell C.out.1 (by simp); have hcp := GB.out.cell C.out.2.1 (by simp); have hcy := GB.out.cell C.out.2.2.2.1 (by simp)
                have HV5 := Lib.hid (HV.out.kept GB.out (by simp))
                obtain ⟨z2, hzc⟩ : ∃ z, w5.cell? ⟨wq.heap.size, pq, none⟩ = some z := ⟨_, (HV5.out.cell pq (by rw [vec_len]; exact hpm2)).1⟩
                have hzf := (HV5.out.cell pq (by rw [vec_len]; exact hpm2)).2
                have HVN : Hid (OwnI ((w5.setCell ⟨wq.heap.size, pq, none⟩ (.int .i64 ev)).drew) wq.heap.size (.slice (some ⟨wq.heap.size, 0, none⟩) m m) (vecV m k (posL pv) S (plL R' pv) (xlL R' k) (q + 1))) := Lib.hid (by
                  rw [HVS.out]
                  exact (HV5.out.stored pq ev).kept (grown_drew _ none) (by simp))
                have HDN : Hid (w3.grownBy ((w5.setCell ⟨wq.heap.size, pq, none⟩ (.int .i64 ev)).drew) none) := Lib.hid (grown_trans (grown_then (grown_trans HD.out GB.out) (grown_set _ _ _) (by rintro j ⟨⟩; exact .inl HWQ.out)) (grown_drew _ none))
                have hcrd : w5.drew.cell? ⟨br, orr + q, none⟩ = _ := hcr
                have hcpd : w5.drew.cell? ⟨bp, op + q, none⟩ = _ := hcp
                have hcyd : w5.drew.cell? ⟨bx, ox + k, none⟩ = _ := hcy
                have hzcd : w5.drew.cell? ⟨wq.heap.size, pq, none⟩ = some z2 := hzc
                have hzfd : w5.drew.frozen? ⟨wq.heap.size, pq, none⟩ = false := hzf
                obtain ⟨m1, m2, m3, m4, m5⟩ := M.out
                clear HV HD HV5 GA GB HX C
                go_wp2_with fail
                go_region
                clear hcrd hcpd hcyd hzcd hzfd hcr hcp hcy hzc hzf m1 m2 m3 m4 m5
                go_wp2_with fail
                go_roundw
                case rel => exact ⟨q + 1, by go_num, by omega, HVN, HDN⟩
                case measure => (simp [intOf]; try omega)
              · obtain rfl : q = pv.length := by omega
                have h5 : ¬ (pv.length : Int) < (pv.length : Int) := by omega
                have HVL : Hid ((vecV m k (posL pv) S (plL R' pv) (xlL R' k) pv.length).length = m) := Lib.hid (vec_len _ _ _ _ _ _ _)
                have HVB2 := Lib.hid (HVB.out pv.length (Nat.le_refl _))
                have hke : kerL R' pv m k ++ [primL (vecV m k (posL pv) S (plL R' pv) (xlL R' k) pv.length)] = kerL R' pv m (k + 1) := by
                  show _ = (if (k : Int) ∈ pv then _ else _)
                  rw [if_neg HIN.out]
                  unfold rvecL
                  rw [HS.out]
                have HKE := Lib.hid hke
                clear hke
                generalize vecV m k (posL pv) S (plL R' pv) (xlL R' k) pv.length = vv at *
                obtain ⟨rl, hrl⟩ : ∃ rl, primL vv = rl := ⟨_, rfl⟩
                have HRLL : Hid (rl.length = m) := Lib.hid (by rw [← hrl, primL_len]; exact HVL.out)
                have HRLB : Hid (∀ x ∈ rl, -9223372036854775808 ≤ x ∧ x ≤ 9223372036854775807) := Lib.hid (fun x hx => by
                  obtain ⟨t', ht', rfl⟩ := List.getElem_of_mem hx
                  obtain ⟨g', hg1, hg2, -⟩ := prim_fac vv
                  have htl : t' < vv.length := by rw [HVL.out]; rw [HRLL.out] at ht'; exact ht'
                  have h2 := HVB2.out _ (List.getElem_mem htl)
                  have h3 := hg2 t'
                  rw [List.getElem?_eq_getElem htl, hrl, List.getElem?_eq_getElem ht'] at h3
                  simp only [Option.getD_some] at h3
                  have h4 : (rl[t']).natAbs ≤ (rl[t'] * (g' : Int)).natAbs := by rw [Int.natAbs_mul]; exact Nat.le_mul_of_pos_right _ (by rw [Int.natAbs_natCast]; omega)
                  rw [← h3] at h4
                  omega)
                have HPE := Lib.hid hrl
                clear hrl
                go_wp2_with fail
                refine (rprim_any _ vv _ (HV.out.ints (fun x hx => natAbs_i64 (HVB2.out x hx))) (by rw [HVL.out]; omega) (fun x hx => Nat.le_trans (HVB2.out x hx) (by decide))).mono ?_
                rintro e w7 ⟨v7, rfl, ho7, hg7⟩
                rw [HPE.out] at ho7
                obtain ⟨a7, c7, hv7⟩ := ownI_sl' ho7
                rw [HRLL.out] at hv7
                subst hv7
                have HO7 := Lib.hid ho7
                have HG7 := Lib.hid (grown_trans (grown_trans HW3.out HD.out) hg7)
                obtain ⟨os, hos, hol, hoc⟩ := HO.out
                have HOS := Lib.hid (hos.same HG7.out); have HOL := Lib.hid hol; have HOC := Lib.hid hoc
                have HOF : Hid (∀ g, (Value.slice a7 m c7).ownBlock = some g → u7.ownBlock ≠ some g) := Lib.hid (fun g hg e => by
                  have h1 := (ho7.fresh g hg).1
                  have h2 := (hos.fresh g e).2
                  have h3 := (grown_trans HW3.out HD.out).size
                  omega)
                have HSZ := Lib.hid (grown_trans HB.out HG7.out).size
                clear ho7 hg7 hos hol hoc
                go_wp2_with (at_builtin; refine app_row rfl _ _ rfl w2.heap.size _ os rfl (HOS.out.same (World.grownBy_alloc _ _ none)) w7.heap.size (.slice a7 m c7, rl) rfl (cell_new rfl) ((HO7.out.row HRLB.out).same (World.grownBy_alloc _ _ none)) HOF.out (by have := HOC.out; omega) (Nat.le_trans HSZ.out (World.grownBy_alloc _ _ none).size) ?_)
                intro v9 w9 ho9 hg9
                have HKN : Hid (KerRows w2 w9 v9 (kerL R' pv m (k + 1))) := Lib.hid ⟨_, ho9, by rw [List.map_append, HOL.out, ← HKE.out, HPE.out]; rfl, by
                  have h1 := kerL_small R' pv m (k + 1)
                  rw [← HKE.out, ← HOL.out] at h1
                  simp at h1 ⊢
                  omega⟩
                have HBN : Hid (w2.grownBy w9 none) := Lib.hid (grown_then (grown_trans (grown_trans HB.out HG7.out) (World.grownBy_alloc _ _ none)) hg9 (fun j hj => by
                  obtain ⟨os, hos, -, -⟩ := HO.out
                  exact .inl (hos.fresh j hj).1))
                clear ho9 hg9
                go_wp2_with fail
                go_roundw
                case rel => exact ⟨k + 1, by go_num, by omega, HKN, HBN⟩
                case measure => (simp [intOf]; try omega)
    · obtain rfl : k = m := by omega
      have h3 : ¬ (k : Int) < (k : Int) := by omega
      have HF : Hid (GotR (kerL R' pv k k) w (.returned (.tuple #[u7, .int .i64 0])) wk) := Lib.hid (by
        obtain ⟨os, h1, h2, h3⟩ := HO.out
        exact ⟨_, os, rfl, h1.rows, h2, grown_trans HG.out HB.out⟩)
      go_wp2_with fail
      go_ret2
      exact HF.out
end Go.Proofs.YtpnghgihepnepaaDoor
