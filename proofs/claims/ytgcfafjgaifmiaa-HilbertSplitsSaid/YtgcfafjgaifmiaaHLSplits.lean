/- HilbertSplits: for every input it answers true. -/
import Derived.Test.YtgcfafjgaifmiaaEs
import Derived.BigRegion
import Derived.Deep.RegionHeld3
namespace Go.Proofs.Ytgcfafjgaifmiaa
open Go.ChangeShapes Go.WideShapes Go.ChangeAt Go.RowKit
set_option linter.unusedVariables false

set_option maxRecDepth 100000 in
set_option maxHeartbeats 2000000 in
theorem walkHilbertSplits (a0 : Option Addr) (len0 cap0 : Nat) (z0 : List Int) (w : World) (w0 : IsRow .i64 w a0 len0 cap0 z0) :
    Calls Try.prog 6 #[.slice a0 len0 cap0] w fun e w' => e = .returned (.bool true) ∧ Below w.heap.size w w' := by
  obtain ⟨hI, hlen⟩ := w0.ints
  generalize z0.take len0 = zs at hI hlen
  subst hlen
  have HI := Lib.hid hI
  clear hI w0
  by_cases hfew : (zs.length : Int) ≤ 400
  · go_enter Try.func6, Try.ntmps6
    go_wp2_with fail
    refine (awake12_any _).mono ?_
    rintro e w1 ⟨rfl, hg⟩
    have HG := Lib.hid hg
    clear hg
    go_wp2_with fail
    refine (few_any _ _ _ _).mono ?_
    rintro e w2 ⟨rfl, rfl⟩
    rw [decide_eq_true hfew]
    go_wp2_with fail
    refine (new_st (HI.out.same HG.out) HG.out).mono ?_
    rintro e w3 ⟨p, d, rfl, hs⟩
    have HS := Lib.hid hs
    clear hs HG HI
    go_wp2_with fail
    refine (next_st HS.out _ (by omega) (by omega)).mono ?_
    rintro e w4 ⟨yc, rfl, hyc0, hyc1, hs, hg⟩
    replace HS := Lib.hid hs
    clear hs hg
    obtain ⟨c, hc⟩ : ∃ c : Nat, 1 + yc = (c : Int) := ⟨(1 + yc).toNat, by omega⟩
    have hc1 : 1 ≤ c := by omega
    have hc2 : c ≤ 4 := by omega
    have ic : IntKind.i64.wrap (1 + yc) = (c : Int) := by rw [hc]; exact IntWalk.i64_in _ (by omega)
    clear hc hyc0 hyc1
    go_wp2_with fail
    refine (next_st HS.out _ (by omega) (by omega)).mono ?_
    rintro e w5 ⟨yr, rfl, hyr0, hyr1, hs, hg⟩
    replace HS := Lib.hid hs
    clear hs hg
    obtain ⟨r, hr⟩ : ∃ r : Nat, 1 + yr = (r : Int) := ⟨(1 + yr).toNat, by omega⟩
    have hr1 : 1 ≤ r := by omega
    have hr2 : r ≤ 2 := by omega
    have ir : IntKind.i64.wrap (1 + yr) = (r : Int) := by rw [hr]; exact IntWalk.i64_in _ (by omega)
    clear hr hyr0 hyr1
    go_wp2_with fail
    clear ir ic
    refine (matrix_st HS.out r c (by omega) (by omega)).mono ?_
    rintro e w6 ⟨vm, ps, rfl, hpl, hdm, hM, hs, hg⟩
    have HMvm := Lib.hid (MatD.mk HS.out hM)
    replace HS := Lib.hid hs; have HOKvm := Lib.hid (dealt_ok hpl hdm hr1 (by omega) hc1 (by omega) (by omega))
    clear hpl hdm hM hs hg
    obtain ⟨aM, cM, rfl⟩ := HMvm.out.slice
    have hpl2 : ps.length ≤ 2 := by have := HOKvm.out.1; omega
    have hpl1 : 1 ≤ ps.length := by have := HOKvm.out.1; omega
    have hpl3 : (ps.length : Int) ≤ 2 := by omega
    go_wp2_with fail
    refine (Free_any (mst := 4) HMvm.out.rows HOKvm.out (by omega) (by omega) (by omega)).mono ?_
    rintro e w7 ⟨vq, qs, rfl, ho, hq, hg⟩
    have Mqs := Lib.hid (MatD.mk HS.out ho); have Qqs := Lib.hid hq
    replace HMvm := Lib.hid (HMvm.out.step hg)
    replace HS := Lib.hid (HS.out.step hg)
    have Oqs : Hid (∀ q ∈ qs, VecOk c q.2 ∧ (∀ z ∈ q.2, z ≤ 10) ∧ goodB ps (zerosL r) someB q.2 = true) := Lib.hid (fun q hq' => by
      have h1 := minL_ok (show 4 ≤ 10 by omega) q.2 (Qqs.out ▸ List.mem_map_of_mem hq')
      exact ⟨h1.1, h1.2.1, h1.2.2.1⟩)
    have Lqs : Hid (qs.length ≤ 1000000000) := Lib.hid (by
      have h7 := minL_len (goodB ps (zerosL r) someB) (vecs c (4))
      rw [← Qqs.out, List.length_map] at h7
      have h8 := vecs_len c (4)
      have h9 : (4 + 1) ^ c ≤ 11 ^ 6 := Nat.le_trans (Nat.pow_le_pow_left (by omega) _) (Nat.pow_le_pow_right (by omega) (by omega))
      have h10 : (11 : Nat) ^ 6 = 1771561 := by decide
      omega)
    obtain ⟨aqs, cqs, rfl⟩ := Mqs.out.slice
    clear ho hq hg
    by_cases hq0 : qs.length = 0
    · have p0 : ((qs.length : Int) == 0) = true := beq_iff_eq.2 (by omega)
      go_wp2_with fail
      go_ret
      exact ⟨rfl, HS.out.below⟩
    · have p0 : ((qs.length : Int) == 0) = false := beq_eq_false_iff_ne.2 (by omega)
      have hq1 : 1 ≤ qs.length := by omega
      clear hq0
      go_wp2_with (at_make; refine make_int rfl _ _ rfl c rfl rfl (by omega) ?_)
      intro w8 ho hg
      obtain ⟨X, hX⟩ : ∃ X, w7.heap.size = X := ⟨_, rfl⟩
      rw [hX] at ho ⊢
      have LV : Hid (Low X (.slice aM ps.length cM) ps) := Lib.hid (hX ▸ HMvm.out.low)
      have LQ : Hid (Low X (.slice aqs qs.length cqs) qs) := Lib.hid (hX ▸ Mqs.out.low)
      have hdX : d < X := by rw [← hX]; exact HS.out.lt
      have HDX := Lib.hid hdX
      replace HMvm := Lib.hid (HMvm.out.step hg); replace HS := Lib.hid (HS.out.step hg); replace Mqs := Lib.hid (Mqs.out.step hg)
      have OX := Lib.hid ho; have HH := Lib.hid (Hom.zero ps c)
      clear ho hg hX hdX
      go_wp2_with fail
      go_loopw [9] (fun i wr => ∃ t : Nat, i = .int .i64 t ∧ t ≤ 2 ∧ Hid (St w wr p d) ∧ Hid (MatD wr d (.slice aM ps.length cM) ps) ∧ Hid (MatD wr d (.slice aqs qs.length cqs) qs) ∧ ∃ zs, Hid (OwnI wr X (.slice (some ⟨X, 0, none⟩) c c) zs) ∧ Hid (Hom ps c t zs)) (fun i _ => 2 - (intOf i).toNat)
      case atStart => exact ⟨0, rfl, Nat.zero_le _, HS, HMvm, Mqs, _, OX, HH⟩
      case round =>
        clear HMvm HS Mqs OX HH
        obtain ⟨t, rfl, ht, HS, HMvm, Mqs, zs, OX, HH⟩ := hrel
        rename World => wt
        by_cases htb : t < 2
        · have h4 : (t : Int) < 2 := by omega
          have i2 : IntKind.i64.wrap ((t : Int) + 1) = (t : Int) + 1 := IntWalk.i64_in _ (by omega)
          have hql := Lqs.out
          go_wp2_with fail
          refine (next_st HS.out (qs.length : Int) (by omega) (by omega)).mono ?_
          rintro e w9 ⟨yk, rfl, hk0, hk1, hs, hg⟩
          replace HS := Lib.hid hs; replace HMvm := Lib.hid (HMvm.out.deal hg); replace Mqs := Lib.hid (Mqs.out.deal hg)
          replace OX := Lib.hid (OX.out.kept hg (by rintro j ⟨⟩; exact HDX.out))
          clear hs hg
          obtain ⟨k, rfl⟩ : ∃ k : Nat, yk = (k : Int) := ⟨yk.toNat, by omega⟩
          have hkb : k < qs.length := by omega
          clear hk0 hql
          obtain ⟨bq, oq, a2, c2, rfl, hcell, hrv, hri⟩ := Mqs.out.rows.row hkb
          have HRI := Lib.hid hri
          have HQK := Lib.hid (Oqs.out _ (List.getElem_mem hkb))
          have HQS : Hid (sumI qs[k].2 ≤ 4) := Lib.hid (minL_ok (show 4 ≤ 10 by omega) qs[k].2 (Qqs.out ▸ List.mem_map_of_mem (List.getElem_mem hkb))).2.2.2
          have HRB : Hid (RowOk w9 qs[k] ∧ ∀ g, qs[k].1.ownBlock = some g → g < X) := Lib.hid ⟨rows_rows Mqs.out.rows _ (List.getElem_mem hkb), LQ.out.2 _ (List.getElem_mem hkb)⟩
          have HRV := Lib.hid hrv
          clear hri hrv
          obtain ⟨y, hy⟩ : ∃ y, qs[k].2 = y := ⟨_, rfl⟩
          rw [hy] at hcell HRI HQK HQS HRV
          have HYL := Lib.hid HQK.out.1.1
          have HYB : Hid (∀ g, (Value.slice a2 y.length c2).ownBlock = some g → g < X) := Lib.hid (by rw [← HRV.out]; exact HRB.out.2)
          clear hy HRB HRV
          go_wp2_with fail
          clear hcell
          go_loopw [66] (fun i wr => ∃ j : Nat, i = .int .i64 j ∧ j ≤ c ∧ Hid (St w wr p d) ∧ Hid (MatD wr d (.slice aM ps.length cM) ps) ∧ Hid (MatD wr d (.slice (some ⟨bq, oq, none⟩) qs.length cqs) qs) ∧ Hid (OwnI wr X (.slice (some ⟨X, 0, none⟩) c c) (accL zs y j)) ∧ Hid (Ints wr (.slice a2 y.length c2) y)) (fun i _ => c - (intOf i).toNat)
          case atStart => exact ⟨0, rfl, Nat.zero_le _, HS, HMvm, Mqs, Lib.hid (by rw [accL_zero]; exact OX.out), HRI⟩
          case round =>
            clear HMvm HS Mqs OX HRI
            obtain ⟨j, rfl, hj, HS, HMvm, Mqs, OX, HRI⟩ := hrel
            rename World => wj
            by_cases hjb : j < c
            · have h5 : (j : Int) < (c : Int) := by omega
              have i3 : IntKind.i64.wrap ((j : Int) + 1) = (j : Int) + 1 := IntWalk.i64_in _ (by omega)
              obtain ⟨hcx, hfx⟩ := OX.out.cell j (by rw [accL_len HH.out.1 HYL.out (by omega)]; exact hjb)
              rw [accL_at HH.out.1 HYL.out hjb] at hcx
              have HST := Lib.hid (OX.out.stored j (zs[j]?.getD 0 + y[j]?.getD 0))
              rw [accL_set HH.out.1 HYL.out hjb] at HST
              have hyl : y.length = c := HYL.out
              obtain ⟨_, _, hv, _, _, hxc⟩ := HRI.out
              simp only [Value.slice.injEq] at hv
              obtain ⟨rfl, -, rfl⟩ := hv
              obtain ⟨bb, ob, rfl, hcy⟩ := Ints.at hxc (show j < y.length by omega)
              have hz1 : zs[j]?.getD 0 ≤ 8 ∧ 0 ≤ zs[j]?.getD 0 := by
                have hm : zs[j]?.getD 0 ∈ zs := by rw [List.getElem?_eq_getElem (by rw [HH.out.1]; exact hjb)]; exact List.getElem_mem _
                have h1 := le_sumI HH.out.2.1 hm
                have h2 := HH.out.2.2.1
                have h3 := HH.out.2.1 _ hm
                omega
              have hy1 := mem_at (P := fun z => z ≤ 10) HQK.out.2.1 (show j < y.length by omega)
              have hy0 := mem_at (P := fun z => 0 ≤ z ∧ z ≤ 1000000) HQK.out.1.2 (show j < y.length by omega)
              have m1 : IntKind.i64.wrap (zs[j]?.getD 0 + y[j]?.getD 0) = zs[j]?.getD 0 + y[j]?.getD 0 := IntWalk.i64_in _ (by omega)
              generalize zs[j]?.getD 0 = u at *
              generalize y[j]?.getD 0 = v at *
              have hcxd : wj.drew.cell? ⟨X, j, none⟩ = some (.int .i64 u) := hcx
              have hfxd : wj.drew.frozen? ⟨X, j, none⟩ = false := hfx
              have hcyd : wj.drew.cell? ⟨bb, ob + j, none⟩ = some (.int .i64 v) := hcy
              have h6 : (j : Int) < (y.length : Int) := by omega
              clear hxc hz1 hy1 hy0
              go_wp2_with fail
              go_region
              clear hcx hfx hcy hcxd hfxd hcyd m1
              have GS := Lib.hid (grown_trans (grown_set wj ⟨X, j, none⟩ (.int .i64 (u + v))) ((grown_drew _ (some X))))
              replace HST := Lib.hid (HST.out.kept (grown_drew _ none) (by simp))
              replace HS := Lib.hid (HS.out.put GS.out HDX.out); replace HMvm := Lib.hid (HMvm.out.put LV.out GS.out); replace Mqs := Lib.hid (Mqs.out.put LQ.out GS.out)
              have HRI2 : Hid (Ints ((wj.setCell ⟨X, j, none⟩ (.int .i64 (u + v))).drew) (.slice (some ⟨bb, ob, none⟩) y.length c2) y) := Lib.hid (HRI.out.kept GS.out (fun g hg e => by cases hg; exact absurd (HYB.out _ e) (Nat.lt_irrefl _)))
              go_wp2_with fail
              go_roundw
              case rel => exact ⟨j + 1, by go_num, by omega, HS, HMvm, Mqs, HST, HRI2⟩
              case measure => simp [intOf]; omega
            · obtain rfl : j = c := by omega
              have h5 : ¬ (j : Int) < (j : Int) := by omega
              have HA := Lib.hid (Hom.add HOKvm.out HH.out HQK.out.1 HQS.out HQK.out.2.2)
              have OA := OX
              rw [accL_end HH.out.1 HYL.out] at OA
              clear OX
              go_wp2_with fail
              go_roundw
              case rel => exact ⟨t + 1, by go_num, by omega, HS, HMvm, Mqs, _, OA, HA⟩
              case measure => simp [intOf]; omega
        · obtain rfl : t = 2 := by omega
          have h4 : ¬ ((2 : Nat) : Int) < 2 := by omega
          have hsz := sumI_nn HH.out.2.1
          have hs8 := HH.out.2.2.1
          obtain ⟨s, hs⟩ : ∃ s : Nat, sumI zs = (s : Int) := ⟨(sumI zs).toNat, by omega⟩
          have hs10 : s ≤ 10 := by omega
          have HXO : Hid (zs.length = c ∧ ∀ z ∈ zs, 0 ≤ z ∧ z ≤ 10) := Lib.hid ⟨HH.out.1, fun z hz => ⟨HH.out.2.1 z hz, by have := le_sumI HH.out.2.1 hz; omega⟩⟩
          have HSOL : Hid (solB ps (zerosL r) zs = true) := Lib.hid ((sol_zero HOKvm.out).2 HH.out.2.2.2.1)
          have HXI : Hid (Ints wt (.slice (some ⟨X, 0, none⟩) c c) zs) := Lib.hid (OX.out.ints (fun z hz => by have := HXO.out.2 z hz; omega))
          have HXX : Hid (X < wt.heap.size) := Lib.hid (OX.out.fresh X rfl).2
          have HSB : Hid (someB zs = true) := Lib.hid ((some_iff HH.out.2.1).2 (HH.out.2.2.2.2 (by omega)))
          have HSS := Lib.hid hs
          clear Mqs OX hsz hs8 hs
          go_wp2_with fail
          refine (Split_any HMvm.out.rows HOKvm.out (by omega) (by omega) HXI.out HXO.out HSS.out hs10 HSOL.out).mono ?_
          rintro e w12 ⟨vr, rs, rfl, hr, -, hsp, hg, -⟩
          have HMO : Hid (∀ p ∈ minL (goodB ps (zerosL r) someB) (vecs c s), VecOk c p ∧ (∀ z ∈ p, z ≤ 10) ∧ goodB ps (zerosL r) someB p = true) := Lib.hid (fun p hp => ⟨(minL_ok hs10 p hp).1, (minL_ok hs10 p hp).2.1, (minL_ok hs10 p hp).2.2.1⟩)
          have HRO : Hid (∀ q ∈ rs, VecOk c q.2 ∧ (∀ z ∈ q.2, z ≤ 10) ∧ solB ps (zerosL r) q.2 = true) := Lib.hid (fun q hq => by
            have := HMO.out q.2 (hsp.mem _ (List.mem_map_of_mem hq))
            exact ⟨this.1, this.2.1, good_sol this.2.2⟩)
          have hrl1 : 0 < rs.length := by have := split_ne hsp HSB.out; simpa using this
          have hrl2 : rs.length ≤ 10 := by
            have h1 := hsp.len (c := c) (fun p hp => by
              have := HMO.out p hp
              have h2 := this.2.2
              unfold goodB at h2
              rw [Bool.and_eq_true] at h2
              exact ⟨this.1.nn, h2.2⟩) ⟨HXO.out.1, fun z hz => (HXO.out.2 z hz).1⟩
            rw [HSS.out, List.length_map] at h1
            omega
          have HVS : Hid (vsum c (rs.map Prod.snd) = zs) := Lib.hid (hsp.sum (fun p hp => (HMO.out p hp).1.nn) ⟨HXO.out.1, fun z hz => (HXO.out.2 z hz).1⟩)
          have HCM : Hid (∀ k, (hk : k + 1 < rs.length) → compareI rs[k].2 rs[k + 1].2 ≤ 0) := Lib.hid (fun k hk => Int.not_lt.1 <| split_cmp hsp (min_asc _ c s) (fun p hp => (HMO.out p hp).1.1) hk)
          have HR := Lib.hid hr
          replace HS := Lib.hid (HS.out.step hg); replace HMvm := Lib.hid (HMvm.out.step hg); replace HXI := Lib.hid (HXI.out.same hg)
          replace HXX : Hid (X < w12.heap.size) := Lib.hid (Nat.lt_of_lt_of_le HXX.out hg.size)
          obtain ⟨ar, cr, rfl, -⟩ : ∃ a cap, vr = .slice a rs.length cap ∧ True := by obtain ⟨a, cap, h, -⟩ := hr; exact ⟨a, cap, h, trivial⟩
          clear hr hsp hg HMO HSOL HSS HH HSB
          go_wp2_with (at_make; refine make_int rfl _ _ rfl c rfl rfl (by omega) ?_)
          intro w13 ho hg
          obtain ⟨Y, hY⟩ : ∃ Y, w12.heap.size = Y := ⟨_, rfl⟩
          rw [hY] at ho HXX ⊢
          have LV2 : Hid (Low Y (.slice aM ps.length cM) ps) := Lib.hid (hY ▸ HMvm.out.low)
          have LR : Hid (Low Y (.slice ar rs.length cr) rs) := Lib.hid (hY ▸ HR.out.low hrl1)
          have HDY : Hid (d < Y) := Lib.hid (hY ▸ HS.out.lt)
          have HXY : Hid (X < Y) := HXX
          replace HMvm := Lib.hid (HMvm.out.step hg); replace HS := Lib.hid (HS.out.step hg); replace HR := Lib.hid (HR.out.same hg); replace HXI := Lib.hid (HXI.out.same hg)
          have OY := Lib.hid ho; have HU := Lib.hid (Summed.zero HVS.out HXO.out.1)
          clear ho hg hY HXX LV LQ
          go_wp2_with fail
          go_loopw [90] (fun i wr => ∃ k : Nat, i = .int .i64 k ∧ k ≤ rs.length ∧ Hid (St w wr p d) ∧ Hid (MatD wr d (.slice aM ps.length cM) ps) ∧ Hid (RowsP wr (.slice ar rs.length cr) rs) ∧ Hid (Ints wr (.slice (some ⟨X, 0, none⟩) c c) zs) ∧ ∃ us, Hid (OwnI wr Y (.slice (some ⟨Y, 0, none⟩) c c) us) ∧ Hid (Summed c (rs.map Prod.snd) zs k us)) (fun i _ => rs.length - (intOf i).toNat)
          case atStart => exact ⟨0, rfl, Nat.zero_le _, HS, HMvm, HR, HXI, _, OY, HU⟩
          case round =>
            clear HMvm HS HR HXI OY HU
            obtain ⟨k, rfl, hk, HS, HMvm, HR, HXI, us, OY, HU⟩ := hrel
            rename World => wk
            by_cases hkb : k < rs.length
            · have h6 : (k : Int) < (rs.length : Int) := by omega
              have i4 : IntKind.i64.wrap ((k : Int) + 1) = (k : Int) + 1 := IntWalk.i64_in _ (by omega)
              obtain ⟨bq, oq, a2, c2, rfl, hcell, hrv, hri⟩ := HR.out.row hkb
              have HRI := Lib.hid hri
              have HQK := Lib.hid (HRO.out _ (List.getElem_mem hkb))
              have HYB : Hid (∀ g, (Value.slice a2 rs[k].2.length c2).ownBlock = some g → g < Y) := Lib.hid (by rw [← hrv]; exact LR.out.2 _ (List.getElem_mem hkb))
              have HPK : Hid ((rs.map Prod.snd)[k]? = some rs[k].2) := Lib.hid (by rw [List.getElem?_map, List.getElem?_eq_getElem hkb]; rfl)
              have HCK : Hid (∀ k', k = k' + 1 → ∃ h : k' < rs.length, compareI rs[k'].2 rs[k].2 ≤ 0) := Lib.hid (by
                rintro k' rfl
                exact ⟨by omega, HCM.out k' hkb⟩)
              clear hri hrv
              obtain ⟨y, hy⟩ : ∃ y, rs[k].2 = y := ⟨_, rfl⟩
              rw [hy] at hcell HRI HQK HYB HPK HCK
              have HYL := Lib.hid HQK.out.1.1
              clear hy
              by_cases hk0 : k = 0
              · have p2 : ¬ (0 : Int) < (k : Int) := by omega
                clear hk0
                go_wp2_with (at_make; refine make_int rfl _ _ rfl ps.length rfl rfl (by omega) ?_)
                intro w14 ho hg
                have HZ : Hid (Ints w14 (.slice (some ⟨wk.heap.size, 0, none⟩) ps.length ps.length) (zerosL r)) := Lib.hid (by rw [← HOKvm.out.1]; exact ho.ints (zeros_bd _))
                replace HMvm := Lib.hid (HMvm.out.step hg); replace HS := Lib.hid (HS.out.step hg); replace HR := Lib.hid (HR.out.same hg); replace HXI := Lib.hid (HXI.out.same hg); replace HRI := Lib.hid (HRI.out.same hg); replace OY := Lib.hid (OY.out.kept hg (by simp))
                clear ho hg
                go_wp2_with fail
                refine (hsolves_any HMvm.out.rows HOKvm.out (by omega) (by omega) HZ.out (zeros_ok r) HRI.out HQK.out.1).mono ?_
                rintro e w15 ⟨rfl, hg⟩
                rw [HQK.out.2.2]
                replace HMvm := Lib.hid (HMvm.out.step hg); replace HS := Lib.hid (HS.out.step hg); replace HR := Lib.hid (HR.out.same hg); replace HXI := Lib.hid (HXI.out.same hg); replace HRI := Lib.hid (HRI.out.same hg); replace OY := Lib.hid (OY.out.kept hg (by simp))
                clear hg hcell HZ
                go_wp2_with fail
                go_loopw [118] (fun i wr => ∃ j : Nat, i = .int .i64 j ∧ j ≤ c ∧ Hid (St w wr p d) ∧ Hid (MatD wr d (.slice aM ps.length cM) ps) ∧ Hid (RowsP wr (.slice (some ⟨bq, oq, none⟩) rs.length cr) rs) ∧ Hid (Ints wr (.slice (some ⟨X, 0, none⟩) c c) zs) ∧ Hid (OwnI wr Y (.slice (some ⟨Y, 0, none⟩) c c) (accL us y j)) ∧ Hid (Ints wr (.slice a2 y.length c2) y)) (fun i _ => c - (intOf i).toNat)
                case atStart => exact ⟨0, rfl, Nat.zero_le _, HS, HMvm, HR, HXI, Lib.hid (by rw [accL_zero]; exact OY.out), HRI⟩
                case round =>
                  clear HMvm HS HR HXI OY HRI
                  obtain ⟨j, rfl, hj, HS, HMvm, HR, HXI, OY, HRI⟩ := hrel
                  rename World => wj
                  by_cases hjb : j < c
                  · have h5 : (j : Int) < (c : Int) := by omega
                    have i3 : IntKind.i64.wrap ((j : Int) + 1) = (j : Int) + 1 := IntWalk.i64_in _ (by omega)
                    obtain ⟨hcx, hfx⟩ := OY.out.cell j (by rw [accL_len HU.out.1 HYL.out (by omega)]; exact hjb)
                    rw [accL_at HU.out.1 HYL.out hjb] at hcx
                    have HST := Lib.hid (OY.out.stored j (us[j]?.getD 0 + y[j]?.getD 0))
                    rw [accL_set HU.out.1 HYL.out hjb] at HST
                    have hyl : y.length = c := HYL.out
                    obtain ⟨_, _, hv, _, _, hxc⟩ := HRI.out
                    simp only [Value.slice.injEq] at hv
                    obtain ⟨rfl, -, rfl⟩ := hv
                    obtain ⟨bb, ob, rfl, hcy⟩ := Ints.at hxc (show j < y.length by omega)
                    have hz1 := mem_at (P := fun z => 0 ≤ z ∧ z ≤ 10) HU.out.2.1 (show j < us.length by rw [HU.out.1]; exact hjb)
                    have hy1 := mem_at (P := fun z => z ≤ 10) HQK.out.2.1 (show j < y.length by omega)
                    have hy0 := mem_at (P := fun z => 0 ≤ z ∧ z ≤ 1000000) HQK.out.1.2 (show j < y.length by omega)
                    have m1 : IntKind.i64.wrap (us[j]?.getD 0 + y[j]?.getD 0) = us[j]?.getD 0 + y[j]?.getD 0 := IntWalk.i64_in _ (by omega)
                    generalize us[j]?.getD 0 = u at *
                    generalize y[j]?.getD 0 = v at *
                    have hcxd : wj.drew.cell? ⟨Y, j, none⟩ = some (.int .i64 u) := hcx
                    have hfxd : wj.drew.frozen? ⟨Y, j, none⟩ = false := hfx
                    have hcyd : wj.drew.cell? ⟨bb, ob + j, none⟩ = some (.int .i64 v) := hcy
                    have h6 : (j : Int) < (y.length : Int) := by omega
                    clear hxc hz1 hy1 hy0
                    go_wp2_with fail
                    go_region
                    clear hcx hfx hcy hcxd hfxd hcyd m1
                    have GS := Lib.hid (grown_trans (grown_set wj ⟨Y, j, none⟩ (.int .i64 (u + v))) ((grown_drew _ (some Y))))
                    replace HST := Lib.hid (HST.out.kept (grown_drew _ none) (by simp))
                    replace HS := Lib.hid (HS.out.put GS.out HDY.out); replace HMvm := Lib.hid (HMvm.out.put LV2.out GS.out); replace HR := Lib.hid (HR.out.put LR.out GS.out)
                    replace HXI := Lib.hid (HXI.out.kept GS.out (fun g hg e => by cases hg; cases e; exact absurd HXY.out (Nat.lt_irrefl _)))
                    have HRI2 : Hid (Ints ((wj.setCell ⟨Y, j, none⟩ (.int .i64 (u + v))).drew) (.slice (some ⟨bb, ob, none⟩) y.length c2) y) := Lib.hid (HRI.out.kept GS.out (fun g hg e => by cases hg; exact absurd (HYB.out _ e) (Nat.lt_irrefl _)))
                    go_wp2_with fail
                    go_roundw
                    case rel => exact ⟨j + 1, by go_num, by omega, HS, HMvm, HR, HXI, HST, HRI2⟩
                    case measure => simp [intOf]; omega
                  · obtain rfl : j = c := by omega
                    have h5 : ¬ (j : Int) < (j : Int) := by omega
                    have HA := Lib.hid (HU.out.next HPK.out (fun q hq => by
                      obtain ⟨z, hz, rfl⟩ := List.mem_map.1 hq
                      exact (HRO.out z hz).1.nn) (fun z hz => (HXO.out.2 z hz).2))
                    have OA := OY
                    rw [accL_end HU.out.1 HYL.out] at OA
                    clear OY
                    go_wp2_with fail
                    go_roundw
                    case rel => exact ⟨k + 1, by go_num, by omega, HS, HMvm, HR, HXI, _, OA, HA⟩
                    case measure => simp [intOf]; omega
              · have p2 : (0 : Int) < (k : Int) := by omega
                obtain ⟨k', hk'⟩ : ∃ k', k = k' + 1 := ⟨k - 1, by omega⟩
                obtain ⟨hkl, hcm⟩ := HCK.out k' hk'
                have HCC := Lib.hid hcm
                have e7 : (k : Int) - 1 = (k' : Int) := by omega
                have i7 : IntKind.i64.wrap ((k : Int) - 1) = (k' : Int) := by rw [e7]; exact IntWalk.i64_in _ (by omega)
                have h7 : (k' : Int) < (rs.length : Int) := by omega
                clear hk0 hk' hcm e7
                go_wp2_with (at_make; refine make_int rfl _ _ rfl ps.length rfl rfl (by omega) ?_)
                intro w14 ho hg
                have HZ : Hid (Ints w14 (.slice (some ⟨wk.heap.size, 0, none⟩) ps.length ps.length) (zerosL r)) := Lib.hid (by rw [← HOKvm.out.1]; exact ho.ints (zeros_bd _))
                replace HMvm := Lib.hid (HMvm.out.step hg); replace HS := Lib.hid (HS.out.step hg); replace HR := Lib.hid (HR.out.same hg); replace HXI := Lib.hid (HXI.out.same hg); replace HRI := Lib.hid (HRI.out.same hg); replace OY := Lib.hid (OY.out.kept hg (by simp))
                clear ho hg
                go_wp2_with fail
                refine (hsolves_any HMvm.out.rows HOKvm.out (by omega) (by omega) HZ.out (zeros_ok r) HRI.out HQK.out.1).mono ?_
                rintro e w15 ⟨rfl, hg⟩
                rw [HQK.out.2.2]
                replace HMvm := Lib.hid (HMvm.out.step hg); replace HS := Lib.hid (HS.out.step hg); replace HR := Lib.hid (HR.out.same hg); replace HXI := Lib.hid (HXI.out.same hg); replace HRI := Lib.hid (HRI.out.same hg); replace OY := Lib.hid (OY.out.kept hg (by simp))
                clear hg hcell HZ
                obtain ⟨_, _, a4, c4, e4, hcell4, -, hri4⟩ := HR.out.row hkl
                cases e4
                have HR4 := Lib.hid hri4
                clear hri4
                go_wp2_with fail
                refine (rcompare_any _ _ _ _ _ HR4.out HRI.out).mono ?_
                rintro e w16 ⟨rfl, hd⟩
                have hg := hd.grown none
                replace HMvm := Lib.hid (HMvm.out.step hg); replace HS := Lib.hid (HS.out.step hg); replace HR := Lib.hid (HR.out.same hg); replace HXI := Lib.hid (HXI.out.same hg); replace HRI := Lib.hid (HRI.out.same hg); replace OY := Lib.hid (OY.out.kept hg (by simp))
                obtain ⟨cc, hcc⟩ : ∃ cc, compareI rs[k'].2 y = cc := ⟨_, rfl⟩
                rw [hcc] at HCC ⊢
                have p8 : ¬ 0 < cc := by have := HCC.out; omega
                clear hd hg hcell4 hcc HCC i7 HR4
                go_wp2_with fail
                clear p8
                go_loopw [118] (fun i wr => ∃ j : Nat, i = .int .i64 j ∧ j ≤ c ∧ Hid (St w wr p d) ∧ Hid (MatD wr d (.slice aM ps.length cM) ps) ∧ Hid (RowsP wr (.slice (some ⟨bq, oq, none⟩) rs.length cr) rs) ∧ Hid (Ints wr (.slice (some ⟨X, 0, none⟩) c c) zs) ∧ Hid (OwnI wr Y (.slice (some ⟨Y, 0, none⟩) c c) (accL us y j)) ∧ Hid (Ints wr (.slice a2 y.length c2) y)) (fun i _ => c - (intOf i).toNat)
                case atStart => exact ⟨0, rfl, Nat.zero_le _, HS, HMvm, HR, HXI, Lib.hid (by rw [accL_zero]; exact OY.out), HRI⟩
                case round =>
                  clear HMvm HS HR HXI OY HRI
                  obtain ⟨j, rfl, hj, HS, HMvm, HR, HXI, OY, HRI⟩ := hrel
                  rename World => wj
                  by_cases hjb : j < c
                  · have h5 : (j : Int) < (c : Int) := by omega
                    have i3 : IntKind.i64.wrap ((j : Int) + 1) = (j : Int) + 1 := IntWalk.i64_in _ (by omega)
                    obtain ⟨hcx, hfx⟩ := OY.out.cell j (by rw [accL_len HU.out.1 HYL.out (by omega)]; exact hjb)
                    rw [accL_at HU.out.1 HYL.out hjb] at hcx
                    have HST := Lib.hid (OY.out.stored j (us[j]?.getD 0 + y[j]?.getD 0))
                    rw [accL_set HU.out.1 HYL.out hjb] at HST
                    have hyl : y.length = c := HYL.out
                    obtain ⟨_, _, hv, _, _, hxc⟩ := HRI.out
                    simp only [Value.slice.injEq] at hv
                    obtain ⟨rfl, -, rfl⟩ := hv
                    obtain ⟨bb, ob, rfl, hcy⟩ := Ints.at hxc (show j < y.length by omega)
                    have hz1 := mem_at (P := fun z => 0 ≤ z ∧ z ≤ 10) HU.out.2.1 (show j < us.length by rw [HU.out.1]; exact hjb)
                    have hy1 := mem_at (P := fun z => z ≤ 10) HQK.out.2.1 (show j < y.length by omega)
                    have hy0 := mem_at (P := fun z => 0 ≤ z ∧ z ≤ 1000000) HQK.out.1.2 (show j < y.length by omega)
                    have m1 : IntKind.i64.wrap (us[j]?.getD 0 + y[j]?.getD 0) = us[j]?.getD 0 + y[j]?.getD 0 := IntWalk.i64_in _ (by omega)
                    generalize us[j]?.getD 0 = u at *
                    generalize y[j]?.getD 0 = v at *
                    have hcxd : wj.drew.cell? ⟨Y, j, none⟩ = some (.int .i64 u) := hcx
                    have hfxd : wj.drew.frozen? ⟨Y, j, none⟩ = false := hfx
                    have hcyd : wj.drew.cell? ⟨bb, ob + j, none⟩ = some (.int .i64 v) := hcy
                    have h6 : (j : Int) < (y.length : Int) := by omega
                    clear hxc hz1 hy1 hy0
                    go_wp2_with fail
                    go_region
                    clear hcx hfx hcy hcxd hfxd hcyd m1
                    have GS := Lib.hid (grown_trans (grown_set wj ⟨Y, j, none⟩ (.int .i64 (u + v))) ((grown_drew _ (some Y))))
                    replace HST := Lib.hid (HST.out.kept (grown_drew _ none) (by simp))
                    replace HS := Lib.hid (HS.out.put GS.out HDY.out); replace HMvm := Lib.hid (HMvm.out.put LV2.out GS.out); replace HR := Lib.hid (HR.out.put LR.out GS.out)
                    replace HXI := Lib.hid (HXI.out.kept GS.out (fun g hg e => by cases hg; cases e; exact absurd HXY.out (Nat.lt_irrefl _)))
                    have HRI2 : Hid (Ints ((wj.setCell ⟨Y, j, none⟩ (.int .i64 (u + v))).drew) (.slice (some ⟨bb, ob, none⟩) y.length c2) y) := Lib.hid (HRI.out.kept GS.out (fun g hg e => by cases hg; exact absurd (HYB.out _ e) (Nat.lt_irrefl _)))
                    go_wp2_with fail
                    go_roundw
                    case rel => exact ⟨j + 1, by go_num, by omega, HS, HMvm, HR, HXI, HST, HRI2⟩
                    case measure => simp [intOf]; omega
                  · obtain rfl : j = c := by omega
                    have h5 : ¬ (j : Int) < (j : Int) := by omega
                    have HA := Lib.hid (HU.out.next HPK.out (fun q hq => by
                      obtain ⟨z, hz, rfl⟩ := List.mem_map.1 hq
                      exact (HRO.out z hz).1.nn) (fun z hz => (HXO.out.2 z hz).2))
                    have OA := OY
                    rw [accL_end HU.out.1 HYL.out] at OA
                    clear OY
                    go_wp2_with fail
                    go_roundw
                    case rel => exact ⟨k + 1, by go_num, by omega, HS, HMvm, HR, HXI, _, OA, HA⟩
                    case measure => simp [intOf]; omega
            · obtain rfl : k = rs.length := by omega
              have h6 : ¬ (rs.length : Int) < (rs.length : Int) := by omega
              have e8 : us = zs := Summed.last (L := rs.map Prod.snd) (by rw [List.length_map]; exact HU.out)
              subst e8
              have HYI : Hid (Ints wk (.slice (some ⟨Y, 0, none⟩) c c) us) := Lib.hid (OY.out.ints (fun z hz => by have := HXO.out.2 z hz; omega))
              have p9 : (0 : Int) < (rs.length : Int) := by omega
              go_wp2_with fail
              refine (same_any _ _ _ _ _ HYI.out HXI.out).mono ?_
              rintro e w17 ⟨rfl, hd⟩
              rw [beq_self_eq_true]
              replace HS := Lib.hid (HS.out.drew hd)
              clear hd
              go_wp2_with fail
              go_ret
              exact ⟨rfl, HS.out.below⟩
  · go_enter Try.func6, Try.ntmps6
    go_wp2_with fail
    refine (awake12_any _).mono ?_
    rintro e w1 ⟨rfl, hg⟩
    have HG := Lib.hid hg
    clear hg
    go_wp2_with fail
    refine (few_any _ _ _ _).mono ?_
    rintro e w2 ⟨rfl, rfl⟩
    rw [decide_eq_false (by omega)]
    go_wp2_with fail
    refine (awake12_any _).mono ?_
    rintro e w3 ⟨rfl, hg⟩
    have HG := Lib.hid (grown_trans HG.out hg)
    clear hg
    go_wp2_with fail
    go_ret
    exact ⟨rfl, below_of HG.out⟩

/-! ### HilbertSplits: the statement, from its walk -/
set_option maxRecDepth 100000 in
theorem liftedHilbertSplits (os : Os) (started : os.Started) (H : Type) (enc : TypeId × Value → H) :
    ReturnsInHanded {} Try.checked os 6 .any (Rows.hilbertSplitsSpec.pre6 enc Try.prog Try.f6 Rows.hilbertSplitsRow.domain false) (Rows.hilbertSplitsSpec.post enc Try.prog Try.f6 false true false false) := by
  refine returnsInHanded_of_change (C := Try.checked) own started (by kernel_rfl) Try.func6
    (ChangeSpec.witness6 (enc := enc) (C := Try.checked) false ⟨#[], #[.slice none 0 0], []⟩ 8 (by kernel_rfl) (by kernel_rfl) (by kernel_rfl) (by kernel_rfl)) ?_
  intro W base args ds gs before hval0 hW hcnd _
  have hval : ∀ (j : Nat) t v, Try.f6.params[j]? = some t → args[j]? = some v → Value.okWide Try.prog W .any base t v := hval0
  have hW' := hW
  obtain ⟨p, q, hA0, hV, rfl, hfz, hnd⟩ := hW
  have hA : DataW.TrodAll enc Try.prog W 0 (fun _ => true) true Try.f6.params.toList args.toList ds p := hA0
  rw [Try.params6] at hA hval
  obtain ⟨v0, vs0, d0, ds0, p0, q0, hargs, rfl, rfl, h0, r0⟩ := trodAll_cons hA
  obtain ⟨rfl, rfl, rfl⟩ := trodAll_nil r0
  obtain rfl : args = #[v0] := by cases args; simp_all
  obtain ⟨rfl, rfl⟩ := trodVars_none hV
  obtain ⟨a0, len0, cap0, rfl⟩ := okWide_slice Try.underlying22 (hval 0 22 v0 rfl rfl)
  have k0 := h0
  have lt0 : ∀ x ∈ p0, x.block < W.heap.size := by obtain ⟨m, hm⟩ := k0; exact DataW.trod_lt m _ _ _ hm
  obtain ⟨z0, w0⟩ : ∃ zs, IsRow .i64 W a0 len0 cap0 zs := by
    obtain ⟨fuel, hf⟩ := h0
    rcases open_ints Try.underlying22 Try.underlying3 (by kernel_rfl) hf with ⟨hcs, _⟩ | ⟨x, l, c, zs, hcs, _, hl, hm, hz, _, hcell, hwz⟩
    · simp [Value.cells] at hcs
      obtain ⟨rfl, rfl, rfl⟩ := hcs
      exact ⟨[], .inl ⟨rfl, rfl, rfl, rfl⟩⟩
    · simp [Value.cells] at hcs
      obtain ⟨rfl, rfl, rfl⟩ := hcs
      exact ⟨zs, .inr ⟨_, rfl, hl, hm, by simpa using hz, hcell, hwz⟩⟩
  clear hA0 hval0
  refine (walkHilbertSplits a0 len0 cap0 z0 W w0).mono fun e W' ⟨he, bel⟩ => ?_
  subst he
  exact ⟨_, rfl, _, _, _, [], _, [], hW', trodAll_mk1 (shut_bool Try.underlying4 _), (trodAll_cons_mk (Below.trod laidOut (by kernel_rfl) (of_decide_eq_true (by kernel_rfl)) k0 bel lt0) trodAll_mk0), rfl, bel.frame _, fun h => by cases h⟩

theorem hilbertSplits_holds : Rows.HilbertSplitsSaid :=
  OpenClaim.holds_of_wide 6 Try.f6 rfl rfl rfl rfl rfl rfl rfl ⟨rfl, rfl, rfl, rfl, rfl⟩ rfl rfl rfl rfl rfl (by kernel_rfl) Try.func6 (by kernel_rfl)
    (of_decide_eq_true (by kernel_rfl)) (by unfold Func.isWrapper; first | (rw [if_pos (by decide +kernel)]; kernel_rfl) | (rw [if_neg (by decide +kernel)]; exact ⟨rfl, rfl⟩))
    (fun os started H enc _ => liftedHilbertSplits os started H enc)
#print axioms hilbertSplits_holds
end Go.Proofs.Ytgcfafjgaifmiaa
