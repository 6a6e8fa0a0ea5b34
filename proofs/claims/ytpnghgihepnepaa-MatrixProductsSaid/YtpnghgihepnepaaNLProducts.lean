/- MatrixProducts: for every input it answers true. -/
import Derived.Test.YtpnghgihepnepaaNl
import Derived.Test.YtpnghgihepnepaaBg
import Derived.Outline
import Derived.BigRegion
import Derived.Deep.RegionHeld3
namespace Go.Proofs.Ytpnghgihepnepaa
open Go.ChangeShapes Go.WideShapes Go.ChangeAt Go.RowKit
set_option linter.unusedVariables false

set_option maxRecDepth 100000 in
set_option maxHeartbeats 4000000 in
theorem walkMatrixProducts (a0 : Option Addr) (len0 cap0 : Nat) (z0 : List Int) (w : World) (w0 : IsRow .i64 w a0 len0 cap0 z0) :
    Calls Try.prog 6 #[.slice a0 len0 cap0] w fun e w' => e = .returned (.bool true) ∧ Below w.heap.size w w' := by
  obtain ⟨hI, hlen⟩ := w0.ints
  generalize z0.take len0 = zs at hI hlen
  subst hlen
  have HI := Lib.hid hI
  clear hI w0
  by_cases hfew : (zs.length : Int) ≤ 400
  · go_enter Try.func6, Try.ntmps6
    go_wp2_with fail
    refine (awake10_any _).mono ?_
    rintro e w1 ⟨rfl, hg⟩
    have HG := Lib.hid hg
    clear hg
    go_wp2_with fail
    refine (few_any _ _ _ _).mono ?_
    rintro e w2 ⟨rfl, rfl⟩
    rw [decide_eq_true hfew]
    go_wp2_with fail
    refine (new_st (HI.out.same HG.out) HG.out).mono ?_
    rintro e w3 ⟨p, d, rfl, hs⟩
    have HS := Lib.hid hs
    clear hs HG HI
    go_wp2_with fail
    refine (next_st HS.out _ (by omega) (by omega)).mono ?_
    rintro e w4 ⟨y, rfl, hy0, hy1, hs, hg⟩
    replace HS := Lib.hid hs
    clear hs hg
    obtain ⟨r, hr⟩ : ∃ r : Nat, 1 + y = (r : Int) := ⟨(1 + y).toNat, by omega⟩
    have hr1 : 1 ≤ r := by omega
    have hr2 : r ≤ 4 := by omega
    have ir : IntKind.i64.wrap (1 + y) = (r : Int) := by rw [hr]; exact IntWalk.i64_in _ (by omega)
    clear hr hy0 hy1
    go_wp2_with fail
    refine (next_st HS.out _ (by omega) (by omega)).mono ?_
    rintro e w5 ⟨y, rfl, hy0, hy1, hs, hg⟩
    replace HS := Lib.hid hs
    clear hs hg
    obtain ⟨c, hc⟩ : ∃ c : Nat, 1 + y = (c : Int) := ⟨(1 + y).toNat, by omega⟩
    have hc1 : 1 ≤ c := by omega
    have hc2 : c ≤ 4 := by omega
    have ic : IntKind.i64.wrap (1 + y) = (c : Int) := by rw [hc]; exact IntWalk.i64_in _ (by omega)
    clear hc hy0 hy1
    go_wp2_with fail
    refine (next_st HS.out _ (by omega) (by omega)).mono ?_
    rintro e w6 ⟨y, rfl, hy0, hy1, hs, hg⟩
    replace HS := Lib.hid hs
    clear hs hg
    obtain ⟨n, hn⟩ : ∃ n : Nat, 1 + y = (n : Int) := ⟨(1 + y).toNat, by omega⟩
    have hn1 : 1 ≤ n := by omega
    have hn2 : n ≤ 4 := by omega
    have iN : IntKind.i64.wrap (1 + y) = (n : Int) := by rw [hn]; exact IntWalk.i64_in _ (by omega)
    clear hn hy0 hy1
    go_wp2_with fail
    clear ir ic iN
    refine (matrix_st HS.out r c (by omega) (by omega)).mono ?_
    rintro e w7 ⟨va, ps0, rfl, hpl, hdm, hM, hs, hg⟩
    have HOK := Lib.hid (dealt_ok hpl hdm hr1 (by omega) hc1 (by omega) (by omega))
    have HM := Lib.hid hM; have HD := Lib.hid HS.out.lt; have HG := Lib.hid hg
    replace HS := Lib.hid hs
    clear hpl hdm hM hs hg
    go_wp2_with fail
    refine (clamp_any HM.out HOK.out HS.out HD.out HG.out (Nat.le_refl _)).mono ?_
    rintro e w8 ⟨rfl, ms, hM, hok, h2, hs, -⟩
    have HMA : Hid (MatD w8 d va ms) := Lib.hid ⟨_, HD.out, hM⟩
    have HAO := Lib.hid hok; have HA2 := Lib.hid h2
    replace HS := Lib.hid hs
    clear HM HOK HD HG hM hok h2 hs
    go_wp2_with fail
    refine (matrix_st HS.out c n (by omega) (by omega)).mono ?_
    rintro e w9 ⟨vb, ps1, rfl, hpl, hdm, hM, hs, hg⟩
    have HOK := Lib.hid (dealt_ok hpl hdm hc1 (by omega) hn1 (by omega) (by omega))
    have HM := Lib.hid hM; have HD := Lib.hid HS.out.lt; have HG := Lib.hid hg
    replace HS := Lib.hid hs
    clear hpl hdm hM hs hg
    go_wp2_with fail
    refine (clamp_any HM.out HOK.out HS.out HD.out HG.out (Nat.le_refl _)).mono ?_
    rintro e w10 ⟨rfl, bs, hM, hok, h2, hs, hg⟩
    replace HMA := Lib.hid (HMA.out.deal hg)
    have HMB : Hid (MatD w10 d vb bs) := Lib.hid ⟨_, HD.out, hM⟩
    have HBO := Lib.hid hok; have HB2 := Lib.hid h2
    replace HS := Lib.hid hs
    clear HM HOK HD HG hM hok h2 hs hg
    go_wp2_with fail
    refine (small_st HS.out (n : Int) 5 (by omega) (by omega) (by omega)).mono ?_
    rintro e w11 ⟨vv, vs, rfl, hul, hub, hv, hs, hg⟩
    replace HMA := Lib.hid (HMA.out.deal hg); replace HMB := Lib.hid (HMB.out.deal hg); have VV := Lib.hid hv
    replace HS := Lib.hid hs; have HVL : Hid (vs.length = n) := Lib.hid (by rw [hul]; rfl); have HVB := Lib.hid hub
    clear hul hub hv hs hg
    obtain ⟨av, cv, rfl, -⟩ := VV.out.slice
    have evl : vs.length = n := HVL.out
    have HVI : Hid (Ints w11 (.slice av n cv) vs) := Lib.hid (by have := VV.out.1; rw [evl] at this; exact this)
    rw [evl]
    clear evl VV
    go_wp2_with fail
    refine (Multiply_any HMA.out.rows HAO.out HMB.out.rows HBO.out).mono ?_
    rintro e w12 ⟨vp, ps, rfl, hP, hps, hg⟩
    have HPL : Hid (ps.length = r) := Lib.hid (by rw [prodM_len hps]; exact HAO.out.1)
    obtain ⟨gp, cp, rfl⟩ := hP.lend HPL.out hr1
    have HP := Lib.hid hP; have HPS := Lib.hid hps
    replace HMA := Lib.hid (HMA.out.step hg); replace HMB := Lib.hid (HMB.out.step hg); replace HVI := Lib.hid (HVI.out.same hg); replace HS := Lib.hid (HS.out.step hg)
    clear hP hps hg
    go_wp2_with fail
    refine (Apply_any HMB.out.rows HBO.out HVI.out HVL.out (fun y hy => by have := HVB.out y hy; omega)).mono ?_
    rintro e w13 ⟨vw, rfl, ho, hg⟩
    obtain ⟨ws, hws⟩ : ∃ ws, ws = bs.map (fun q => dotL q.2 vs) := ⟨_, rfl⟩
    rw [← hws] at ho
    have HWL : Hid (ws.length = c) := Lib.hid (by rw [hws, List.length_map]; exact HBO.out.1)
    obtain ⟨gw, cw, rfl⟩ := own_res ho HWL.out hc1
    have HWB : Hid (∀ x ∈ ws, -40 ≤ x ∧ x ≤ 40) := Lib.hid (fun x hx => by
      rw [hws] at hx
      obtain ⟨q, hq, rfl⟩ := List.mem_map.1 hx
      have h1 := HBO.out.2.2.2.2.2.2 q hq
      have := dot_bd (A := 2) (B := 5) q.2 vs (HB2.out q hq) (fun y hy => by have := HVB.out y hy; omega) (by decide)
      rw [h1.1] at this
      omega)
    have HW := Lib.hid ho; have HWS := Lib.hid hws
    replace HMA := Lib.hid (HMA.out.step hg); replace HMB := Lib.hid (HMB.out.step hg); replace HVI := Lib.hid (HVI.out.same hg); replace HS := Lib.hid (HS.out.step hg); replace HP := Lib.hid (HP.out.same hg)
    obtain ⟨bA, hdA, hMA⟩ := HMA.out
    obtain ⟨gA, cA, rfl⟩ := hMA.lend HAO.out.1 hr1
    have HMO := Lib.hid hMA
    clear ho hws hg hMA
    have k1 : ((r : Int) != (r : Int)) = false := by simp
    go_wp2_with fail
    have HG13 := Lib.hid (grown_refl w13 none)
    go_loopw [85] (fun i wr => ∃ k : Nat, i = .int .i64 k ∧ k ≤ r ∧ Hid (w13.grownBy wr none)) (fun i _ => r - (intOf i).toNat)
    case atStart => exact ⟨0, rfl, Nat.zero_le _, HG13⟩
    case round =>
      clear HG13
      obtain ⟨i, rfl, hi, hG⟩ := hrel
      rename World => wk
      by_cases hib : i < r
      · have h3 : (i : Int) < (r : Int) := by omega
        have i1 : IntKind.i64.wrap ((i : Int) + 1) = (i : Int) + 1 := IntWalk.i64_in _ (by omega)
        have hia : i < ms.length := by have := HAO.out.1; omega
        have hip : i < ps.length := by have := HPL.out; omega
        have hqa := HAO.out.2.2.2.2.2.2 _ (List.getElem_mem hia)
        have hpa := prodM_at HPS.out hia hip
        have hpl : ps[i].2.length = n := by rw [hpa, prodR_len]
        have HEQ : Hid (dotL ps[i].2 vs = dotL ms[i].2 ws) := Lib.hid (by rw [hpa, HWS.out]; exact dot_assoc hqa.1 HBO.out.1 (fun q hq => (HBO.out.2.2.2.2.2.2 q hq).1) HVL.out)
        have HPB : Hid (∀ x ∈ ps[i].2, -16 ≤ x ∧ x ≤ 16) := Lib.hid (by rw [hpa]; exact prodR_bd hqa.1 (by omega) (HA2.out _ (List.getElem_mem hia)) (fun q hq => (HBO.out.2.2.2.2.2.2 q hq).1) HB2.out)
        have HAB : Hid (∀ x ∈ ms[i].2, -2 ≤ x ∧ x ≤ 2) := Lib.hid (HA2.out _ (List.getElem_mem hia))
        obtain ⟨bp, cbp, hcp, hcpt⟩ := HP.out.rowc hip (by omega)
        obtain ⟨ba, cba, hca, hcat⟩ := HMO.out.rowc hia (by omega)
        rw [hpl] at hcp
        rw [hqa.1] at hca
        have HCP := Lib.hid hcp; have HCPT := Lib.hid hcpt; have HCA := Lib.hid hca; have HCAT := Lib.hid hcat
        have HPN := Lib.hid hpl; have HAN := Lib.hid hqa.1
        generalize ps[i].2 = prow at *
        generalize ms[i].2 = arow at *
        clear hqa hpa hpl hcp hcpt hca hcat hia hip
        go_wp2_with fail
        go_loopw [90, 15] (fun i' s wr => ∃ k : Nat, i' = .int .i64 k ∧ k ≤ n ∧ s = .int .i64 (dotL (prow.take k) (vs.take k)) ∧ Hid (w13.grownBy wr none)) (fun i _ _ => n - (intOf i).toNat)
        case atStart => exact ⟨0, rfl, Nat.zero_le _, rfl, hG⟩
        case round =>
          clear hG
          obtain ⟨k, rfl, hk, rfl, hG⟩ := hrel
          rename World => wt
          by_cases hkb : k < n
          · have h4 : (k : Int) < (n : Int) := by omega
            have i2 : IntKind.i64.wrap ((k : Int) + 1) = (k : Int) + 1 := IntWalk.i64_in _ (by omega)
            have hkp : k < prow.length := by have := HPN.out; omega
            have hkv : k < vs.length := by have := HVL.out; omega
            have c1 := hG.out.cell HCP.out (by simp); have c2 := hG.out.cell (HCPT.out k hkp) (by simp)
            obtain ⟨_, _, hxv, -, -, hxc⟩ := HVI.out
            simp only [Value.slice.injEq] at hxv
            obtain ⟨rfl, -, rfl⟩ := hxv
            obtain ⟨bv, ov', rfl, hcv⟩ := Ints.at hxc hkv
            have c3 := hG.out.cell hcv (by simp)
            have hds := dot_snoc prow vs k hkp hkv
            have b1 := mem_at (P := fun y => -16 ≤ y ∧ y ≤ 16) HPB.out hkp
            have b2 := mem_at (P := fun y => 0 ≤ y ∧ y ≤ 5) HVB.out hkv
            have hbd := dot_bd (A := 16) (B := 5) (prow.take k) (vs.take k) (fun y hy => HPB.out y (List.mem_of_mem_take hy)) (fun y hy => by have := HVB.out y (List.mem_of_mem_take hy); omega) (by decide)
            have hbl : (prow.take k).length ≤ 4 := by have := List.length_take_le k prow; omega
            have HDS := Lib.hid hds
            generalize (prow.take k).length = tl at *
            generalize dotL (prow.take k) (vs.take k) = s0 at *
            generalize prow[k]?.getD 0 = x at *
            generalize vs[k]?.getD 0 = y at *
            have hmb := mul_bd (x := x) (y := y) (A := 16) (B := 5) b1 (by omega)
            obtain ⟨z, hz⟩ : ∃ z, x * y = z := ⟨_, rfl⟩
            rw [hz] at hmb HDS
            have m1 : IntKind.i64.wrap (x * y) = z := by rw [hz]; exact IntWalk.i64_in _ (by omega)
            have m2 : IntKind.i64.wrap (s0 + z) = s0 + z := IntWalk.i64_in _ (by omega)
            clear hxc hcv hds b1 b2 hbd hbl hmb hz hkp hkv
            go_wp2_with fail
            go_big_quiet (fail)
            have HGN := Lib.hid (grown_trans hG.out (grown_drewN wt nq none))
            generalize wt.drewN nq = wd at *
            go_wp2_with fail
            clear c1 c2 c3 m1 m2
            go_roundw
            case rel => exact ⟨k + 1, by go_num, by omega, by rw [HDS.out], HGN⟩
            case measure => simp [intOf]; omega
          · obtain rfl : k = n := by omega
            have h4 : ¬ (k : Int) < (k : Int) := by omega
            have es : dotL (prow.take k) (vs.take k) = dotL prow vs := by rw [List.take_of_length_le (by rw [HPN.out]; exact Nat.le_refl _), List.take_of_length_le (by rw [HVL.out]; exact Nat.le_refl _)]
            rw [es]
            clear es
            generalize hS : dotL prow vs = S at *
            clear hS
            go_wp2_with fail
            go_loopw [110, 16] (fun i' s wr => ∃ k : Nat, i' = .int .i64 k ∧ k ≤ c ∧ s = .int .i64 (dotL (arow.take k) (ws.take k)) ∧ Hid (w13.grownBy wr none)) (fun i _ _ => c - (intOf i).toNat)
            case atStart => exact ⟨0, rfl, Nat.zero_le _, rfl, hG⟩
            case round =>
              clear hG
              obtain ⟨j, rfl, hj, rfl, hG⟩ := hrel
              rename World => we
              by_cases hjb : j < c
              · have h5 : (j : Int) < (c : Int) := by omega
                have i3 : IntKind.i64.wrap ((j : Int) + 1) = (j : Int) + 1 := IntWalk.i64_in _ (by omega)
                have hja : j < arow.length := by have := HAN.out; omega
                have hjw : j < ws.length := by have := HWL.out; omega
                have c1 := hG.out.cell HCA.out (by simp); have c2 := hG.out.cell (HCAT.out j hja) (by simp)
                have c3 := hG.out.cell (HW.out.cell j hjw).1 (by simp)
                have hds := dot_snoc arow ws j hja hjw
                have b1 := mem_at (P := fun y => -2 ≤ y ∧ y ≤ 2) HAB.out hja
                have b2 := mem_at (P := fun y => -40 ≤ y ∧ y ≤ 40) HWB.out hjw
                have hbd := dot_bd (A := 2) (B := 40) (arow.take j) (ws.take j) (fun y hy => HAB.out y (List.mem_of_mem_take hy)) (fun y hy => HWB.out y (List.mem_of_mem_take hy)) (by decide)
                have hbl : (arow.take j).length ≤ 4 := by have := List.length_take_le j arow; omega
                have HDS := Lib.hid hds
                generalize (arow.take j).length = tl at *
                generalize dotL (arow.take j) (ws.take j) = s0 at *
                generalize arow[j]?.getD 0 = x at *
                generalize ws[j]?.getD 0 = y at *
                have hmb := mul_bd (x := x) (y := y) (A := 2) (B := 40) b1 b2
                obtain ⟨z, hz⟩ : ∃ z, x * y = z := ⟨_, rfl⟩
                rw [hz] at hmb HDS
                have m1 : IntKind.i64.wrap (x * y) = z := by rw [hz]; exact IntWalk.i64_in _ (by omega)
                have m2 : IntKind.i64.wrap (s0 + z) = s0 + z := IntWalk.i64_in _ (by omega)
                clear hds b1 b2 hbd hbl hmb hz hja hjw
                go_wp2_with fail
                go_big_quiet (fail)
                have HGN := Lib.hid (grown_trans hG.out (grown_drewN we nq none))
                generalize we.drewN nq = wd at *
                go_wp2_with fail
                clear c1 c2 c3 m1 m2
                go_roundw
                case rel => exact ⟨j + 1, by go_num, by omega, by rw [HDS.out], HGN⟩
                case measure => simp [intOf]; omega
              · obtain rfl : j = c := by omega
                have h5 : ¬ (j : Int) < (j : Int) := by omega
                have es : dotL (arow.take j) (ws.take j) = S := by rw [List.take_of_length_le (by rw [HAN.out]; exact Nat.le_refl _), List.take_of_length_le (by rw [HWL.out]; exact Nat.le_refl _)]; exact HEQ.out.symm
                rw [es]
                have q1 : (S != S) = false := by simp
                clear es
                go_wp2_with fail
                go_roundw
                case rel => exact ⟨i + 1, by go_num, by omega, hG⟩
                case measure => simp [intOf]; omega
      · obtain rfl : i = r := by omega
        have h3 : ¬ (i : Int) < (i : Int) := by omega
        replace HMA := Lib.hid (HMA.out.step hG.out); replace HMB := Lib.hid (HMB.out.step hG.out); replace HS := Lib.hid (HS.out.step hG.out); replace HP := Lib.hid (HP.out.same hG.out)
        clear hG HMO HW HWS HWL HWB
        go_wp2_with fail
        refine (Transpose_any HMA.out.rows HAO.out).mono ?_
        rintro e w14 ⟨vx, xs, rfl, hX, hxs, hg⟩
        have HXO := Lib.hid (turn_ok HAO.out hxs)
        have HX := Lib.hid hX.rowsP; have HXS := Lib.hid hxs
        replace HMB := Lib.hid (HMB.out.step hg); replace HS := Lib.hid (HS.out.step hg); replace HP := Lib.hid (HP.out.same hg)
        clear hX hxs hg
        go_wp2_with fail
        refine (Transpose_any HMB.out.rows HBO.out).mono ?_
        rintro e w15 ⟨vy, ys, rfl, hY, hys, hg⟩
        have HYO := Lib.hid (turn_ok HBO.out hys)
        have HY := Lib.hid hY.rowsP; have HYS := Lib.hid hys
        replace HX := Lib.hid (HX.out.same hg); replace HS := Lib.hid (HS.out.step hg); replace HP := Lib.hid (HP.out.same hg)
        clear hY hys hg
        go_wp2_with fail
        refine (Multiply_any HY.out HYO.out HX.out HXO.out).mono ?_
        rintro e w16 ⟨vq, qs, rfl, hQ, hqs, hg⟩
        have HQL : Hid (qs.length = n) := Lib.hid (by rw [prodM_len hqs]; exact HYO.out.1)
        obtain ⟨gq, cq, rfl⟩ := hQ.lend HQL.out hn1
        have HQ := Lib.hid hQ; have HQS := Lib.hid hqs
        replace HS := Lib.hid (HS.out.step hg); replace HP := Lib.hid (HP.out.same hg)
        clear hQ hqs hg
        have k2 : ((n : Int) != (n : Int)) = false := by simp
        go_wp2_with fail
        have HG16 := Lib.hid (grown_refl w16 none)
        go_loopw [166] (fun i' wr => ∃ j : Nat, i' = .int .i64 j ∧ j ≤ i ∧ Hid (w16.grownBy wr none)) (fun i' _ => i - (intOf i').toNat)
        case atStart => exact ⟨0, rfl, Nat.zero_le _, HG16⟩
        case round =>
          clear HG16
          obtain ⟨j, rfl, hj, hG⟩ := hrel
          rename World => wk
          by_cases hjb : j < i
          · have h4 : (j : Int) < (i : Int) := by omega
            have i1 : IntKind.i64.wrap ((j : Int) + 1) = (j : Int) + 1 := IntWalk.i64_in _ (by omega)
            have hja : j < ms.length := by have := HAO.out.1; omega
            have hjp : j < ps.length := by have := HPL.out; omega
            have hpa := prodM_at HPS.out hja hjp
            have hpl : ps[j].2.length = n := by rw [hpa, prodR_len]
            obtain ⟨bp, cbp, hcp, hcpt⟩ := HP.out.rowc hjp (by omega)
            rw [hpl] at hcp
            have HCP := Lib.hid hcp; have HCPT := Lib.hid hcpt; have HPA := Lib.hid hpa; have HPN := Lib.hid hpl
            have c1 := hG.out.cell hcp (by simp)
            clear hcp hcpt hpa hpl
            go_wp2_with fail
            clear c1
            go_loopw [174] (fun i' wr => ∃ k : Nat, i' = .int .i64 k ∧ k ≤ n ∧ Hid (w16.grownBy wr none)) (fun i' _ => n - (intOf i').toNat)
            case atStart => exact ⟨0, rfl, Nat.zero_le _, hG⟩
            case round =>
              clear hG
              obtain ⟨k, rfl, hk, hG⟩ := hrel
              rename World => wt
              by_cases hkb : k < n
              · have h5 : (k : Int) < (n : Int) := by omega
                have i2 : IntKind.i64.wrap ((k : Int) + 1) = (k : Int) + 1 := IntWalk.i64_in _ (by omega)
                have hkq : k < qs.length := by have := HQL.out; omega
                have hky : k < ys.length := by have := HYO.out.1; omega
                have hqa := prodM_at HQS.out hky hkq
                have hql : qs[k].2.length = i := by rw [hqa, prodR_len]
                obtain ⟨bq, cbq, hcq, hcqt⟩ := HQ.out.rowc hkq (by omega)
                rw [hql] at hcq
                have c1 := hG.out.cell HCP.out (by simp)
                have c2 := hG.out.cell (HCPT.out k (by rw [HPN.out]; exact hkb)) (by simp)
                have c3 := hG.out.cell hcq (by simp)
                have c4 := hG.out.cell (hcqt j (by omega)) (by simp)
                have hval : qs[k].2[j]?.getD 0 = ps[j].2[k]?.getD 0 := by
                  have h6 := prod_turn HAO.out.1 (fun q hq => (HAO.out.2.2.2.2.2.2 q hq).1) HBO.out.1 HXS.out HYS.out hjb hkb
                  rw [List.getElem?_eq_getElem hky, List.getElem?_eq_getElem hja] at h6
                  rw [hqa, HPA.out, prodR_at _ hkb]
                  exact h6
                rw [hval] at c4
                generalize ps[j].2[k]?.getD 0 = x at *
                have q1 : (x != x) = false := by simp
                clear hqa hql hcq hcqt hval hkq hky
                go_wp2_with fail
                go_big_quiet (fail)
                have HGN := Lib.hid (grown_trans hG.out (grown_drewN wt nq none))
                generalize wt.drewN nq = wd at *
                go_wp2_with fail
                clear c1 c2 c3 c4
                go_roundw
                case rel => exact ⟨k + 1, by go_num, by omega, HGN⟩
                case measure => simp [intOf]; omega
              · obtain rfl : k = n := by omega
                have h5 : ¬ (k : Int) < (k : Int) := by omega
                go_wp2_with fail
                go_roundw
                case rel => exact ⟨j + 1, by go_num, by omega, hG⟩
                case measure => simp [intOf]; omega
          · obtain rfl : j = i := by omega
            have h4 : ¬ (j : Int) < (j : Int) := by omega
            go_wp2_with fail
            go_ret
            exact ⟨rfl, (HS.out.step hG.out).below⟩
  · go_enter Try.func6, Try.ntmps6
    go_wp2_with fail
    refine (awake10_any _).mono ?_
    rintro e w1 ⟨rfl, hg⟩
    have HG := Lib.hid hg
    clear hg
    go_wp2_with fail
    refine (few_any _ _ _ _).mono ?_
    rintro e w2 ⟨rfl, rfl⟩
    rw [decide_eq_false (by omega)]
    go_wp2_with fail
    refine (awake10_any _).mono ?_
    rintro e w3 ⟨rfl, hg⟩
    have HG := Lib.hid (grown_trans HG.out hg)
    clear hg
    go_wp2_with fail
    go_ret
    exact ⟨rfl, below_of HG.out⟩

/-! ### MatrixProducts: the statement, from its walk -/
set_option maxRecDepth 100000 in
theorem liftedMatrixProducts (os : Os) (started : os.Started) (H : Type) (enc : TypeId × Value → H) :
    ReturnsInHanded {} Try.checked os 6 .any (Rows.matrixProductsSpec.pre6 enc Try.prog Try.f6 Rows.matrixProductsRow.domain false) (Rows.matrixProductsSpec.post enc Try.prog Try.f6 false true false false) := by
  refine returnsInHanded_of_change (C := Try.checked) own started (by kernel_rfl) Try.func6
    (ChangeSpec.witness6 (enc := enc) (C := Try.checked) false ⟨#[], #[.slice none 0 0], []⟩ 8 (by kernel_rfl) (by kernel_rfl) (by kernel_rfl) (by kernel_rfl)) ?_
  intro W base args ds gs before hval0 hW hcnd _
  have hval : ∀ (j : Nat) t v, Try.f6.params[j]? = some t → args[j]? = some v → Value.okWide Try.prog W .any base t v := hval0
  have hW' := hW
  obtain ⟨p, q, hA0, hV, rfl, hfz, hnd⟩ := hW
  have hA : DataW.TrodAll enc Try.prog W 0 (fun _ => true) true Try.f6.params.toList args.toList ds p := hA0
  rw [Try.params6] at hA hval
  obtain ⟨v0, vs0, d0, ds0, p0, q0, hargs, rfl, rfl, h0, r0⟩ := trodAll_cons hA
  obtain ⟨rfl, rfl, rfl⟩ := trodAll_nil r0
  obtain rfl : args = #[v0] := by cases args; simp_all
  obtain ⟨rfl, rfl⟩ := trodVars_none hV
  obtain ⟨a0, len0, cap0, rfl⟩ := okWide_slice Try.underlying22 (hval 0 22 v0 rfl rfl)
  have k0 := h0
  have lt0 : ∀ x ∈ p0, x.block < W.heap.size := by obtain ⟨m, hm⟩ := k0; exact DataW.trod_lt m _ _ _ hm
  obtain ⟨z0, w0⟩ : ∃ zs, IsRow .i64 W a0 len0 cap0 zs := by
    obtain ⟨fuel, hf⟩ := h0
    rcases open_ints Try.underlying22 Try.underlying3 (by kernel_rfl) hf with ⟨hcs, _⟩ | ⟨x, l, c, zs, hcs, _, hl, hm, hz, _, hcell, hwz⟩
    · simp [Value.cells] at hcs
      obtain ⟨rfl, rfl, rfl⟩ := hcs
      exact ⟨[], .inl ⟨rfl, rfl, rfl, rfl⟩⟩
    · simp [Value.cells] at hcs
      obtain ⟨rfl, rfl, rfl⟩ := hcs
      exact ⟨zs, .inr ⟨_, rfl, hl, hm, by simpa using hz, hcell, hwz⟩⟩
  clear hA0 hval0
  refine (walkMatrixProducts a0 len0 cap0 z0 W w0).mono fun e W' ⟨he, bel⟩ => ?_
  subst he
  exact ⟨_, rfl, _, _, _, [], _, [], hW', trodAll_mk1 (shut_bool Try.underlying4 _), (trodAll_cons_mk (Below.trod laidOut (by kernel_rfl) (of_decide_eq_true (by kernel_rfl)) k0 bel lt0) trodAll_mk0), rfl, bel.frame _, fun h => by cases h⟩

theorem matrixProducts_holds : Rows.MatrixProductsSaid :=
  OpenClaim.holds_of_wide 6 Try.f6 rfl rfl rfl rfl rfl rfl rfl ⟨rfl, rfl, rfl, rfl, rfl⟩ rfl rfl rfl rfl rfl (by kernel_rfl) Try.func6 (by kernel_rfl)
    (of_decide_eq_true (by kernel_rfl)) (by unfold Func.isWrapper; first | (rw [if_pos (by decide +kernel)]; kernel_rfl) | (rw [if_neg (by decide +kernel)]; exact ⟨rfl, rfl⟩))
    (fun os started H enc _ => liftedMatrixProducts os started H enc)
#print axioms matrixProducts_holds
end Go.Proofs.Ytpnghgihepnepaa
