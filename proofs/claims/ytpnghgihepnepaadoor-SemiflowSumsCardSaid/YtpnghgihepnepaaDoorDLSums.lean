/- SemiflowSums: for every input it answers true. -/
import Derived.Test.YtpnghgihepnepaaDoorDg
import Derived.BigRegion
import Derived.Test.YtpnghgihepnepaaDoorGr
import Derived.Test.YtpnghgihepnepaaDoorDt
import Derived.Test.YtpnghgihepnepaaDoorCards
import Derived.Test.YtpnghgihepnepaaDoorTie
import Derived.StillTailTactics
import Derived.Outline
import Derived.BigRegion
import Derived.Deep.RegionHeld3
namespace Go.Proofs.YtpnghgihepnepaaDoor
open Go.ChangeShapes Go.WideShapes Go.ChangeAt Go.RowKit
set_option linter.unusedVariables false

set_option maxRecDepth 100000 in
set_option maxHeartbeats 2000000 in
theorem walkSemiflowSums (a0 : Option Addr) (len0 cap0 : Nat) (z0 : List Int) (w : World) (w0 : IsRow .i64 w a0 len0 cap0 z0) (hT : TabW w) :
    Calls Tryd.prog 7 #[.slice a0 len0 cap0] w fun e w' => e = .returned (.bool true) ∧ Below w.heap.size w w' := by
  obtain ⟨hI, hlen⟩ := w0.ints
  generalize z0.take len0 = zs at hI hlen
  subst hlen
  have HI := Lib.hid hI; have HT := Lib.hid hT
  clear hI w0 hT
  by_cases hfew : (zs.length : Int) ≤ 400
  · go_enter Tryd.func7, Tryd.ntmps7
    go_wp2_with fail
    refine (awake11_any _ HT.out).mono ?_
    rintro e w1 ⟨rfl, hg⟩
    have HG := Lib.hid hg
    clear hg
    go_wp2_with fail
    refine (few_any _ _ _ _).mono ?_
    rintro e w2 ⟨rfl, rfl⟩
    rw [decide_eq_true hfew]
    go_wp2_with fail
    refine (new_st (HI.out.same HG.out) HG.out).mono ?_
    rintro e w3 ⟨p, d, rfl, hs⟩
    have HS := Lib.hid hs
    clear hs HG HI
    go_wp2_with fail
    refine (next_st HS.out _ (by omega) (by omega)).mono ?_
    rintro e w4 ⟨y, rfl, hy0, hy1, hs, hg⟩
    replace HS := Lib.hid hs
    clear hs hg
    obtain ⟨r, hr⟩ : ∃ r : Nat, 1 + y = (r : Int) := ⟨(1 + y).toNat, by omega⟩
    have hr1 : 1 ≤ r := by omega
    have hr2 : r ≤ 4 := by omega
    have ir : IntKind.i64.wrap (1 + y) = (r : Int) := by rw [hr]; exact IntWalk.i64_in _ (by omega)
    clear hr hy0 hy1
    go_wp2_with fail
    refine (next_st HS.out _ (by omega) (by omega)).mono ?_
    rintro e w5 ⟨y, rfl, hy0, hy1, hs, hg⟩
    replace HS := Lib.hid hs
    clear hs hg
    obtain ⟨c, hc⟩ : ∃ c : Nat, 1 + y = (c : Int) := ⟨(1 + y).toNat, by omega⟩
    have hc1 : 1 ≤ c := by omega
    have hc2 : c ≤ 3 := by omega
    have ic : IntKind.i64.wrap (1 + y) = (c : Int) := by rw [hc]; exact IntWalk.i64_in _ (by omega)
    clear hc hy0 hy1
    go_wp2_with fail
    clear ir ic
    refine (matrix_st HS.out r c (by omega) (by omega)).mono ?_
    rintro e w6 ⟨vm, ps, rfl, hpl, hdm, hM, hs, hg⟩
    have HM := Lib.hid (MatD.mk HS.out hM)
    replace HS := Lib.hid hs; have HOK := Lib.hid (dealt_ok hpl hdm hr1 (by omega) hc1 (by omega) (by omega))
    clear hpl hdm hM hs hg
    have HTW := Lib.hid (HT.out.same HS.out.2.1)
    obtain ⟨C, hC⟩ : ∃ C, C = ps.map Prod.snd := ⟨_, rfl⟩
    have HC := Lib.hid hC
    have HCL : Hid (C.length = r) := Lib.hid (by rw [hC, List.length_map]; exact HOK.out.1)
    have HCW : Hid (∀ row ∈ C, row.length = c) := Lib.hid (by rw [hC]; intro row hr; obtain ⟨q, hq, rfl⟩ := List.mem_map.1 hr; exact (HOK.out.2.2.2.2.2.2 q hq).1)
    obtain ⟨am, cm, rfl, -⟩ : ∃ a cap, vm = .slice a ps.length cap ∧ True := by obtain ⟨a, cap, h, -⟩ := HM.out.rows; exact ⟨a, cap, h, trivial⟩
    go_wp2_with fail
    refine (of_far2 HM.out.rows HOK.out (by omega) HTW.out).mono ?_
    rintro e w7 ⟨vf, fs, rfl, hF, hfar, hfl, hL, hsrt, hg⟩
    rw [← hC] at hL
    have HF := Lib.hid hF; have HL := Lib.hid hL; have HSRT := Lib.hid hsrt
    have HFAR := Lib.hid hfar; have HDB : Hid (d < w6.heap.size) := Lib.hid HS.out.lt
    generalize w6.heap.size = base at *
    replace HM := Lib.hid (HM.out.step hg); replace HS := Lib.hid (HS.out.step hg); replace HTW := Lib.hid (HTW.out.same hg)
    obtain ⟨af, cf, rfl, -⟩ : ∃ a cap, vf = .slice a fs.length cap ∧ True := by obtain ⟨a, cap, h, -⟩ := hF; exact ⟨a, cap, h, trivial⟩
    clear hF hL hg hC hfar hsrt
    go_wp2_with (at_make; refine make_rows rfl _ _ rfl r rfl rfl (by omega) ?_)
    intro w8 ho hg
    have HOU : Hid (∃ ts, OutS w8 w7.heap.size r 0 C ts) := Lib.hid ⟨_, OutS.start ho⟩
    have HG := Lib.hid hg
    have HT0 : Hid (w7.heap.size ≤ w7.heap.size) := Lib.hid (Nat.le_refl _)
    have HMR := Lib.hid HM.out.rows
    clear ho hg
    obtain ⟨T, hTT⟩ : ∃ T, w7.heap.size = T := ⟨_, rfl⟩
    have HTT := Lib.hid hTT
    rw [hTT] at HOU
    have HT0 : Hid (w7.heap.size ≤ T) := Lib.hid (by omega)
    rw [hTT]
    clear hTT
    go_wp2_with fail
    go_loopw [45] (fun i' wr => ∃ i : Nat, i' = .int .i64 i ∧ i ≤ r ∧ Hid (∃ ts, OutS wr T r i C ts) ∧ Hid (w7.grownBy wr none)) (fun i' _ => r - (intOf i').toNat)
    case atStart => exact ⟨0, rfl, Nat.zero_le _, HOU, HG⟩
    case round =>
      clear HOU HG
      obtain ⟨i, rfl, hi, HOU, HG⟩ := hrel
      rename World => wk
      by_cases hib : i < r
      · have h3 : (i : Int) < (r : Int) := by omega
        have h4 : (i : Int) < (ps.length : Int) := by have := HOK.out.1; omega
        have i1 : IntKind.i64.wrap ((i : Int) + 1) = (i : Int) + 1 := IntWalk.i64_in _ (by omega)
        obtain ⟨ts, hO⟩ := HOU.out
        have HCU0 := Lib.hid (hO.begin hib)
        have HTB : Hid (T < wk.heap.size) := Lib.hid (World.ownsRow.lt hO.arr T rfl).2
        have HKW : Hid (w7.heap.size ≤ wk.heap.size) := Lib.hid HG.out.size
        clear HOU
        have HOU := Lib.hid hO
        obtain ⟨b', off', ar, cr, rfl, hcr, hri⟩ := row_ints HMR.out (show i < ps.length by have := HOK.out.1; omega)
        have hql := HOK.out.2.2.2.2.2.2 _ (List.getElem_mem (show i < ps.length by have := HOK.out.1; omega))
        have HCI : Hid (C[i]?.getD [] = ps[i].2) := Lib.hid (by rw [HC.out, List.getElem?_map, List.getElem?_eq_getElem (show i < ps.length by have := HOK.out.1; omega)]; rfl)
        generalize ps[i].2 = row at *
        rw [hql.1] at hcr
        have HRL := Lib.hid hql.1; have HRB := Lib.hid hql.2; have HRI := Lib.hid hri; have HCR := Lib.hid hcr
        have hcr2 := HG.out.cell hcr (by simp)
        have i2 : IntKind.i64.wrap ((c : Int) - 1) = (c : Int) - 1 := IntWalk.i64_in _ (by omega)
        clear hO hri hql hcr
        go_wp2_with fail
        clear hcr2
        have HBW : Hid (wk.heap.size ≤ wk.heap.size) := Lib.hid (Nat.le_refl _)
        go_loopw [10] (fun k' wr => ∃ z : Int, k' = .int .i64 z ∧ -1 ≤ z ∧ z < (c : Int) ∧ Hid (∃ (v : Value) (xs : List Int), CurS wr T r wk.heap.size i v xs ts ∧ xs = (row.drop (z + 1).toNat).reverse) ∧ Hid (w7.grownBy wr none) ∧ Hid (wk.heap.size ≤ wr.heap.size)) (fun k' _ => (intOf k' + 1).toNat)
        case atStart => exact ⟨(c : Int) - 1, rfl, by omega, by omega, Lib.hid ⟨_, _, HCU0.out, by rw [show ((c : Int) - 1 + 1).toNat = row.length by have := HRL.out; omega, List.drop_length]; rfl⟩, HG, HBW⟩
        case round =>
          clear HG HCU0 HBW
          obtain ⟨z, rfl, hz1, hz2, HCV, HG, HBW⟩ := hrel
          rename World => wt
          obtain ⟨v, xs, hcu, hxs⟩ := HCV.out
          obtain ⟨av, cv, rfl⟩ := ownI_sl' hcu.cur
          have HXS := Lib.hid hxs
          have HKL : Hid (xs.length ≤ 1000000000000) := Lib.hid (by rw [hxs, List.length_reverse, List.length_drop]; have := HRL.out; omega)
          have HCU := Lib.hid hcu
          have GD := Lib.hid (grown_trans HG.out (grown_drew wt none))
          have hcz := ((hcu.same (grown_drew wt none)).cell HOU.out.len hib).1
          have hcr2 := GD.out.cell HCR.out (by simp)
          obtain ⟨_, _, hxv, -, -, hxc⟩ := HRI.out
          simp only [Value.slice.injEq] at hxv
          obtain ⟨rfl, -, rfl⟩ := hxv
          by_cases hz0 : 0 ≤ z
          · obtain ⟨k, rfl⟩ : ∃ k : Nat, z = (k : Int) := ⟨z.toNat, by omega⟩
            have hkc : k < c := by omega
            obtain ⟨bx, ox, rfl, hcx⟩ := Ints.at hxc (show k < row.length by rw [HRL.out]; exact hkc)
            have hcx2 := GD.out.cell hcx (by simp)
            have HNX : Hid (xs ++ [row[k]?.getD 0] = (row.drop k).reverse) := Lib.hid (by
              rw [HXS.out, show ((k : Int) + 1).toNat = k + 1 by omega]; exact drop_back (by rw [HRL.out]; exact hkc))
            generalize row[k]?.getD 0 = x at *
            have i3 : IntKind.i64.wrap ((k : Int) - 1) = (k : Int) - 1 := IntWalk.i64_in _ (by omega)
            have z3 : (0 : Int) ≤ (k : Int) := by omega
            have hcz3 : (wt.alloc (.cells #[.int .i64 x] 3)).cell? ⟨T, i, none⟩ = some (.slice av xs.length cv) := ((HCU.out.same (World.grownBy_alloc wt _ none)).cell HOU.out.len hib).1
            have hcz4 : wt.cell? ⟨T, i, none⟩ = some (.slice av xs.length cv) := (HCU.out.cell HOU.out.len hib).1
            clear hcu hxs HCV hxc hcx HXS
            go_wp2_with fail
            go_region_law (refine step_app_int rfl _ _ rfl wk.heap.size _ _ rfl (HCU.out.same (grown_trans (World.grownBy_alloc _ _ none) (grown_drew _ none))).cur wt.heap.size x rfl (cell_new_drew rfl) HKL.out (by have := HBW.out; simp; omega) ?_; intro v' w9 ho2 hg2; obtain ⟨xs', hxs'⟩ : ∃ xs', xs' = xs ++ [x] := ⟨_, rfl⟩; rw [← hxs'] at ho2; have HXS' := Lib.hid hxs'; obtain ⟨a9, c9, rfl⟩ := ownI_sl' ho2; have hf := ((HCU.out.same (grown_trans (World.grownBy_alloc _ _ none) (grown_drew _ none))).free HTB.out HOU.out.len hib hg2); have hc9 := hf.1; have hf9 := hf.2; have HC9 := Lib.hid ((HCU.out.same (grown_trans (World.grownBy_alloc _ _ none) (grown_drew _ none))).app HTB.out ho2 hg2); have HG9 := Lib.hid (grown_then (grown_then (grown_trans HG.out (grown_trans (World.grownBy_alloc _ _ none) (grown_drew _ none))) hg2 (fun j hj => .inl (Nat.le_trans HKW.out (HCU.out.cur.fresh j hj).1))) (grown_set w9 ⟨T, i, none⟩ (.slice a9 xs'.length c9)) (by rintro j ⟨⟩; exact .inl HT0.out)); have HS9 : Hid (wt.heap.size ≤ (w9.setCell ⟨T, i, none⟩ (.slice a9 xs'.length c9)).heap.size) := Lib.hid (by have h1 := hg2.size; have h2 := (grown_set w9 ⟨T, i, none⟩ (.slice a9 xs'.length c9)).size; simp at h1 h2; simp; omega); clear ho2 hg2 hf hxs')
            all_goals
              have HNN : Hid (∃ (v : Value) (xs : List Int), CurS (w9.setCell ⟨T, i, none⟩ (.slice a9 xs'.length c9)) T r wk.heap.size i v xs ts ∧ xs = (row.drop ((k : Int) - 1 + 1).toNat).reverse) := Lib.hid ⟨_, _, HC9.out, by rw [HXS'.out, HNX.out]; congr 2; omega⟩
              have HBN : Hid (wk.heap.size ≤ (w9.setCell ⟨T, i, none⟩ (.slice a9 xs'.length c9)).heap.size) := Lib.hid (Nat.le_trans HBW.out HS9.out)
              go_wp2_with fail
              go_roundw
              case rel => exact ⟨(k : Int) - 1, by go_num, by omega, by omega, HNN, HG9, HBN⟩
              case measure => (simp [intOf]; try omega)
          · obtain rfl : z = -1 := by omega
            obtain ⟨bx, ox, rfl, hcx⟩ := Ints.at hxc (show 0 < row.length by rw [HRL.out]; omega)
            rw [Nat.add_zero] at hcx
            have hcx2 := GD.out.cell hcx (by simp)
            have z4 : (0 : Int) < (c : Int) := by omega
            have z5 : 0 < c := hc1
            have HNX : Hid (xs ++ [row[0]?.getD 0] = backR row) := Lib.hid (by
              rw [HXS.out, show ((-1 : Int) + 1).toNat = 0 by rfl, List.drop_zero]; rfl)
            generalize row[0]?.getD 0 = x at *
            have hcz3 : (wt.alloc (.cells #[.int .i64 x] 3)).cell? ⟨T, i, none⟩ = some (.slice av xs.length cv) := ((HCU.out.same (World.grownBy_alloc wt _ none)).cell HOU.out.len hib).1
            have hcz4 : wt.cell? ⟨T, i, none⟩ = some (.slice av xs.length cv) := (HCU.out.cell HOU.out.len hib).1
            clear hcu hxs HCV hxc hcx HXS
            go_wp2_with fail
            go_region_law (refine step_app_int rfl _ _ rfl wk.heap.size _ _ rfl (HCU.out.same (grown_trans (World.grownBy_alloc _ _ none) (grown_drew _ none))).cur wt.heap.size x rfl (cell_new_drew rfl) HKL.out (by have := HBW.out; simp; omega) ?_; intro v' w9 ho2 hg2; obtain ⟨xs', hxs'⟩ : ∃ xs', xs' = xs ++ [x] := ⟨_, rfl⟩; rw [← hxs'] at ho2; have HXS' := Lib.hid hxs'; obtain ⟨a9, c9, rfl⟩ := ownI_sl' ho2; have hf := ((HCU.out.same (grown_trans (World.grownBy_alloc _ _ none) (grown_drew _ none))).free HTB.out HOU.out.len hib hg2); have hc9 := hf.1; have hf9 := hf.2; have HC9 := Lib.hid ((HCU.out.same (grown_trans (World.grownBy_alloc _ _ none) (grown_drew _ none))).app HTB.out ho2 hg2); have HG9 := Lib.hid (grown_then (grown_then (grown_trans HG.out (grown_trans (World.grownBy_alloc _ _ none) (grown_drew _ none))) hg2 (fun j hj => .inl (Nat.le_trans HKW.out (HCU.out.cur.fresh j hj).1))) (grown_set w9 ⟨T, i, none⟩ (.slice a9 xs'.length c9)) (by rintro j ⟨⟩; exact .inl HT0.out)); have HS9 : Hid (wt.heap.size ≤ (w9.setCell ⟨T, i, none⟩ (.slice a9 xs'.length c9)).heap.size) := Lib.hid (by have h1 := hg2.size; have h2 := (grown_set w9 ⟨T, i, none⟩ (.slice a9 xs'.length c9)).size; simp at h1 h2; simp; omega); clear ho2 hg2 hf hxs')
            all_goals
              have HNN : Hid (∃ ts, OutS (w9.setCell ⟨T, i, none⟩ (.slice a9 xs'.length c9)) T r (i + 1) C ts) := Lib.hid ⟨_, HOU.out.next HC9.out hib HTB.out (Nat.le_trans HBW.out HS9.out) (by rw [HXS'.out, HNX.out, HCI.out]) (fun y hy => by
                rw [HXS'.out, HNX.out] at hy
                unfold backR at hy
                have hb : ∀ y ∈ row, -16 ≤ y ∧ y ≤ 16 := HRB.out
                rcases List.mem_append.1 hy with hy | hy
                · have := hb y (List.mem_reverse.1 hy); omega
                · rw [List.mem_singleton.1 hy, List.getElem?_eq_getElem (show 0 < row.length by rw [HRL.out]; omega)]
                  have := hb _ (List.getElem_mem (show 0 < row.length by rw [HRL.out]; omega))
                  simp only [Option.getD_some]; omega)⟩
              go_wp2_with fail
              go_roundw
              case rel => exact ⟨i + 1, by go_num, by omega, HNN, HG9⟩
              case measure => (simp [intOf]; try omega)
      · obtain rfl : i = r := by omega
        have h3 : ¬ (i : Int) < (i : Int) := by omega
        have h4 : ¬ (i : Int) < (ps.length : Int) := by have := HOK.out.1; omega
        obtain ⟨ts, hO⟩ := HOU.out
        have hts := hO.snd HCL.out
        have HOT := Lib.hid hO.own
        have HOK2 : Hid (MatOkP i (c + 1) ts) := Lib.hid (back_ok HOK.out (by omega) (by rw [hts, HC.out]))
        have HTS := Lib.hid hts
        clear hO hts HOU
        replace HM := Lib.hid (HM.out.step HG.out); replace HS := Lib.hid (HS.out.step HG.out); replace HTW := Lib.hid (HTW.out.same HG.out); replace HF := Lib.hid (HF.out.same HG.out)
        go_wp2_with fail
        refine (of_far HOT.out HOK2.out (by omega) HTW.out).mono ?_
        rintro e w9 ⟨vg, gs, rfl, hF2, -, hL2, hs2, hg⟩
        rw [HTS.out] at hL2
        have heq : (fs.map Prod.snd == gs.map Prod.snd) = true := by
          rw [HL.out.same (hL2.back HCW.out hc1) HSRT.out hs2]; simp
        have HGS := Lib.hid hF2
        obtain ⟨ag, cg, rfl, -⟩ : ∃ a cap, vg = .slice a gs.length cap ∧ True := by obtain ⟨a, cap, h, -⟩ := hF2; exact ⟨a, cap, h, trivial⟩
        replace HM := Lib.hid (HM.out.step hg); replace HS := Lib.hid (HS.out.step hg); replace HF := Lib.hid (HF.out.same hg)
        clear hF2 hL2 hs2 hg
        go_wp2_with fail
        refine (sameall_any _ _ fs gs _ HF.out HGS.out).mono ?_
        rintro e wz ⟨rfl, hd⟩
        rw [heq]
        replace HM := Lib.hid (HM.out.step (hd.grown none)); replace HS := Lib.hid (HS.out.step (hd.grown none)); replace HF := Lib.hid (HF.out.same (hd.grown none))
        clear heq hd HGS
        by_cases h0 : fs.length = 0
        · have q1 : ((fs.length : Int) == 0) = true := by simp [h0]
          clear h0
          go_wp2_with fail
          go_ret
          exact ⟨rfl, HS.out.below⟩
        · have q1 : ((fs.length : Int) == 0) = false := by simp; intro e; exact h0 (by rw [e]; rfl)
          have G : Hid (wz.grownBy wz.drew none) := Lib.hid (grown_drew _ none)
          have hfp : 1 ≤ fs.length := by omega
          clear h0
          obtain ⟨bf, off, _, _, rfl, -, -⟩ := row_ints HF.out (show 0 < fs.length by omega)
          go_wp2_with fail
          go_region_law (first
            | (refine step_call 114 12 _ _ _ _ _ Tryd.f12 _ Tryd.func12 (by kernel_rfl) rfl [p, .int .i64 (fs.length : Int)] (by kernel_rfl) _ (next_st (HS.out.step G.out) (fs.length : Int) (by omega) (by omega)) ?_; rintro e w56 ⟨y3, rfl, h0, h1, hs, hg⟩; obtain ⟨k1, rfl⟩ : ∃ k1 : Nat, y3 = (k1 : Int) := ⟨y3.toNat, by omega⟩; have hk1 : (k1 : Int) < (fs.length : Int) := h1; have HK1 : Hid (k1 < fs.length) := Lib.hid (by omega); have G56 : Hid (wz.grownBy w56 (some d)) := Lib.hid (grown_then (grown_drew _ _) hg (fun g e => .inr e)); have HS6 := Lib.hid hs; obtain ⟨bf1, off1, ax, cx, hbe, hc56, -⟩ := row_ints (HF.out.far HFAR.out HDB.out G56.out) HK1.out; simp only [Option.some.injEq, Addr.mk.injEq, and_true] at hbe; obtain ⟨rfl, rfl⟩ := hbe; rw [(HL.out.row HCL.out (by omega) HK1.out).1] at hc56; clear hs hg h0 h1; refine ⟨_, rfl, ?_⟩)
            | (refine step_call 121 12 _ _ _ _ _ Tryd.f12 _ Tryd.func12 (by kernel_rfl) rfl [p, .int .i64 (fs.length : Int)] (by kernel_rfl) _ (next_st HS6.out (fs.length : Int) (by omega) (by omega)) ?_; rintro e w61 ⟨y4, rfl, h0, h1, hs, hg⟩; obtain ⟨k2, rfl⟩ : ∃ k2 : Nat, y4 = (k2 : Int) := ⟨y4.toNat, by omega⟩; have hk2 : (k2 : Int) < (fs.length : Int) := h1; have HK2 : Hid (k2 < fs.length) := Lib.hid (by omega); have G61 : Hid (wz.grownBy w61 (some d)) := Lib.hid (grown_then G56.out hg (fun g e => .inr e)); have HS7 := Lib.hid hs; have hc57 := hg.cell hc56 (by intro e; simp only [Option.some.injEq] at e; have h8 := HFAR.out.1 bf rfl; have h9 := HDB.out; omega); obtain ⟨bf2, off2, ay, cy, hbe, hc61, hry⟩ := row_ints (HF.out.far HFAR.out HDB.out G61.out) HK2.out; simp only [Option.some.injEq, Addr.mk.injEq, and_true] at hbe; obtain ⟨rfl, rfl⟩ := hbe; have HRY := Lib.hid hry; rw [(HL.out.row HCL.out (by omega) HK2.out).1] at hc61; clear hs hg h0 h1 hry; refine ⟨_, rfl, ?_⟩))
          all_goals
            have HX := Lib.hid (HL.out.row HCL.out (by omega) HK1.out); have HY := Lib.hid (HL.out.row HCL.out (by omega) HK2.out)
            obtain ⟨bf3, off3, ax3, cx3, hbe, hc62, hrx3⟩ := row_ints (HF.out.far HFAR.out HDB.out G61.out) HK1.out
            simp only [Option.some.injEq, Addr.mk.injEq, and_true] at hbe
            obtain ⟨rfl, rfl⟩ := hbe
            rw [HX.out.1] at hc62 hrx3
            have e := hc57.symm.trans hc62
            simp only [Option.some.injEq, Value.slice.injEq, true_and] at e
            obtain ⟨rfl, rfl⟩ := e
            have hry3 := HRY.out
            rw [HY.out.1] at hry3
            have VX := Lib.hid hrx3; have VY := Lib.hid hry3
            replace HM := Lib.hid (HM.out.deal G61.out)
            generalize fs[k1].2 = X at *
            generalize fs[k2].2 = Y at *
            clear hc56 hc57 hc61 hc62 hrx3 hry3 HRY hk1 hk2 HS6 G G56 G61
            go_wp2_with fail
            have HG8 := Lib.hid (grown_refl w61 none)
            go_loopw [126, 15] (fun i' o wr => ∃ (k : Nat), i' = .int .i64 k ∧ k ≤ i ∧ Hid (OwnI wr w61.heap.size o ((sum21 X Y).take k)) ∧ Hid (w61.grownBy wr none)) (fun i' _ _ => i - (intOf i').toNat)
            case atStart => exact ⟨0, rfl, Nat.zero_le _, Lib.hid (by simpa using OwnI.nil _ _), HG8⟩
            case round =>
              obtain ⟨k, rfl, hk, hO, hG⟩ := hrel
              rename World => wk
              by_cases hkb : k < i
              · have h3 : (k : Int) < (i : Int) := by omega
                have i1 : IntKind.i64.wrap ((k : Int) + 1) = (k : Int) + 1 := IntWalk.i64_in _ (by omega)
                obtain ⟨_, _, hxv, -, -, hxc⟩ := VX.out
                simp only [Value.slice.injEq] at hxv
                obtain ⟨rfl, -, rfl⟩ := hxv
                obtain ⟨bu, ou, rfl, hcu⟩ := Ints.at hxc (show k < X.length by rw [HX.out.1]; exact hkb)
                obtain ⟨_, _, hxv, -, -, hxc⟩ := VY.out
                simp only [Value.slice.injEq] at hxv
                obtain ⟨rfl, -, rfl⟩ := hxv
                obtain ⟨bv, ov, rfl, hcv⟩ := Ints.at hxc (show k < Y.length by rw [HY.out.1]; exact hkb)
                have b1 := mem_at (P := fun y => 0 ≤ y ∧ y ≤ 12079595520) HX.out.2.2.1 (show k < X.length by rw [HX.out.1]; exact hkb)
                have b2 := mem_at (P := fun y => 0 ≤ y ∧ y ≤ 12079595520) HY.out.2.2.1 (show k < Y.length by rw [HY.out.1]; exact hkb)
                have GD := Lib.hid (grown_trans hG.out (grown_drew wk none))
                have hcu2 := GD.out.cell hcu (by simp); have hcv2 := GD.out.cell hcv (by simp)
                have HN : Hid ((sum21 X Y).take k ++ [2 * X[k]?.getD 0 + Y[k]?.getD 0] = (sum21 X Y).take (k + 1)) := Lib.hid (sum21_next (by rw [HX.out.1]; exact hkb) (by rw [HY.out.1]; exact hkb))
                generalize X[k]?.getD 0 = x at *
                generalize Y[k]?.getD 0 = y at *
                have m1 : IntKind.i64.wrap (2 * x) = 2 * x := IntWalk.i64_in _ (by omega)
                have m2 : IntKind.i64.wrap (2 * x + y) = 2 * x + y := IntWalk.i64_in _ (by omega)
                have HKL : Hid (((sum21 X Y).take k).length ≤ 1000000000000) := Lib.hid (by have := List.length_take_le k (sum21 X Y); omega)
                clear hxc hcu hcv b1 b2
                go_wp2_with fail
                go_region_law (refine step_app_int rfl _ _ rfl w61.heap.size _ _ rfl (hO.out.kept (grown_trans (World.grownBy_alloc _ _ none) (grown_drew _ none)) (by simp)) wk.heap.size (2 * x + y) rfl (cell_new_drew rfl) HKL.out (by have := hG.out.size; simp; omega) ?_; intro v' w9 ho2 hg2; have HO9 := Lib.hid ho2; have HG9 := Lib.hid (grown_then (grown_trans hG.out (grown_trans (World.grownBy_alloc _ _ none) (grown_drew _ none))) hg2 (fun j hj => .inl (hO.out.fresh j hj).1)); clear ho2 hg2)
                all_goals
                  go_wp2_with fail
                  go_roundw
                  case rel => exact ⟨k + 1, by go_num, by omega, Lib.hid (by rw [← HN.out]; exact HO9.out), HG9⟩
                  case measure => (simp [intOf]; try omega)
              · obtain rfl : k = i := by omega
                have h3 : ¬ (k : Int) < (k : Int) := by omega
                have HSM : Hid ((sum21 X Y).length = k) := Lib.hid (by unfold sum21; rw [List.length_zipWith, HX.out.1, HY.out.1, Nat.min_self])
                have hO2 := hO.out
                rw [List.take_of_length_le (by rw [HSM.out]; exact Nat.le_refl _)] at hO2
                have HSB : Hid (∀ y ∈ sum21 X Y, 0 ≤ y ∧ y ≤ 1099511627776) := Lib.hid (sum21_bd HX.out.2.2.1 HY.out.2.2.1)
                have HSF : Hid (Flow C c (sum21 X Y) ∧ ∃ p : Nat, 0 < (sum21 X Y)[p]?.getD 0) := Lib.hid ⟨sum21_flow HX.out.2.1 HY.out.2.1, by
                  obtain ⟨p, hp⟩ := HX.out.2.2.2
                  refine ⟨p, ?_⟩
                  rw [sum21_at (by rw [HX.out.1, HY.out.1])]
                  have : 0 ≤ Y[p]?.getD 0 := by
                    cases e : Y[p]? with
                    | none => simp
                    | some z => exact (HY.out.2.2.1 z (List.mem_of_getElem? e)).1
                  omega⟩
                have VS := Lib.hid (hO2.ints (fun x hx => by have := HSB.out x hx; omega))
                replace HM := Lib.hid (HM.out.step hG.out); replace HS7 := Lib.hid (HS7.out.step hG.out)
                clear hO hO2 hG HG8
                go_wp2_with fail
                refine (holds_any HM.out.rows HOK.out (by omega) VS.out HSM.out HSB.out).mono ?_
                rintro e w12 ⟨bb, rfl, hbb, hw⟩
                subst hw
                have ebb : bb = true := hbb.2 (by rw [← HC.out]; exact HSF.out)
                subst ebb
                clear hbb
                go_wp2_with fail
                go_ret
                exact ⟨rfl, HS7.out.below⟩
  · go_enter Tryd.func7, Tryd.ntmps7
    go_wp2_with fail
    refine (awake11_any _ HT.out).mono ?_
    rintro e w1 ⟨rfl, hg⟩
    have HG := Lib.hid hg
    clear hg
    go_wp2_with fail
    refine (few_any _ _ _ _).mono ?_
    rintro e w2 ⟨rfl, rfl⟩
    rw [decide_eq_false (by omega)]
    go_wp2_with fail
    refine (awake11_any _ (HT.out.same HG.out)).mono ?_
    rintro e w3 ⟨rfl, hg⟩
    have HG := Lib.hid (grown_trans HG.out hg)
    clear hg
    go_wp2_with fail
    go_ret
    exact ⟨rfl, below_of HG.out⟩


/-! ### SemiflowSums: the statement and its card, from the walk -/
theorem contractSemiflowSums (H : Type) (enc : TypeId × Value → H) (W : World) (base : Nat) (args : Array Value) (ds gs : List (DataW H)) (before : List MemPlace)
    (hval0 : ∀ (j : Nat) t v, Tryd.f7.params[j]? = some t → args[j]? = some v → Value.okWide Tryd.prog W .any base t v)
    (hW : DataW.Whole enc Tryd.prog Tryd.f7.params.toList Rows.semiflowSumsSpec.vars false W args.toList ds gs before) (hL : laidMetH Tryd.prog Rows.semiflowSumsRow.laid W) :
    Calls Tryd.prog 7 args W fun e W' => ∃ v, e = .returned v ∧ Rows.semiflowSumsSpec.post enc Tryd.prog Tryd.f7 false true false false W args v W' := by
  have hval : ∀ (j : Nat) t v, Tryd.f7.params[j]? = some t → args[j]? = some v → Value.okWide Tryd.prog W .any base t v := hval0
  have hW' := hW
  obtain ⟨p, q, hA0, hV, rfl, hfz, hnd⟩ := hW
  have hA : DataW.TrodAll enc Tryd.prog W 0 (fun _ => true) true Tryd.f7.params.toList args.toList ds p := hA0
  rw [Tryd.params7] at hA hval
  obtain ⟨v0, vs0, d0, ds0, p0, q0, hargs, rfl, rfl, h0, r0⟩ := trodAll_cons hA
  obtain ⟨rfl, rfl, rfl⟩ := trodAll_nil r0
  obtain rfl : args = #[v0] := by cases args; simp_all
  obtain ⟨rfl, rfl⟩ := trodVars_none hV
  obtain ⟨a0, len0, cap0, rfl⟩ := okWide_slice Tryd.underlying22 (hval 0 22 v0 rfl rfl)
  have k0 := h0
  have lt0 : ∀ x ∈ p0, x.block < W.heap.size := by obtain ⟨m, hm⟩ := k0; exact DataW.trod_lt m _ _ _ hm
  obtain ⟨z0, w0⟩ : ∃ zs, IsRow .i64 W a0 len0 cap0 zs := by
    obtain ⟨fuel, hf⟩ := h0
    rcases open_ints Tryd.underlying22 Tryd.underlying3 (by kernel_rfl) hf with ⟨hcs, _⟩ | ⟨x, l, c, zs, hcs, _, hl, hm, hz, _, hcell, hwz⟩
    · simp [Value.cells] at hcs
      obtain ⟨rfl, rfl, rfl⟩ := hcs
      exact ⟨[], .inl ⟨rfl, rfl, rfl, rfl⟩⟩
    · simp [Value.cells] at hcs
      obtain ⟨rfl, rfl, rfl⟩ := hcs
      exact ⟨zs, .inr ⟨_, rfl, hl, hm, by simpa using hz, hcell, hwz⟩⟩
  clear hA0 hval0
  refine (walkSemiflowSums a0 len0 cap0 z0 W w0 (tabW_of hL)).mono fun e W' ⟨he, bel⟩ => ?_
  subst he
  exact ⟨_, rfl, _, _, _, [], _, [], hW', trodAll_mk1 (shut_bool Tryd.underlying4 _), (trodAll_cons_mk (Below.trod laidOut (by kernel_rfl) (of_decide_eq_true (by kernel_rfl)) k0 bel lt0) trodAll_mk0), rfl, bel.frame _, fun h => by cases h⟩
theorem readsSemiflowSums (os : Os) {H : Type} (enc : TypeId × Value → H) : ∃ places, DataW.whole enc Tryd.prog ((laidWorld os).forCall (fun _ _ => 0) ⟨#[], #[.slice none 0 0], []⟩).memory Tryd.f7.params.toList Rows.semiflowSumsSpec.vars false #[Value.slice none 0 0].toList 8 = some ([.nil], [], places) :=
  ⟨[], by kernel_rfl⟩
set_option maxRecDepth 100000 in
theorem liftedSemiflowSums (os : Os) (started : os.Started) (H : Type) (enc : TypeId × Value → H) (F : Stop.Interp) :
    ReturnsInHanded {} Tryd.checked os 7 .any ((OpenSpec.ofChange Rows.semiflowSumsSpec).preRow enc Tryd.prog Tryd.f7 Rows.semiflowSumsRow.domain false Rows.semiflowSumsRow.laid) (((OpenSpec.ofChange Rows.semiflowSumsSpec).at F).post enc Tryd.prog Tryd.f7 false true false false) := by
  obtain ⟨places, hx⟩ := readsSemiflowSums os enc
  refine returnsInHanded_of_row (C := Tryd.checked) (s := OpenSpec.ofChange Rows.semiflowSumsSpec) ownK started (by kernel_rfl) Tryd.func7
    (witness_row_at (enc := enc) (C := Tryd.checked) false (laidWorld os) #[.slice none 0 0] rfl (by kernel_rfl) (by kernel_rfl) (by kernel_rfl)
      (OpenSpec.preRow_of_cond 8 hx (by kernel_rfl) (fun k hk => by cases hk) (by kernel_rfl) (laid_met os))) ?_
  intro W base args ds gs before hval hW _ _ _ hL _ _
  exact contractSemiflowSums H enc W base args ds gs before hval hW hL
theorem semiflowSums_said : Rows.SemiflowSumsSaid :=
  OpenClaim.holds_of_cond 7 Tryd.f7 rfl rfl rfl rfl rfl rfl rfl ⟨rfl, rfl, rfl, rfl, rfl⟩ rfl rfl rfl rfl rfl (by kernel_rfl) Tryd.func7 (by kernel_rfl)
    (of_decide_eq_true (by kernel_rfl)) (by unfold Func.isWrapper; first | (rw [if_pos (by decide +kernel)]; kernel_rfl) | (rw [if_neg (by decide +kernel)]; exact ⟨rfl, rfl⟩))
    (fun os started H enc _ F => by rw [OpenClaim.pre_eq_preRow]; exact liftedSemiflowSums os started H enc F)
theorem plainSemiflowSums (f : FuncId) (fn : Func) (hf : Tryd.pinned.checked.prog.funcNamed "coverability/coverabilitylaw11.SemiflowSums" = some f) (hfn : Tryd.pinned.checked.prog.funcs[f]? = some fn) :
    false = Tryd.pinned.checked.prog.looks [] ∧ ∀ (j : Nat) t, fn.params[j]? = some t → Tryd.pinned.checked.prog.wantsStandIn t = false := by
  obtain rfl : f = 7 := Option.some.inj ((show Tryd.prog.funcNamed "coverability/coverabilitylaw11.SemiflowSums" = some 7 by kernel_rfl).symm.trans hf) |>.symm
  obtain rfl : fn = Tryd.f7 := (Option.some.inj (Tryd.func7.symm.trans hfn)).symm
  refine ⟨by kernel_rfl, fun j t ht => ?_⟩
  rw [Tryd.params7] at ht
  obtain rfl : t = 22 := by simpa using Array.mem_of_getElem? ht
  exact (show Tryd.prog.wantsStandIn 22 = false by kernel_rfl)
theorem semiflowSums_card : Rows.SemiflowSumsCardSaid :=
  Claim7.holds_tied_plain_at .later [] _ _ _ _ semiflowSums_said (fun _ h => by cases h) (by kernel_rfl) (fun _ h => by cases h) semiflowSums_row_tie rfl ⟨rfl, rfl⟩ (by kernel_rfl) rfl plainSemiflowSums (by kernel_rfl)
#print axioms semiflowSums_card
end Go.Proofs.YtpnghgihepnepaaDoor
