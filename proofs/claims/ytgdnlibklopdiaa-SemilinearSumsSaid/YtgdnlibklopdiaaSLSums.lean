/- SemilinearSums: for every input it answers true. -/
import Derived.Test.YtgdnlibklopdiaaTu
import Derived.Test.YtgdnlibklopdiaaTv
namespace Go.Proofs.Ytgdnlibklopdiaa
open Go.ChangeShapes Go.WideShapes Go.ChangeAt Go.RowKit
set_option linter.unusedVariables false

def Apart (a c : Value) : Prop := ∀ g, a.ownBlock = some g → c.ownBlock = some g → False
theorem Apart.symm {a c : Value} (h : Apart a c) : Apart c a := fun g h1 h2 => h g h2 h1
theorem two_own {W W' : World} {base : Nat} {va va' vc : Value} {zs ys : List Int} (ho : OwnI W' base va' zs) (oc : OwnI W base vc ys) (hd : Apart va vc) (hg : W.grownBy W' va.ownBlock) (hb : ∀ g, va'.ownBlock = some g → va.ownBlock = some g ∨ W.heap.size ≤ g) : OwnI W' base vc ys ∧ Apart va' vc :=
  ⟨World.ownsRow.kept oc hg (by
    cases hv : vc.ownBlock with
    | none => exact .inl rfl
    | some k => exact .inr (fun e => hd k e.symm hv)), fun g h1 h2 => by
    rcases hb g h1 with h | h
    · exact hd g h h2
    · have := (oc.fresh g h2).2; omega⟩
theorem own_grown {w0 w W W' : World} {va : Value} {xs : List Int} (g0 : w0.grownBy w none) (g1 : w.grownBy W none) (o : OwnI W w0.heap.size va xs) (g : W.grownBy W' va.ownBlock) : w0.grownBy W' none :=
  grown_then (grown_trans g0 g1) g (fun k hk => .inl (o.fresh k hk).1)
theorem two_own3 {w0 w W W' : World} {va va' vc : Value} {xs zs ys : List Int} (ho : OwnI W' w0.heap.size va' zs) (oc : OwnI w w0.heap.size vc ys) (hd : Apart va vc) (oa : OwnI w w0.heap.size va xs) (gl : w0.grownBy w none) (hg : W.grownBy W' va.ownBlock)
    (hb : ∀ g, va'.ownBlock = some g → va.ownBlock = some g ∨ W.heap.size ≤ g) (g : w.grownBy W none) : OwnI W' w0.heap.size vc ys ∧ Apart va' vc ∧ w0.grownBy W' none :=
  ⟨(two_own ho (oc.same1 g) hd hg hb).1, (two_own ho (oc.same1 g) hd hg hb).2, own_grown gl g (oa.same1 g) hg⟩
theorem OwnI.ne_new {w : World} {base b : Nat} {v : Value} {xs : List Int} (o : OwnI w base v xs) (h : w.heap.size ≤ b) : some b ≠ v.ownBlock := fun e => by
  have := (o.fresh b e.symm).2
  omega
theorem ValidS.moved {n : Nat} {B C : List Int} {P Q : List (List Int)} (h : ValidS n B P) (k : ValidS n C Q) (h16 : ∀ x ∈ sumL B C, x ≤ 16) : ValidS n (sumL B C) P :=
  ⟨h.1, h.2.1, sumL_len h.2.2.1 k.2.2.1, fun x hx => ⟨sumL_lo (fun x hx => (h.2.2.2.1 x hx).1) (fun x hx => (k.2.2.2.1 x hx).1) x hx, h16 x hx⟩, h.2.2.2.2.1, h.2.2.2.2.2.1, h.2.2.2.2.2.2⟩
set_option maxRecDepth 100000 in
set_option maxHeartbeats 3000000 in
theorem walkSemilinearSums (a0 : Option Addr) (len0 cap0 : Nat) (z0 : List Int) (w : World) (w0 : IsRow .i64 w a0 len0 cap0 z0) :
    Calls Try.prog 10 #[.slice a0 len0 cap0] w fun e w' => e = .returned (.bool true) ∧ Below w.heap.size w w' := by
  obtain ⟨hI, hlen⟩ := w0.ints
  generalize z0.take len0 = zs at hI hlen
  subst hlen
  have HI := Lib.hid hI
  clear hI w0
  by_cases hfew : (zs.length : Int) ≤ 400
  · go_enter Try.func10, Try.ntmps10
    go_wp2_with fail
    refine (awake13_any _).mono ?_
    rintro e w1 ⟨rfl, hg⟩
    have HG := Lib.hid hg
    clear hg
    go_wp2_with fail
    refine (few_any _ _ _ _).mono ?_
    rintro e w2 ⟨rfl, rfl⟩
    rw [decide_eq_true hfew]
    go_wp2_with fail
    refine (new_st (HI.out.same HG.out) HG.out).mono ?_
    rintro e w3 ⟨p, d, rfl, hs⟩
    have HS := Lib.hid hs
    clear hs HG HI
    go_wp2_with fail
    refine (next_st HS.out _ (by omega) (by omega)).mono ?_
    rintro e w4 ⟨y, rfl, hy0, hy1, hs, hg⟩
    replace HS := Lib.hid hs
    clear hs hg
    obtain ⟨n, hn⟩ : ∃ n : Nat, 1 + y = (n : Int) := ⟨(1 + y).toNat, by omega⟩
    have hn1 : 1 ≤ n := by omega
    have hn4 : n ≤ 4 := by omega
    go_wp2_with fail
    refine (linear_st HS.out n hn1 (by omega)).mono ?_
    rintro e w5 ⟨u, B, P, rfl, hlin, hs, hg⟩
    obtain ⟨au, cu, pu, qu, rfl⟩ := hlin.open
    replace HS := Lib.hid hs; have Vu := Lib.hid hlin
    clear hs hg hlin
    go_wp2_with fail
    refine (linear_st HS.out n hn1 (by omega)).mono ?_
    rintro e w6 ⟨v, C, Q, rfl, hlin, hs, hg⟩
    obtain ⟨av, cv, pv, qv, rfl⟩ := hlin.open
    replace Vu := Lib.hid (Vu.out.deal hg)
    replace HS := Lib.hid hs; have Vv := Lib.hid hlin
    clear hs hg hlin
    clear hn hy0 hy1
    go_wp2_with fail
    obtain ⟨hx, hz⟩ := BoxD.two (x := .slice au B.length cu) (y := .slice pu P.length qu) (x' := .slice av C.length cv) (y' := .slice pv Q.length qv) (e := 49) HS.out.lt
    have hg : w6.grownBy ((w6.alloc (.cells #[.slice au B.length cu, .slice pu P.length qu] 49)).alloc (.cells #[.slice av C.length cv, .slice pv Q.length qv] 49)) none := grown_after (grown_after (grown_refl _ _))
    generalize ((w6.alloc (.cells #[.slice au B.length cu, .slice pu P.length qu] 49)).alloc (.cells #[.slice av C.length cv, .slice pv Q.length qv] 49)) = wb at *
    replace Vu := Lib.hid (Vu.out.step hg)
    replace Vv := Lib.hid (Vv.out.step hg)
    replace HS := Lib.hid (HS.out.step hg); have Vx := Lib.hid hx; have Vz := Lib.hid hz
    clear hg hx hz
    generalize w6.heap.size = gx at *
    have hP3 : P.length ≤ 3 := Vu.out.valid.2.2.2.2.2.1
    have hQ3 : Q.length ≤ 3 := Vv.out.valid.2.2.2.2.2.1
    go_wp2_with fail
    rename World => wb
    have HVU : Hid (∀ W', wb.grownBy W' (some d) → LinD W' d n (.agg #[.slice au B.length cu, .slice pu P.length qu]) B P) := Lib.hid (fun W' g => Vu.out.deal g)
    have HVV : Hid (∀ W', wb.grownBy W' (some d) → LinD W' d n (.agg #[.slice av C.length cv, .slice pv Q.length qv]) C Q) := Lib.hid (fun W' g => Vv.out.deal g)
    have HVX : Hid (∀ W', wb.grownBy W' (some d) → BoxD W' d gx (.slice au B.length cu) (.slice pu P.length qu)) := Lib.hid (fun W' g => Vx.out.deal g)
    have HVZ : Hid (∀ W', wb.grownBy W' (some d) → BoxD W' d (gx + 1) (.slice av C.length cv) (.slice pv Q.length qv)) := Lib.hid (fun W' g => Vz.out.deal g)
    have HVB := Lib.hid Vu.out.valid; have HVC := Lib.hid Vv.out.valid
    have H16 : Hid (∀ x ∈ sumL B C, x ≤ 16) := Lib.hid (Vu.out.sum8 Vv.out)
    have G : Hid (wb.grownBy wb.drew (some d)) := Lib.hid (grown_drew _ _)
    replace HS := Lib.hid (HS.out.step (grown_drew wb none))
    clear Vu Vv Vx Vz
    go_region_held3 (fun w' => w'.cell? ⟨gx, 0, none⟩ = some (.slice au B.length cu) ∧ w'.cell? ⟨gx, 1, none⟩ = some (.slice pu P.length qu) ∧ w'.cell? ⟨gx + 1, 0, none⟩ = some (.slice av C.length cv) ∧ w'.cell? ⟨gx + 1, 1, none⟩ = some (.slice pv Q.length qv)) (first | exact ⟨(HVX.out _ G.out).1, (HVX.out _ G.out).2.1, (HVZ.out _ G.out).1, (HVZ.out _ G.out).2.1⟩) (first
      | (go_at_call 30; (with_reducible change Calls _ _ #[_, .int .i64 (P.length : Int), _] _ _); refine (small_rv HS.out P.length 1 (by omega) (by omega) (by omega)).mono ?_; rintro e w40 ⟨vt, T, rfl, hlT, hpT, hvT, hsT, hgT⟩; have Vvt := Lib.hid hvT; have LT : Hid (T.length = P.length) := Lib.hid hlT; have PT : Hid (∀ t ∈ T, 0 ≤ t ∧ t ≤ 1) := Lib.hid hpT; replace G : Hid (wb.grownBy w40 (some d)) := Lib.hid (grown_deal G.out hgT); replace HS := Lib.hid hsT; clear hlT hpT hvT hsT hgT)
      | (go_at_call 53; (with_reducible change Calls _ _ #[.agg #[.slice au B.length cu, .slice pu P.length qu], _] _ _); refine (made_any n _ _ B T P _ (HVU.out _ G.out).lin HVB.out Vvt.out.1 LT.out (fun t ht => by have := PT.out t ht; omega)).mono ?_; rintro e w41 ⟨m, rfl, ho, hg⟩; have HMM := Lib.hid ((HVU.out _ G.out).made1 PT.out); obtain ⟨am, cm, rfl⟩ := ownI_open ho; have Vm := Lib.hid (ho.rvec (fun x hx => by have := HMM.out.2 x hx; omega) HS.out.lt); replace G : Hid (wb.grownBy w41 (some d)) := Lib.hid (grown_deal G.out (grown_wide hg)); replace HS := Lib.hid (HS.out.step hg); clear ho hg)
      | (go_at_call 30; (with_reducible change Calls _ _ #[_, .int .i64 (Q.length : Int), _] _ _); refine (small_rv HS.out Q.length 1 (by omega) (by omega) (by omega)).mono ?_; rintro e w47 ⟨vs, S, rfl, hlT, hpT, hvT, hsT, hgT⟩; have Vvs := Lib.hid hvT; have LS : Hid (S.length = Q.length) := Lib.hid hlT; have PS : Hid (∀ t ∈ S, 0 ≤ t ∧ t ≤ 1) := Lib.hid hpT; replace G : Hid (wb.grownBy w47 (some d)) := Lib.hid (grown_deal G.out hgT); replace HS := Lib.hid hsT; replace Vm := Lib.hid (Vm.out.deal hgT); clear hlT hpT hvT hsT hgT)
      | (go_at_call 53; (with_reducible change Calls _ _ #[.agg #[.slice av C.length cv, .slice pv Q.length qv], _] _ _); refine (made_any n _ _ C S Q _ (HVV.out _ G.out).lin HVC.out Vvs.out.1 LS.out (fun t ht => by have := PS.out t ht; omega)).mono ?_; rintro e w48 ⟨o, rfl, ho, hg⟩; have HNN := Lib.hid ((HVV.out _ G.out).made1 PS.out); obtain ⟨ao, co, rfl⟩ := ownI_open ho; have Vo := Lib.hid (ho.rvec (fun x hx => by have := HNN.out.2 x hx; omega) HS.out.lt); replace G : Hid (wb.grownBy w48 (some d)) := Lib.hid (grown_deal G.out (grown_wide hg)); replace HS := Lib.hid (HS.out.step hg); replace Vm := Lib.hid (Vm.out.step hg); clear ho hg))
    all_goals
      generalize hMM : madeL B P T = M at *
      generalize hNN : madeL C Q S = N at *
      have HM := Lib.hid hMM; have HN := Lib.hid hNN
      have HNL : Hid (N.length = n) := Lib.hid HNN.out.1
      have HML : Hid (M.length = n) := Lib.hid HMM.out.1
      have HSM : Hid ((sumL M N).length = n) := Lib.hid (sumL_len HML.out HNL.out)
      clear hMM hNN Vvt Vvs
      have x0 := (HVX.out _ G.out).1; have x1 := (HVX.out _ G.out).2.1; have z0 := (HVZ.out _ G.out).1; have z1 := (HVZ.out _ G.out).2.1
      go_wp2_with fail
      refine (Sum_any n ((.slice au B.length cu, .slice pu P.length qu), (B, P)) ((.slice av C.length cv, .slice pv Q.length qv), (C, Q)) _ (HVU.out _ G.out).ok (HVV.out _ G.out).ok H16.out).mono ?_
      rintro e w53 (⟨hl3, vb, vp, rs, rfl, hrb, hrp, hgp, hrm, hg, -, -⟩ | ⟨hl3, rfl, hg⟩)
      · have HLS : Hid (ValidS n (sumL B C) (ascL (P ++ Q))) := Lib.hid (HVB.out.sum HVC.out H16.out hl3)
        have HL9 : Hid (LinV w53 (.agg #[vb, vp]) (sumL B C) (ascL (P ++ Q))) := Lib.hid ⟨_, _, rs, rfl, hrb, hrp, hgp, hrm⟩
        obtain ⟨⟨ab, cb, hvb, -, -, -⟩, -, -⟩ := hrb
        dsimp only at hvb
        obtain ⟨ap, cp, hvp, -, -, -⟩ := hrp
        subst hvb hvp
        clear hgp hrm hl3
        clear x0 x1 z0 z1
        replace G : Hid (wb.grownBy w53 (some d)) := Lib.hid (grown_deal G.out (grown_wide hg))
        replace HS := Lib.hid (HS.out.step hg); replace Vm := Lib.hid (Vm.out.step hg); replace Vo := Lib.hid (Vo.out.step hg)
        clear hg
        
        have hga : w53.grownBy (w53.alloc (.cells #[.slice ab (sumL B C).length cb, .slice ap rs.length cp] 49)) none := World.grownBy_alloc _ _ none
        have hG2 := grown_deal G.out (grown_wide (d := d) hga)
        have x0 := (HVX.out _ hG2).1; have x1 := (HVX.out _ hG2).2.1; have z0 := (HVZ.out _ hG2).1; have z1 := (HVZ.out _ hG2).2.1
        go_wp2_with fail
        obtain ⟨y0, y1⟩ := cells_of (show (w53.alloc (.cells #[.slice ab (sumL B C).length cb, .slice ap rs.length cp] 49)).heap[w53.heap.size]? = some (.cells #[.slice ab (sumL B C).length cb, .slice ap rs.length cp] 49 (0, 0)) from heap_new _ rfl)
        clear x0 x1 z0 z1 hG2
        generalize w53.alloc (.cells #[.slice ab (sumL B C).length cb, .slice ap rs.length cp] 49) = wa at *
        replace G : Hid (wb.grownBy wa (some d)) := Lib.hid (grown_deal G.out (grown_wide hga))
        replace HS := Lib.hid (HS.out.step hga); replace Vm := Lib.hid (Vm.out.step hga); replace Vo := Lib.hid (Vo.out.step hga)
        generalize w53.heap.size = gy at *
        replace HL9 := Lib.hid (HL9.out.same hga)
        have HY := Lib.hid (And.intro y0 y1)
        clear hga y0 y1
        have HCW : Hid (withB 16 C = true) := Lib.hid (withB_iff.2 fun x hx => by have := HVC.out.2.2.2.1 x hx; omega)
        refine (Shift_any n ((.slice au B.length cu, .slice pu P.length qu), (B, P)) (.slice av C.length cv) C _ (HVU.out _ G.out).ok (HVV.out _ G.out).base.1 HVC.out.2.2.1 HCW.out H16.out).mono ?_
        rintro e w61 ⟨vd, vq, ds, rfl, hrb, hrp, hgp, hrm, hg, -, -⟩
        have HLD : Hid (LinV w61 (.agg #[vd, vq]) (sumL B C) P) := Lib.hid ⟨_, _, ds, rfl, hrb, hrp, hgp, hrm⟩
        obtain ⟨⟨ad, cd, hvd, -, -, -⟩, -, -⟩ := hrb
        dsimp only at hvd
        obtain ⟨aq, cq, hvq, -, -, -⟩ := hrp
        subst hvd hvq
        clear hgp hrm HCW
        replace G : Hid (wb.grownBy w61 (some d)) := Lib.hid (grown_deal G.out (grown_wide hg))
        replace HS := Lib.hid (HS.out.step hg); replace Vm := Lib.hid (Vm.out.step hg); replace Vo := Lib.hid (Vo.out.step hg)
        replace HL9 := Lib.hid (HL9.out.same hg)
        replace HY := Lib.hid (And.intro (hg.cell HY.out.1 (by simp)) (hg.cell HY.out.2 (by simp)))
        clear hg
        go_wp2_with fail
        have hga : w61.grownBy (w61.alloc (.cells #[.slice ad (sumL B C).length cd, .slice aq ds.length cq] 49)) none := World.grownBy_alloc _ _ none
        have HK := Lib.hid (cells_of (show (w61.alloc (.cells #[.slice ad (sumL B C).length cd, .slice aq ds.length cq] 49)).heap[w61.heap.size]? = some (.cells #[.slice ad (sumL B C).length cd, .slice aq ds.length cq] 49 (0, 0)) from heap_new _ rfl))
        generalize w61.alloc (.cells #[.slice ad (sumL B C).length cd, .slice aq ds.length cq] 49) = wl at *
        replace G : Hid (wb.grownBy wl (some d)) := Lib.hid (grown_deal G.out (grown_wide hga))
        replace HS := Lib.hid (HS.out.step hga); replace Vm := Lib.hid (Vm.out.step hga); replace Vo := Lib.hid (Vo.out.step hga)
        generalize w61.heap.size = gk at *
        replace HL9 := Lib.hid (HL9.out.same hga)
        replace HLD := Lib.hid (HLD.out.same hga)
        replace HY := Lib.hid (And.intro (hga.cell HY.out.1 (by simp)) (hga.cell HY.out.2 (by simp)))
        clear hga
        have hmb : M.length ≤ 4 := by have := HML.out; omega
        have HZ0 := Lib.hid (HVZ.out _ G.out).1
        have HRC := Lib.hid (HVV.out _ G.out).base.1
        have HCL : Hid (C.length = n) := Lib.hid HVC.out.2.2.1
        have HSC : Hid ((sumL M C).length = n) := Lib.hid (sumL_len HML.out HCL.out)
        go_loopw [13, 14, 76] (fun va vc i wr => ∃ j : Nat, i = .int .i64 j ∧ j ≤ M.length ∧ Hid (OwnI wr wl.heap.size va ((sumL M N).take j)) ∧ Hid (OwnI wr wl.heap.size vc ((sumL M C).take j)) ∧ Hid (Apart va vc) ∧ Hid (wl.grownBy wr none)) (fun _ _ i _ => M.length - (intOf i).toNat)
        case atStart => exact ⟨0, rfl, Nat.zero_le _, Lib.hid (OwnI.nil _ _), Lib.hid (OwnI.nil _ _), Lib.hid (by intro g h; cases h), Lib.hid (grown_refl _ _)⟩
        case round =>
          obtain ⟨j, rfl, hj, OA, OC, HAP, GL⟩ := hrel
          rename World => wr
          by_cases hjb : j < M.length
          · have hjn : j < n := by rw [← HML.out]; exact hjb
            have hjN : j < N.length := by rw [HNL.out]; exact hjn
            have hjC : j < C.length := by rw [HCL.out]; exact hjn
            obtain ⟨bm, om, rfl, hmc⟩ := at_cell Vm.out.1 hjb
            obtain ⟨bn, on, rfl, hnc⟩ := at_cell Vo.out.1 hjN
            obtain ⟨bc, oc, rfl, hcc⟩ := at_cell HRC.out hjC
            have MC := Lib.hid (hmc _ (grown_refl _ _)); have NC := Lib.hid (hnc _ (grown_refl _ _)); have CC := Lib.hid (hcc _ (grown_refl _ _))
            have hx := mem_at HMM.out.2 hjb
            have hy := mem_at HNN.out.2 hjN
            have hz := mem_at HVC.out.2.2.2.1 hjC
            have EA : Hid ((sumL M N).take j ++ [M[j]?.getD 0 + N[j]?.getD 0] = (sumL M N).take (j + 1)) := Lib.hid (zs_snoc rfl (by rw [HSM.out]; exact hjn) (zip_at _ M N j hjb hjN).symm.symm)
            have EC : Hid ((sumL M C).take j ++ [M[j]?.getD 0 + C[j]?.getD 0] = (sumL M C).take (j + 1)) := Lib.hid (zs_snoc rfl (by rw [HSC.out]; exact hjn) (zip_at _ M C j hjb hjC).symm.symm)
            have h1 : (j : Int) < (M.length : Int) := by omega
            have h2 : (j : Int) < (N.length : Int) := by omega
            have h3 : (j : Int) < (C.length : Int) := by omega
            have HLA : Hid (((sumL M N).take j).length ≤ 1000000000000) := Lib.hid (by rw [List.length_take]; omega)
            have HLC : Hid (((sumL M C).take j).length ≤ 1000000000000) := Lib.hid (by rw [List.length_take]; omega)
            clear hmc hnc hcc
            generalize M[j]?.getD 0 = x at *
            generalize N[j]?.getD 0 = y at *
            generalize C[j]?.getD 0 = z at *
            generalize (sumL M N).take j = TA at *
            generalize (sumL M C).take j = TC at *
            have g1 : IntKind.i64.wrap (x + y) = x + y := IntWalk.i64_in _ (by omega)
            have g2 : IntKind.i64.wrap (x + z) = x + z := IntWalk.i64_in _ (by omega)
            clear hx hy hz
            have hnn : ∀ g : Nat, some g ≠ (none : Option Nat) := by intro g; simp
            go_wp2_with fail
            go_region_held3 (fun w' => w'.cell? ⟨bm, om + j, none⟩ = some (.int .i64 x) ∧ w'.cell? ⟨bn, on + j, none⟩ = some (.int .i64 y) ∧ w'.cell? ⟨gx + 1, 0, none⟩ = some (.slice (some ⟨bc, oc, none⟩) C.length cv) ∧ w'.cell? ⟨bc, oc + j, none⟩ = some (.int .i64 z)) (first
      | exact ⟨GL.out.cell MC.out (hnn _), GL.out.cell NC.out (hnn _), GL.out.cell HZ0.out (hnn _), GL.out.cell CC.out (hnn _)⟩ | exact ⟨(grown_after GL.out).cell MC.out (hnn _), (grown_after GL.out).cell NC.out (hnn _), (grown_after GL.out).cell HZ0.out (hnn _), (grown_after GL.out).cell CC.out (hnn _)⟩ | exact ⟨(grown_trans GL.out (grown_drew _ none)).cell MC.out (hnn _), (grown_trans GL.out (grown_drew _ none)).cell NC.out (hnn _), (grown_trans GL.out (grown_drew _ none)).cell HZ0.out (hnn _), (grown_trans GL.out (grown_drew _ none)).cell CC.out (hnn _)⟩ | exact ⟨(grown_trans (grown_after GL.out) (grown_drew _ none)).cell MC.out (hnn _), (grown_trans (grown_after GL.out) (grown_drew _ none)).cell NC.out (hnn _), (grown_trans (grown_after GL.out) (grown_drew _ none)).cell HZ0.out (hnn _), (grown_trans (grown_after GL.out) (grown_drew _ none)).cell CC.out (hnn _)⟩ | exact ⟨(grown_after (grown_trans GL.out (grown_drew _ none))).cell MC.out (hnn _), (grown_after (grown_trans GL.out (grown_drew _ none))).cell NC.out (hnn _), (grown_after (grown_trans GL.out (grown_drew _ none))).cell HZ0.out (hnn _), (grown_after (grown_trans GL.out (grown_drew _ none))).cell CC.out (hnn _)⟩ | exact ⟨(grown_trans (grown_after (grown_after GL.out)) (grown_drew _ none)).cell MC.out (hnn _), (grown_trans (grown_after (grown_after GL.out)) (grown_drew _ none)).cell NC.out (hnn _), (grown_trans (grown_after (grown_after GL.out)) (grown_drew _ none)).cell HZ0.out (hnn _), (grown_trans (grown_after (grown_after GL.out)) (grown_drew _ none)).cell CC.out (hnn _)⟩ | exact ⟨(grown_after (grown_trans (grown_after GL.out) (grown_drew _ none))).cell MC.out (hnn _), (grown_after (grown_trans (grown_after GL.out) (grown_drew _ none))).cell NC.out (hnn _), (grown_after (grown_trans (grown_after GL.out) (grown_drew _ none))).cell HZ0.out (hnn _), (grown_after (grown_trans (grown_after GL.out) (grown_drew _ none))).cell CC.out (hnn _)⟩ | exact ⟨(grown_after (grown_after GL.out)).cell MC.out (hnn _), (grown_after (grown_after GL.out)).cell NC.out (hnn _), (grown_after (grown_after GL.out)).cell HZ0.out (hnn _), (grown_after (grown_after GL.out)).cell CC.out (hnn _)⟩) (first
  | ((refine step_app_blk rfl (.tmp 79) (.tmp 89) rfl wl.heap.size u13 TA ?_ ?_ (wr.heap.size) (x + y) ?_ ?_ HLA.out ?_ ?_); (kernel_rfl); (refine OwnI.same1 OA.out ?_; first | exact grown_refl _ _ | exact World.grownBy_alloc _ _ none | exact grown_trans (World.grownBy_alloc _ _ none) (grown_drew _ none) | exact grown_trans (grown_after (World.grownBy_alloc _ _ none)) (grown_drew _ none) | exact grown_drew _ none | exact grown_after (grown_drew _ none) | exact grown_after (grown_trans (World.grownBy_alloc _ _ none) (grown_drew _ none)) | exact grown_after (World.grownBy_alloc _ _ none) | exact grown_after (grown_after (grown_drew _ none))); (exact rfl); (first | exact cell_new_drew rfl | exact cell_new rfl | exact cell_new_drew (by show _ = (wr.heap.push _).size; simp) | exact cell_new (by show _ = (wr.heap.push _).size; simp) | exact (grown_trans (World.grownBy_alloc _ _ none) (grown_drew _ none)).cell (cell_new rfl) (hnn _) | exact (grown_trans (World.grownBy_alloc _ _ none) (grown_drew _ none)).cell (cell_new_drew rfl) (hnn _) | exact (World.grownBy_alloc _ _ none).cell (cell_new rfl) (hnn _) | exact (World.grownBy_alloc _ _ none).cell (cell_new_drew rfl) (hnn _) | exact CK.out); (first | exact (grown_trans GL.out (grown_refl _ _)).size | exact (grown_trans GL.out (World.grownBy_alloc _ _ none)).size | exact (grown_trans GL.out (grown_trans (World.grownBy_alloc _ _ none) (grown_drew _ none))).size | exact (grown_trans GL.out (grown_trans (grown_after (World.grownBy_alloc _ _ none)) (grown_drew _ none))).size | exact (grown_trans GL.out (grown_drew _ none)).size | exact (grown_trans GL.out (grown_after (grown_drew _ none))).size | exact (grown_trans GL.out (grown_after (grown_trans (World.grownBy_alloc _ _ none) (grown_drew _ none)))).size | exact (grown_trans GL.out (grown_after (World.grownBy_alloc _ _ none))).size | exact (grown_trans GL.out (grown_after (grown_after (grown_drew _ none)))).size); intro v90 w90 ho hg hb; have htw := two_own3 ho OC.out HAP.out OA.out GL.out hg hb; (obtain ⟨hoc, hap, hgl⟩ := htw (by first | exact grown_refl _ _ | exact World.grownBy_alloc _ _ none | exact grown_trans (World.grownBy_alloc _ _ none) (grown_drew _ none) | exact grown_trans (grown_after (World.grownBy_alloc _ _ none)) (grown_drew _ none) | exact grown_drew _ none | exact grown_after (grown_drew _ none) | exact grown_after (grown_trans (World.grownBy_alloc _ _ none) (grown_drew _ none)) | exact grown_after (World.grownBy_alloc _ _ none) | exact grown_after (grown_after (grown_drew _ none)))); (first | (have hck : w90.cell? ⟨wr.heap.size + 1, 0, none⟩ = some (.int .i64 (x + z)) := hg.cell (by first | exact cell_new_drew rfl | exact cell_new rfl | exact cell_new_drew (by show _ = (wr.heap.push _).size; simp) | exact cell_new (by show _ = (wr.heap.push _).size; simp) | exact (grown_trans (World.grownBy_alloc _ _ none) (grown_drew _ none)).cell (cell_new rfl) (hnn _) | exact (grown_trans (World.grownBy_alloc _ _ none) (grown_drew _ none)).cell (cell_new_drew rfl) (hnn _) | exact (World.grownBy_alloc _ _ none).cell (cell_new rfl) (hnn _) | exact (World.grownBy_alloc _ _ none).cell (cell_new_drew rfl) (hnn _)) (OA.out.ne_new (by first | exact Nat.le_succ _ | exact Nat.le_refl _)); have CK := Lib.hid hck; clear hck) | (have hck : w90.cell? ⟨wr.heap.size, 0, none⟩ = some (.int .i64 (x + z)) := hg.cell (by first | exact cell_new_drew rfl | exact cell_new rfl | exact cell_new_drew (by show _ = (wr.heap.push _).size; simp) | exact cell_new (by show _ = (wr.heap.push _).size; simp) | exact (grown_trans (World.grownBy_alloc _ _ none) (grown_drew _ none)).cell (cell_new rfl) (hnn _) | exact (grown_trans (World.grownBy_alloc _ _ none) (grown_drew _ none)).cell (cell_new_drew rfl) (hnn _) | exact (World.grownBy_alloc _ _ none).cell (cell_new rfl) (hnn _) | exact (World.grownBy_alloc _ _ none).cell (cell_new_drew rfl) (hnn _)) (OA.out.ne_new (by first | exact Nat.le_succ _ | exact Nat.le_refl _)); have CK := Lib.hid hck; clear hck) | skip); replace OA := Lib.hid ho; replace OC := Lib.hid hoc; replace HAP : Hid (Apart v90 u14) := Lib.hid hap; replace GL : Hid (wl.grownBy w90 none) := Lib.hid hgl; clear ho hoc hap hgl hb htw hg)
  | ((refine step_app_blk rfl (.tmp 79) (.tmp 89) rfl wl.heap.size u13 TA ?_ ?_ (wr.heap.size + 1) (x + y) ?_ ?_ HLA.out ?_ ?_); (kernel_rfl); (refine OwnI.same1 OA.out ?_; first | exact grown_refl _ _ | exact World.grownBy_alloc _ _ none | exact grown_trans (World.grownBy_alloc _ _ none) (grown_drew _ none) | exact grown_trans (grown_after (World.grownBy_alloc _ _ none)) (grown_drew _ none) | exact grown_drew _ none | exact grown_after (grown_drew _ none) | exact grown_after (grown_trans (World.grownBy_alloc _ _ none) (grown_drew _ none)) | exact grown_after (World.grownBy_alloc _ _ none) | exact grown_after (grown_after (grown_drew _ none))); (exact rfl); (first | exact cell_new_drew rfl | exact cell_new rfl | exact cell_new_drew (by show _ = (wr.heap.push _).size; simp) | exact cell_new (by show _ = (wr.heap.push _).size; simp) | exact (grown_trans (World.grownBy_alloc _ _ none) (grown_drew _ none)).cell (cell_new rfl) (hnn _) | exact (grown_trans (World.grownBy_alloc _ _ none) (grown_drew _ none)).cell (cell_new_drew rfl) (hnn _) | exact (World.grownBy_alloc _ _ none).cell (cell_new rfl) (hnn _) | exact (World.grownBy_alloc _ _ none).cell (cell_new_drew rfl) (hnn _) | exact CK.out); (first | exact (grown_trans GL.out (grown_refl _ _)).size | exact (grown_trans GL.out (World.grownBy_alloc _ _ none)).size | exact (grown_trans GL.out (grown_trans (World.grownBy_alloc _ _ none) (grown_drew _ none))).size | exact (grown_trans GL.out (grown_trans (grown_after (World.grownBy_alloc _ _ none)) (grown_drew _ none))).size | exact (grown_trans GL.out (grown_drew _ none)).size | exact (grown_trans GL.out (grown_after (grown_drew _ none))).size | exact (grown_trans GL.out (grown_after (grown_trans (World.grownBy_alloc _ _ none) (grown_drew _ none)))).size | exact (grown_trans GL.out (grown_after (World.grownBy_alloc _ _ none))).size | exact (grown_trans GL.out (grown_after (grown_after (grown_drew _ none)))).size); intro v90 w90 ho hg hb; have htw := two_own3 ho OC.out HAP.out OA.out GL.out hg hb; (obtain ⟨hoc, hap, hgl⟩ := htw (by first | exact grown_refl _ _ | exact World.grownBy_alloc _ _ none | exact grown_trans (World.grownBy_alloc _ _ none) (grown_drew _ none) | exact grown_trans (grown_after (World.grownBy_alloc _ _ none)) (grown_drew _ none) | exact grown_drew _ none | exact grown_after (grown_drew _ none) | exact grown_after (grown_trans (World.grownBy_alloc _ _ none) (grown_drew _ none)) | exact grown_after (World.grownBy_alloc _ _ none) | exact grown_after (grown_after (grown_drew _ none)))); (first | (have hck : w90.cell? ⟨wr.heap.size + 1, 0, none⟩ = some (.int .i64 (x + z)) := hg.cell (by first | exact cell_new_drew rfl | exact cell_new rfl | exact cell_new_drew (by show _ = (wr.heap.push _).size; simp) | exact cell_new (by show _ = (wr.heap.push _).size; simp) | exact (grown_trans (World.grownBy_alloc _ _ none) (grown_drew _ none)).cell (cell_new rfl) (hnn _) | exact (grown_trans (World.grownBy_alloc _ _ none) (grown_drew _ none)).cell (cell_new_drew rfl) (hnn _) | exact (World.grownBy_alloc _ _ none).cell (cell_new rfl) (hnn _) | exact (World.grownBy_alloc _ _ none).cell (cell_new_drew rfl) (hnn _)) (OA.out.ne_new (by first | exact Nat.le_succ _ | exact Nat.le_refl _)); have CK := Lib.hid hck; clear hck) | (have hck : w90.cell? ⟨wr.heap.size, 0, none⟩ = some (.int .i64 (x + z)) := hg.cell (by first | exact cell_new_drew rfl | exact cell_new rfl | exact cell_new_drew (by show _ = (wr.heap.push _).size; simp) | exact cell_new (by show _ = (wr.heap.push _).size; simp) | exact (grown_trans (World.grownBy_alloc _ _ none) (grown_drew _ none)).cell (cell_new rfl) (hnn _) | exact (grown_trans (World.grownBy_alloc _ _ none) (grown_drew _ none)).cell (cell_new_drew rfl) (hnn _) | exact (World.grownBy_alloc _ _ none).cell (cell_new rfl) (hnn _) | exact (World.grownBy_alloc _ _ none).cell (cell_new_drew rfl) (hnn _)) (OA.out.ne_new (by first | exact Nat.le_succ _ | exact Nat.le_refl _)); have CK := Lib.hid hck; clear hck) | skip); replace OA := Lib.hid ho; replace OC := Lib.hid hoc; replace HAP : Hid (Apart v90 u14) := Lib.hid hap; replace GL : Hid (wl.grownBy w90 none) := Lib.hid hgl; clear ho hoc hap hgl hb htw hg)
  | ((refine step_app_blk rfl (.tmp 91) (.tmp 102) rfl wl.heap.size u14 TC ?_ ?_ (w90.heap.size) (x + z) ?_ ?_ HLC.out ?_ ?_); (kernel_rfl); (refine OwnI.same1 OC.out ?_; first | exact grown_refl _ _ | exact World.grownBy_alloc _ _ none | exact grown_trans (World.grownBy_alloc _ _ none) (grown_drew _ none) | exact grown_trans (grown_after (World.grownBy_alloc _ _ none)) (grown_drew _ none) | exact grown_drew _ none | exact grown_after (grown_drew _ none) | exact grown_after (grown_trans (World.grownBy_alloc _ _ none) (grown_drew _ none)) | exact grown_after (World.grownBy_alloc _ _ none) | exact grown_after (grown_after (grown_drew _ none))); (exact rfl); (first | exact cell_new_drew rfl | exact cell_new rfl | exact cell_new_drew (by show _ = (wr.heap.push _).size; simp) | exact cell_new (by show _ = (wr.heap.push _).size; simp) | exact (grown_trans (World.grownBy_alloc _ _ none) (grown_drew _ none)).cell (cell_new rfl) (hnn _) | exact (grown_trans (World.grownBy_alloc _ _ none) (grown_drew _ none)).cell (cell_new_drew rfl) (hnn _) | exact (World.grownBy_alloc _ _ none).cell (cell_new rfl) (hnn _) | exact (World.grownBy_alloc _ _ none).cell (cell_new_drew rfl) (hnn _) | exact CK.out); (first | exact (grown_trans GL.out (grown_refl _ _)).size | exact (grown_trans GL.out (World.grownBy_alloc _ _ none)).size | exact (grown_trans GL.out (grown_trans (World.grownBy_alloc _ _ none) (grown_drew _ none))).size | exact (grown_trans GL.out (grown_trans (grown_after (World.grownBy_alloc _ _ none)) (grown_drew _ none))).size | exact (grown_trans GL.out (grown_drew _ none)).size | exact (grown_trans GL.out (grown_after (grown_drew _ none))).size | exact (grown_trans GL.out (grown_after (grown_trans (World.grownBy_alloc _ _ none) (grown_drew _ none)))).size | exact (grown_trans GL.out (grown_after (World.grownBy_alloc _ _ none))).size | exact (grown_trans GL.out (grown_after (grown_after (grown_drew _ none)))).size); intro v103 w103 ho hg hb; have htw := two_own3 ho OA.out HAP.out.symm OC.out GL.out hg hb; (obtain ⟨hoc, hap, hgl⟩ := htw (by first | exact grown_refl _ _ | exact World.grownBy_alloc _ _ none | exact grown_trans (World.grownBy_alloc _ _ none) (grown_drew _ none) | exact grown_trans (grown_after (World.grownBy_alloc _ _ none)) (grown_drew _ none) | exact grown_drew _ none | exact grown_after (grown_drew _ none) | exact grown_after (grown_trans (World.grownBy_alloc _ _ none) (grown_drew _ none)) | exact grown_after (World.grownBy_alloc _ _ none) | exact grown_after (grown_after (grown_drew _ none)))); replace OC := Lib.hid ho; replace OA := Lib.hid hoc; replace HAP : Hid (Apart v90 v103) := Lib.hid hap.symm; replace GL : Hid (wl.grownBy w103 none) := Lib.hid hgl; clear ho hoc hap hgl hb htw hg)
  | ((refine step_app_blk rfl (.tmp 91) (.tmp 102) rfl wl.heap.size u14 TC ?_ ?_ (wr.heap.size + 1) (x + z) ?_ ?_ HLC.out ?_ ?_); (kernel_rfl); (refine OwnI.same1 OC.out ?_; first | exact grown_refl _ _ | exact World.grownBy_alloc _ _ none | exact grown_trans (World.grownBy_alloc _ _ none) (grown_drew _ none) | exact grown_trans (grown_after (World.grownBy_alloc _ _ none)) (grown_drew _ none) | exact grown_drew _ none | exact grown_after (grown_drew _ none) | exact grown_after (grown_trans (World.grownBy_alloc _ _ none) (grown_drew _ none)) | exact grown_after (World.grownBy_alloc _ _ none) | exact grown_after (grown_after (grown_drew _ none))); (exact rfl); (first | exact cell_new_drew rfl | exact cell_new rfl | exact cell_new_drew (by show _ = (wr.heap.push _).size; simp) | exact cell_new (by show _ = (wr.heap.push _).size; simp) | exact (grown_trans (World.grownBy_alloc _ _ none) (grown_drew _ none)).cell (cell_new rfl) (hnn _) | exact (grown_trans (World.grownBy_alloc _ _ none) (grown_drew _ none)).cell (cell_new_drew rfl) (hnn _) | exact (World.grownBy_alloc _ _ none).cell (cell_new rfl) (hnn _) | exact (World.grownBy_alloc _ _ none).cell (cell_new_drew rfl) (hnn _) | exact CK.out); (first | exact (grown_trans GL.out (grown_refl _ _)).size | exact (grown_trans GL.out (World.grownBy_alloc _ _ none)).size | exact (grown_trans GL.out (grown_trans (World.grownBy_alloc _ _ none) (grown_drew _ none))).size | exact (grown_trans GL.out (grown_trans (grown_after (World.grownBy_alloc _ _ none)) (grown_drew _ none))).size | exact (grown_trans GL.out (grown_drew _ none)).size | exact (grown_trans GL.out (grown_after (grown_drew _ none))).size | exact (grown_trans GL.out (grown_after (grown_trans (World.grownBy_alloc _ _ none) (grown_drew _ none)))).size | exact (grown_trans GL.out (grown_after (World.grownBy_alloc _ _ none))).size | exact (grown_trans GL.out (grown_after (grown_after (grown_drew _ none)))).size); intro v103 w103 ho hg hb; have htw := two_own3 ho OA.out HAP.out.symm OC.out GL.out hg hb; (obtain ⟨hoc, hap, hgl⟩ := htw (by first | exact grown_refl _ _ | exact World.grownBy_alloc _ _ none | exact grown_trans (World.grownBy_alloc _ _ none) (grown_drew _ none) | exact grown_trans (grown_after (World.grownBy_alloc _ _ none)) (grown_drew _ none) | exact grown_drew _ none | exact grown_after (grown_drew _ none) | exact grown_after (grown_trans (World.grownBy_alloc _ _ none) (grown_drew _ none)) | exact grown_after (World.grownBy_alloc _ _ none) | exact grown_after (grown_after (grown_drew _ none)))); replace OC := Lib.hid ho; replace OA := Lib.hid hoc; replace HAP : Hid (Apart v90 v103) := Lib.hid hap.symm; replace GL : Hid (wl.grownBy w103 none) := Lib.hid hgl; clear ho hoc hap hgl hb htw hg)
  | ((refine step_app_blk rfl (.tmp 91) (.tmp 102) rfl wl.heap.size u14 TC ?_ ?_ (wr.heap.size) (x + z) ?_ ?_ HLC.out ?_ ?_); (kernel_rfl); (refine OwnI.same1 OC.out ?_; first | exact grown_refl _ _ | exact World.grownBy_alloc _ _ none | exact grown_trans (World.grownBy_alloc _ _ none) (grown_drew _ none) | exact grown_trans (grown_after (World.grownBy_alloc _ _ none)) (grown_drew _ none) | exact grown_drew _ none | exact grown_after (grown_drew _ none) | exact grown_after (grown_trans (World.grownBy_alloc _ _ none) (grown_drew _ none)) | exact grown_after (World.grownBy_alloc _ _ none) | exact grown_after (grown_after (grown_drew _ none))); (exact rfl); (first | exact cell_new_drew rfl | exact cell_new rfl | exact cell_new_drew (by show _ = (wr.heap.push _).size; simp) | exact cell_new (by show _ = (wr.heap.push _).size; simp) | exact (grown_trans (World.grownBy_alloc _ _ none) (grown_drew _ none)).cell (cell_new rfl) (hnn _) | exact (grown_trans (World.grownBy_alloc _ _ none) (grown_drew _ none)).cell (cell_new_drew rfl) (hnn _) | exact (World.grownBy_alloc _ _ none).cell (cell_new rfl) (hnn _) | exact (World.grownBy_alloc _ _ none).cell (cell_new_drew rfl) (hnn _) | exact CK.out); (first | exact (grown_trans GL.out (grown_refl _ _)).size | exact (grown_trans GL.out (World.grownBy_alloc _ _ none)).size | exact (grown_trans GL.out (grown_trans (World.grownBy_alloc _ _ none) (grown_drew _ none))).size | exact (grown_trans GL.out (grown_trans (grown_after (World.grownBy_alloc _ _ none)) (grown_drew _ none))).size | exact (grown_trans GL.out (grown_drew _ none)).size | exact (grown_trans GL.out (grown_after (grown_drew _ none))).size | exact (grown_trans GL.out (grown_after (grown_trans (World.grownBy_alloc _ _ none) (grown_drew _ none)))).size | exact (grown_trans GL.out (grown_after (World.grownBy_alloc _ _ none))).size | exact (grown_trans GL.out (grown_after (grown_after (grown_drew _ none)))).size); intro v103 w103 ho hg hb; have htw := two_own3 ho OA.out HAP.out.symm OC.out GL.out hg hb; (obtain ⟨hoc, hap, hgl⟩ := htw (by first | exact grown_refl _ _ | exact World.grownBy_alloc _ _ none | exact grown_trans (World.grownBy_alloc _ _ none) (grown_drew _ none) | exact grown_trans (grown_after (World.grownBy_alloc _ _ none)) (grown_drew _ none) | exact grown_drew _ none | exact grown_after (grown_drew _ none) | exact grown_after (grown_trans (World.grownBy_alloc _ _ none) (grown_drew _ none)) | exact grown_after (World.grownBy_alloc _ _ none) | exact grown_after (grown_after (grown_drew _ none)))); replace OC := Lib.hid ho; replace OA := Lib.hid hoc; replace HAP : Hid (Apart v90 v103) := Lib.hid hap.symm; replace GL : Hid (wl.grownBy w103 none) := Lib.hid hgl; clear ho hoc hap hgl hb htw hg))
            all_goals
              go_wp2_with fail
              go_roundw
              case rel => exact ⟨j + 1, by go_num, by omega, Lib.hid (by rw [← EA.out]; exact OA.out), Lib.hid (by rw [← EC.out]; exact OC.out), HAP, GL⟩
              case measure => simp [intOf]; omega
          · obtain rfl : j = M.length := by omega
            have h2 : ¬ ((M.length : Int) < (M.length : Int)) := by omega
            have hsM : ∀ x ∈ sumL M N, 0 ≤ x ∧ x ≤ 32 := by
              intro z hz
              obtain ⟨x, hx, y, hy, rfl⟩ := mem_zipWith _ M N z hz
              have h1 := HMM.out.2 x hx
              have h2 := HNN.out.2 y hy
              omega
            have hsC : ∀ x ∈ sumL M C, 0 ≤ x ∧ x ≤ 32 := by
              intro z hz
              obtain ⟨x, hx, y, hy, rfl⟩ := mem_zipWith _ M C z hz
              have h1 := HMM.out.2 x hx
              have h2 := HVC.out.2.2.2.1 y hy
              omega
            have EA : (sumL M N).take M.length = sumL M N := List.take_of_length_le (by rw [HSM.out, HML.out]; exact Nat.le_refl _)
            have EC : (sumL M C).take M.length = sumL M C := List.take_of_length_le (by rw [HSC.out, HML.out]; exact Nat.le_refl _)
            have R1 : Hid (RowOk wr (u13, sumL M N)) := Lib.hid (by have := OA.out; rw [EA] at this; exact this.row (fun x hx => by have := hsM x hx; omega))
            have R2 : Hid (RowOk wr (u14, sumL M C)) := Lib.hid (by have := OC.out; rw [EC] at this; exact this.row (fun x hx => by have := hsC x hx; omega))
            have B1 : Hid (withB 64 (sumL M N) = true) := Lib.hid (withB_iff.2 fun x hx => by have := hsM x hx; omega)
            have B2 : Hid (withB 64 (sumL M C) = true) := Lib.hid (withB_iff.2 fun x hx => by have := hsC x hx; omega)
            clear hsM hsC EA EC OA OC HAP
            have y0 := GL.out.cell HY.out.1 (by simp); have y1 := GL.out.cell HY.out.2 (by simp); have k0 := GL.out.cell HK.out.1 (by simp); have k1 := GL.out.cell HK.out.2 (by simp)
            replace HS := Lib.hid (HS.out.step GL.out); replace HLD := Lib.hid (HLD.out.same GL.out)
            replace HL9 := Lib.hid (HL9.out.same GL.out)
            go_wp2_with fail
            have hga : wr.grownBy (wr.alloc (.cells #[.slice ab (sumL B C).length cb, .slice ap rs.length cp] 49)) none := World.grownBy_alloc _ _ none
            have hcl : CellsS (wr.alloc (.cells #[.slice ab (sumL B C).length cb, .slice ap rs.length cp] 49)) wr.heap.size 0 ([((.slice ab (sumL B C).length cb, .slice ap rs.length cp), (sumL B C, ascL (P ++ Q)))].map Prod.fst) := cells_one (heap_new _ rfl)
            refine (has_any n wr.heap.size 0 1 [((.slice ab (sumL B C).length cb, .slice ap rs.length cp), (sumL B C, ascL (P ++ Q)))] _ (sumL M N) _ hn1 hn4 hcl (by intro u hu; rw [List.mem_singleton.1 hu]; exact ⟨HL9.out.same hga, HLS.out⟩) (by simp) (R1.out.same hga) HSM.out B1.out).mono ?_
            rintro e w112 ⟨Bo, rfl, hB, hg⟩
            obtain rfl : Bo = true := hB.2 (anyS_one.2 (by rw [← HM.out, ← HN.out]; exact sums_in HVB.out HVC.out HLS.out (fun t ht => (PT.out t ht).1) (fun t ht => (PS.out t ht).1)))
            have GE := Lib.hid (grown_trans hga hg)
            clear hB hg hga hcl y0 y1
            replace k0 := GE.out.cell k0 (by simp); replace k1 := GE.out.cell k1 (by simp)
            replace HS := Lib.hid (HS.out.step GE.out); replace HLD := Lib.hid (HLD.out.same GE.out); replace R2 := Lib.hid (R2.out.same GE.out)
            go_wp2_with fail
            have hga : w112.grownBy (w112.alloc (.cells #[.slice ad (sumL B C).length cd, .slice aq ds.length cq] 49)) none := World.grownBy_alloc _ _ none
            have hcl : CellsS (w112.alloc (.cells #[.slice ad (sumL B C).length cd, .slice aq ds.length cq] 49)) w112.heap.size 0 ([((.slice ad (sumL B C).length cd, .slice aq ds.length cq), (sumL B C, P))].map Prod.fst) := cells_one (heap_new _ rfl)
            refine (has_any n w112.heap.size 0 1 [((.slice ad (sumL B C).length cd, .slice aq ds.length cq), (sumL B C, P))] _ (sumL M C) _ hn1 hn4 hcl (by intro u hu; rw [List.mem_singleton.1 hu]; exact ⟨HLD.out.same hga, HVB.out.moved HVC.out H16.out⟩) (by simp) (R2.out.same hga) HSC.out B2.out).mono ?_
            rintro e w119 ⟨Bo, rfl, hB, hg⟩
            obtain rfl : Bo = true := hB.2 (anyS_one.2 (by rw [← HM.out]; exact moved_in HVB.out HCL.out LT.out (fun t ht => (PT.out t ht).1)))
            replace HS := Lib.hid (HS.out.step (grown_trans hga hg))
            clear hB hg hga hcl
            go_wp2_with fail
            go_ret
            exact ⟨rfl, HS.out.below⟩
      · clear hl3
        clear x0 x1 z0 z1
        replace G : Hid (wb.grownBy w53 (some d)) := Lib.hid (grown_deal G.out (grown_wide hg))
        replace HS := Lib.hid (HS.out.step hg); replace Vm := Lib.hid (Vm.out.step hg); replace Vo := Lib.hid (Vo.out.step hg)
        clear hg
        
        have hga : w53.grownBy (w53.alloc (.cells #[.slice none 0 0, .slice none 0 0] 49)) none := World.grownBy_alloc _ _ none
        have hG2 := grown_deal G.out (grown_wide (d := d) hga)
        have x0 := (HVX.out _ hG2).1; have x1 := (HVX.out _ hG2).2.1; have z0 := (HVZ.out _ hG2).1; have z1 := (HVZ.out _ hG2).2.1
        go_wp2_with fail
        obtain ⟨y0, y1⟩ := cells_of (show (w53.alloc (.cells #[.slice none 0 0, .slice none 0 0] 49)).heap[w53.heap.size]? = some (.cells #[.slice none 0 0, .slice none 0 0] 49 (0, 0)) from heap_new _ rfl)
        clear x0 x1 z0 z1 hG2
        generalize w53.alloc (.cells #[.slice none 0 0, .slice none 0 0] 49) = wa at *
        replace G : Hid (wb.grownBy wa (some d)) := Lib.hid (grown_deal G.out (grown_wide hga))
        replace HS := Lib.hid (HS.out.step hga); replace Vm := Lib.hid (Vm.out.step hga); replace Vo := Lib.hid (Vo.out.step hga)
        generalize w53.heap.size = gy at *
        skip
        have HY := Lib.hid (And.intro y0 y1)
        clear hga y0 y1
        have HCW : Hid (withB 16 C = true) := Lib.hid (withB_iff.2 fun x hx => by have := HVC.out.2.2.2.1 x hx; omega)
        refine (Shift_any n ((.slice au B.length cu, .slice pu P.length qu), (B, P)) (.slice av C.length cv) C _ (HVU.out _ G.out).ok (HVV.out _ G.out).base.1 HVC.out.2.2.1 HCW.out H16.out).mono ?_
        rintro e w61 ⟨vd, vq, ds, rfl, hrb, hrp, hgp, hrm, hg, -, -⟩
        have HLD : Hid (LinV w61 (.agg #[vd, vq]) (sumL B C) P) := Lib.hid ⟨_, _, ds, rfl, hrb, hrp, hgp, hrm⟩
        obtain ⟨⟨ad, cd, hvd, -, -, -⟩, -, -⟩ := hrb
        dsimp only at hvd
        obtain ⟨aq, cq, hvq, -, -, -⟩ := hrp
        subst hvd hvq
        clear hgp hrm HCW
        replace G : Hid (wb.grownBy w61 (some d)) := Lib.hid (grown_deal G.out (grown_wide hg))
        replace HS := Lib.hid (HS.out.step hg); replace Vm := Lib.hid (Vm.out.step hg); replace Vo := Lib.hid (Vo.out.step hg)
        skip
        replace HY := Lib.hid (And.intro (hg.cell HY.out.1 (by simp)) (hg.cell HY.out.2 (by simp)))
        clear hg
        go_wp2_with fail
        have hga : w61.grownBy (w61.alloc (.cells #[.slice ad (sumL B C).length cd, .slice aq ds.length cq] 49)) none := World.grownBy_alloc _ _ none
        have HK := Lib.hid (cells_of (show (w61.alloc (.cells #[.slice ad (sumL B C).length cd, .slice aq ds.length cq] 49)).heap[w61.heap.size]? = some (.cells #[.slice ad (sumL B C).length cd, .slice aq ds.length cq] 49 (0, 0)) from heap_new _ rfl))
        generalize w61.alloc (.cells #[.slice ad (sumL B C).length cd, .slice aq ds.length cq] 49) = wl at *
        replace G : Hid (wb.grownBy wl (some d)) := Lib.hid (grown_deal G.out (grown_wide hga))
        replace HS := Lib.hid (HS.out.step hga); replace Vm := Lib.hid (Vm.out.step hga); replace Vo := Lib.hid (Vo.out.step hga)
        generalize w61.heap.size = gk at *
        skip
        replace HLD := Lib.hid (HLD.out.same hga)
        replace HY := Lib.hid (And.intro (hga.cell HY.out.1 (by simp)) (hga.cell HY.out.2 (by simp)))
        clear hga
        have hmb : M.length ≤ 4 := by have := HML.out; omega
        have HZ0 := Lib.hid (HVZ.out _ G.out).1
        have HRC := Lib.hid (HVV.out _ G.out).base.1
        have HCL : Hid (C.length = n) := Lib.hid HVC.out.2.2.1
        have HSC : Hid ((sumL M C).length = n) := Lib.hid (sumL_len HML.out HCL.out)
        go_loopw [13, 14, 76] (fun va vc i wr => ∃ j : Nat, i = .int .i64 j ∧ j ≤ M.length ∧ Hid (OwnI wr wl.heap.size va ((sumL M N).take j)) ∧ Hid (OwnI wr wl.heap.size vc ((sumL M C).take j)) ∧ Hid (Apart va vc) ∧ Hid (wl.grownBy wr none)) (fun _ _ i _ => M.length - (intOf i).toNat)
        case atStart => exact ⟨0, rfl, Nat.zero_le _, Lib.hid (OwnI.nil _ _), Lib.hid (OwnI.nil _ _), Lib.hid (by intro g h; cases h), Lib.hid (grown_refl _ _)⟩
        case round =>
          obtain ⟨j, rfl, hj, OA, OC, HAP, GL⟩ := hrel
          rename World => wr
          by_cases hjb : j < M.length
          · have hjn : j < n := by rw [← HML.out]; exact hjb
            have hjN : j < N.length := by rw [HNL.out]; exact hjn
            have hjC : j < C.length := by rw [HCL.out]; exact hjn
            obtain ⟨bm, om, rfl, hmc⟩ := at_cell Vm.out.1 hjb
            obtain ⟨bn, on, rfl, hnc⟩ := at_cell Vo.out.1 hjN
            obtain ⟨bc, oc, rfl, hcc⟩ := at_cell HRC.out hjC
            have MC := Lib.hid (hmc _ (grown_refl _ _)); have NC := Lib.hid (hnc _ (grown_refl _ _)); have CC := Lib.hid (hcc _ (grown_refl _ _))
            have hx := mem_at HMM.out.2 hjb
            have hy := mem_at HNN.out.2 hjN
            have hz := mem_at HVC.out.2.2.2.1 hjC
            have EA : Hid ((sumL M N).take j ++ [M[j]?.getD 0 + N[j]?.getD 0] = (sumL M N).take (j + 1)) := Lib.hid (zs_snoc rfl (by rw [HSM.out]; exact hjn) (zip_at _ M N j hjb hjN).symm.symm)
            have EC : Hid ((sumL M C).take j ++ [M[j]?.getD 0 + C[j]?.getD 0] = (sumL M C).take (j + 1)) := Lib.hid (zs_snoc rfl (by rw [HSC.out]; exact hjn) (zip_at _ M C j hjb hjC).symm.symm)
            have h1 : (j : Int) < (M.length : Int) := by omega
            have h2 : (j : Int) < (N.length : Int) := by omega
            have h3 : (j : Int) < (C.length : Int) := by omega
            have HLA : Hid (((sumL M N).take j).length ≤ 1000000000000) := Lib.hid (by rw [List.length_take]; omega)
            have HLC : Hid (((sumL M C).take j).length ≤ 1000000000000) := Lib.hid (by rw [List.length_take]; omega)
            clear hmc hnc hcc
            generalize M[j]?.getD 0 = x at *
            generalize N[j]?.getD 0 = y at *
            generalize C[j]?.getD 0 = z at *
            generalize (sumL M N).take j = TA at *
            generalize (sumL M C).take j = TC at *
            have g1 : IntKind.i64.wrap (x + y) = x + y := IntWalk.i64_in _ (by omega)
            have g2 : IntKind.i64.wrap (x + z) = x + z := IntWalk.i64_in _ (by omega)
            clear hx hy hz
            have hnn : ∀ g : Nat, some g ≠ (none : Option Nat) := by intro g; simp
            go_wp2_with fail
            go_region_held3 (fun w' => w'.cell? ⟨bm, om + j, none⟩ = some (.int .i64 x) ∧ w'.cell? ⟨bn, on + j, none⟩ = some (.int .i64 y) ∧ w'.cell? ⟨gx + 1, 0, none⟩ = some (.slice (some ⟨bc, oc, none⟩) C.length cv) ∧ w'.cell? ⟨bc, oc + j, none⟩ = some (.int .i64 z)) (first
      | exact ⟨GL.out.cell MC.out (hnn _), GL.out.cell NC.out (hnn _), GL.out.cell HZ0.out (hnn _), GL.out.cell CC.out (hnn _)⟩ | exact ⟨(grown_after GL.out).cell MC.out (hnn _), (grown_after GL.out).cell NC.out (hnn _), (grown_after GL.out).cell HZ0.out (hnn _), (grown_after GL.out).cell CC.out (hnn _)⟩ | exact ⟨(grown_trans GL.out (grown_drew _ none)).cell MC.out (hnn _), (grown_trans GL.out (grown_drew _ none)).cell NC.out (hnn _), (grown_trans GL.out (grown_drew _ none)).cell HZ0.out (hnn _), (grown_trans GL.out (grown_drew _ none)).cell CC.out (hnn _)⟩ | exact ⟨(grown_trans (grown_after GL.out) (grown_drew _ none)).cell MC.out (hnn _), (grown_trans (grown_after GL.out) (grown_drew _ none)).cell NC.out (hnn _), (grown_trans (grown_after GL.out) (grown_drew _ none)).cell HZ0.out (hnn _), (grown_trans (grown_after GL.out) (grown_drew _ none)).cell CC.out (hnn _)⟩ | exact ⟨(grown_after (grown_trans GL.out (grown_drew _ none))).cell MC.out (hnn _), (grown_after (grown_trans GL.out (grown_drew _ none))).cell NC.out (hnn _), (grown_after (grown_trans GL.out (grown_drew _ none))).cell HZ0.out (hnn _), (grown_after (grown_trans GL.out (grown_drew _ none))).cell CC.out (hnn _)⟩ | exact ⟨(grown_trans (grown_after (grown_after GL.out)) (grown_drew _ none)).cell MC.out (hnn _), (grown_trans (grown_after (grown_after GL.out)) (grown_drew _ none)).cell NC.out (hnn _), (grown_trans (grown_after (grown_after GL.out)) (grown_drew _ none)).cell HZ0.out (hnn _), (grown_trans (grown_after (grown_after GL.out)) (grown_drew _ none)).cell CC.out (hnn _)⟩ | exact ⟨(grown_after (grown_trans (grown_after GL.out) (grown_drew _ none))).cell MC.out (hnn _), (grown_after (grown_trans (grown_after GL.out) (grown_drew _ none))).cell NC.out (hnn _), (grown_after (grown_trans (grown_after GL.out) (grown_drew _ none))).cell HZ0.out (hnn _), (grown_after (grown_trans (grown_after GL.out) (grown_drew _ none))).cell CC.out (hnn _)⟩ | exact ⟨(grown_after (grown_after GL.out)).cell MC.out (hnn _), (grown_after (grown_after GL.out)).cell NC.out (hnn _), (grown_after (grown_after GL.out)).cell HZ0.out (hnn _), (grown_after (grown_after GL.out)).cell CC.out (hnn _)⟩) (first
  | ((refine step_app_blk rfl (.tmp 79) (.tmp 89) rfl wl.heap.size u13 TA ?_ ?_ (wr.heap.size) (x + y) ?_ ?_ HLA.out ?_ ?_); (kernel_rfl); (refine OwnI.same1 OA.out ?_; first | exact grown_refl _ _ | exact World.grownBy_alloc _ _ none | exact grown_trans (World.grownBy_alloc _ _ none) (grown_drew _ none) | exact grown_trans (grown_after (World.grownBy_alloc _ _ none)) (grown_drew _ none) | exact grown_drew _ none | exact grown_after (grown_drew _ none) | exact grown_after (grown_trans (World.grownBy_alloc _ _ none) (grown_drew _ none)) | exact grown_after (World.grownBy_alloc _ _ none) | exact grown_after (grown_after (grown_drew _ none))); (exact rfl); (first | exact cell_new_drew rfl | exact cell_new rfl | exact cell_new_drew (by show _ = (wr.heap.push _).size; simp) | exact cell_new (by show _ = (wr.heap.push _).size; simp) | exact (grown_trans (World.grownBy_alloc _ _ none) (grown_drew _ none)).cell (cell_new rfl) (hnn _) | exact (grown_trans (World.grownBy_alloc _ _ none) (grown_drew _ none)).cell (cell_new_drew rfl) (hnn _) | exact (World.grownBy_alloc _ _ none).cell (cell_new rfl) (hnn _) | exact (World.grownBy_alloc _ _ none).cell (cell_new_drew rfl) (hnn _) | exact CK.out); (first | exact (grown_trans GL.out (grown_refl _ _)).size | exact (grown_trans GL.out (World.grownBy_alloc _ _ none)).size | exact (grown_trans GL.out (grown_trans (World.grownBy_alloc _ _ none) (grown_drew _ none))).size | exact (grown_trans GL.out (grown_trans (grown_after (World.grownBy_alloc _ _ none)) (grown_drew _ none))).size | exact (grown_trans GL.out (grown_drew _ none)).size | exact (grown_trans GL.out (grown_after (grown_drew _ none))).size | exact (grown_trans GL.out (grown_after (grown_trans (World.grownBy_alloc _ _ none) (grown_drew _ none)))).size | exact (grown_trans GL.out (grown_after (World.grownBy_alloc _ _ none))).size | exact (grown_trans GL.out (grown_after (grown_after (grown_drew _ none)))).size); intro v90 w90 ho hg hb; have htw := two_own3 ho OC.out HAP.out OA.out GL.out hg hb; (obtain ⟨hoc, hap, hgl⟩ := htw (by first | exact grown_refl _ _ | exact World.grownBy_alloc _ _ none | exact grown_trans (World.grownBy_alloc _ _ none) (grown_drew _ none) | exact grown_trans (grown_after (World.grownBy_alloc _ _ none)) (grown_drew _ none) | exact grown_drew _ none | exact grown_after (grown_drew _ none) | exact grown_after (grown_trans (World.grownBy_alloc _ _ none) (grown_drew _ none)) | exact grown_after (World.grownBy_alloc _ _ none) | exact grown_after (grown_after (grown_drew _ none)))); (first | (have hck : w90.cell? ⟨wr.heap.size + 1, 0, none⟩ = some (.int .i64 (x + z)) := hg.cell (by first | exact cell_new_drew rfl | exact cell_new rfl | exact cell_new_drew (by show _ = (wr.heap.push _).size; simp) | exact cell_new (by show _ = (wr.heap.push _).size; simp) | exact (grown_trans (World.grownBy_alloc _ _ none) (grown_drew _ none)).cell (cell_new rfl) (hnn _) | exact (grown_trans (World.grownBy_alloc _ _ none) (grown_drew _ none)).cell (cell_new_drew rfl) (hnn _) | exact (World.grownBy_alloc _ _ none).cell (cell_new rfl) (hnn _) | exact (World.grownBy_alloc _ _ none).cell (cell_new_drew rfl) (hnn _)) (OA.out.ne_new (by first | exact Nat.le_succ _ | exact Nat.le_refl _)); have CK := Lib.hid hck; clear hck) | (have hck : w90.cell? ⟨wr.heap.size, 0, none⟩ = some (.int .i64 (x + z)) := hg.cell (by first | exact cell_new_drew rfl | exact cell_new rfl | exact cell_new_drew (by show _ = (wr.heap.push _).size; simp) | exact cell_new (by show _ = (wr.heap.push _).size; simp) | exact (grown_trans (World.grownBy_alloc _ _ none) (grown_drew _ none)).cell (cell_new rfl) (hnn _) | exact (grown_trans (World.grownBy_alloc _ _ none) (grown_drew _ none)).cell (cell_new_drew rfl) (hnn _) | exact (World.grownBy_alloc _ _ none).cell (cell_new rfl) (hnn _) | exact (World.grownBy_alloc _ _ none).cell (cell_new_drew rfl) (hnn _)) (OA.out.ne_new (by first | exact Nat.le_succ _ | exact Nat.le_refl _)); have CK := Lib.hid hck; clear hck) | skip); replace OA := Lib.hid ho; replace OC := Lib.hid hoc; replace HAP : Hid (Apart v90 u14) := Lib.hid hap; replace GL : Hid (wl.grownBy w90 none) := Lib.hid hgl; clear ho hoc hap hgl hb htw hg)
  | ((refine step_app_blk rfl (.tmp 79) (.tmp 89) rfl wl.heap.size u13 TA ?_ ?_ (wr.heap.size + 1) (x + y) ?_ ?_ HLA.out ?_ ?_); (kernel_rfl); (refine OwnI.same1 OA.out ?_; first | exact grown_refl _ _ | exact World.grownBy_alloc _ _ none | exact grown_trans (World.grownBy_alloc _ _ none) (grown_drew _ none) | exact grown_trans (grown_after (World.grownBy_alloc _ _ none)) (grown_drew _ none) | exact grown_drew _ none | exact grown_after (grown_drew _ none) | exact grown_after (grown_trans (World.grownBy_alloc _ _ none) (grown_drew _ none)) | exact grown_after (World.grownBy_alloc _ _ none) | exact grown_after (grown_after (grown_drew _ none))); (exact rfl); (first | exact cell_new_drew rfl | exact cell_new rfl | exact cell_new_drew (by show _ = (wr.heap.push _).size; simp) | exact cell_new (by show _ = (wr.heap.push _).size; simp) | exact (grown_trans (World.grownBy_alloc _ _ none) (grown_drew _ none)).cell (cell_new rfl) (hnn _) | exact (grown_trans (World.grownBy_alloc _ _ none) (grown_drew _ none)).cell (cell_new_drew rfl) (hnn _) | exact (World.grownBy_alloc _ _ none).cell (cell_new rfl) (hnn _) | exact (World.grownBy_alloc _ _ none).cell (cell_new_drew rfl) (hnn _) | exact CK.out); (first | exact (grown_trans GL.out (grown_refl _ _)).size | exact (grown_trans GL.out (World.grownBy_alloc _ _ none)).size | exact (grown_trans GL.out (grown_trans (World.grownBy_alloc _ _ none) (grown_drew _ none))).size | exact (grown_trans GL.out (grown_trans (grown_after (World.grownBy_alloc _ _ none)) (grown_drew _ none))).size | exact (grown_trans GL.out (grown_drew _ none)).size | exact (grown_trans GL.out (grown_after (grown_drew _ none))).size | exact (grown_trans GL.out (grown_after (grown_trans (World.grownBy_alloc _ _ none) (grown_drew _ none)))).size | exact (grown_trans GL.out (grown_after (World.grownBy_alloc _ _ none))).size | exact (grown_trans GL.out (grown_after (grown_after (grown_drew _ none)))).size); intro v90 w90 ho hg hb; have htw := two_own3 ho OC.out HAP.out OA.out GL.out hg hb; (obtain ⟨hoc, hap, hgl⟩ := htw (by first | exact grown_refl _ _ | exact World.grownBy_alloc _ _ none | exact grown_trans (World.grownBy_alloc _ _ none) (grown_drew _ none) | exact grown_trans (grown_after (World.grownBy_alloc _ _ none)) (grown_drew _ none) | exact grown_drew _ none | exact grown_after (grown_drew _ none) | exact grown_after (grown_trans (World.grownBy_alloc _ _ none) (grown_drew _ none)) | exact grown_after (World.grownBy_alloc _ _ none) | exact grown_after (grown_after (grown_drew _ none)))); (first | (have hck : w90.cell? ⟨wr.heap.size + 1, 0, none⟩ = some (.int .i64 (x + z)) := hg.cell (by first | exact cell_new_drew rfl | exact cell_new rfl | exact cell_new_drew (by show _ = (wr.heap.push _).size; simp) | exact cell_new (by show _ = (wr.heap.push _).size; simp) | exact (grown_trans (World.grownBy_alloc _ _ none) (grown_drew _ none)).cell (cell_new rfl) (hnn _) | exact (grown_trans (World.grownBy_alloc _ _ none) (grown_drew _ none)).cell (cell_new_drew rfl) (hnn _) | exact (World.grownBy_alloc _ _ none).cell (cell_new rfl) (hnn _) | exact (World.grownBy_alloc _ _ none).cell (cell_new_drew rfl) (hnn _)) (OA.out.ne_new (by first | exact Nat.le_succ _ | exact Nat.le_refl _)); have CK := Lib.hid hck; clear hck) | (have hck : w90.cell? ⟨wr.heap.size, 0, none⟩ = some (.int .i64 (x + z)) := hg.cell (by first | exact cell_new_drew rfl | exact cell_new rfl | exact cell_new_drew (by show _ = (wr.heap.push _).size; simp) | exact cell_new (by show _ = (wr.heap.push _).size; simp) | exact (grown_trans (World.grownBy_alloc _ _ none) (grown_drew _ none)).cell (cell_new rfl) (hnn _) | exact (grown_trans (World.grownBy_alloc _ _ none) (grown_drew _ none)).cell (cell_new_drew rfl) (hnn _) | exact (World.grownBy_alloc _ _ none).cell (cell_new rfl) (hnn _) | exact (World.grownBy_alloc _ _ none).cell (cell_new_drew rfl) (hnn _)) (OA.out.ne_new (by first | exact Nat.le_succ _ | exact Nat.le_refl _)); have CK := Lib.hid hck; clear hck) | skip); replace OA := Lib.hid ho; replace OC := Lib.hid hoc; replace HAP : Hid (Apart v90 u14) := Lib.hid hap; replace GL : Hid (wl.grownBy w90 none) := Lib.hid hgl; clear ho hoc hap hgl hb htw hg)
  | ((refine step_app_blk rfl (.tmp 91) (.tmp 102) rfl wl.heap.size u14 TC ?_ ?_ (w90.heap.size) (x + z) ?_ ?_ HLC.out ?_ ?_); (kernel_rfl); (refine OwnI.same1 OC.out ?_; first | exact grown_refl _ _ | exact World.grownBy_alloc _ _ none | exact grown_trans (World.grownBy_alloc _ _ none) (grown_drew _ none) | exact grown_trans (grown_after (World.grownBy_alloc _ _ none)) (grown_drew _ none) | exact grown_drew _ none | exact grown_after (grown_drew _ none) | exact grown_after (grown_trans (World.grownBy_alloc _ _ none) (grown_drew _ none)) | exact grown_after (World.grownBy_alloc _ _ none) | exact grown_after (grown_after (grown_drew _ none))); (exact rfl); (first | exact cell_new_drew rfl | exact cell_new rfl | exact cell_new_drew (by show _ = (wr.heap.push _).size; simp) | exact cell_new (by show _ = (wr.heap.push _).size; simp) | exact (grown_trans (World.grownBy_alloc _ _ none) (grown_drew _ none)).cell (cell_new rfl) (hnn _) | exact (grown_trans (World.grownBy_alloc _ _ none) (grown_drew _ none)).cell (cell_new_drew rfl) (hnn _) | exact (World.grownBy_alloc _ _ none).cell (cell_new rfl) (hnn _) | exact (World.grownBy_alloc _ _ none).cell (cell_new_drew rfl) (hnn _) | exact CK.out); (first | exact (grown_trans GL.out (grown_refl _ _)).size | exact (grown_trans GL.out (World.grownBy_alloc _ _ none)).size | exact (grown_trans GL.out (grown_trans (World.grownBy_alloc _ _ none) (grown_drew _ none))).size | exact (grown_trans GL.out (grown_trans (grown_after (World.grownBy_alloc _ _ none)) (grown_drew _ none))).size | exact (grown_trans GL.out (grown_drew _ none)).size | exact (grown_trans GL.out (grown_after (grown_drew _ none))).size | exact (grown_trans GL.out (grown_after (grown_trans (World.grownBy_alloc _ _ none) (grown_drew _ none)))).size | exact (grown_trans GL.out (grown_after (World.grownBy_alloc _ _ none))).size | exact (grown_trans GL.out (grown_after (grown_after (grown_drew _ none)))).size); intro v103 w103 ho hg hb; have htw := two_own3 ho OA.out HAP.out.symm OC.out GL.out hg hb; (obtain ⟨hoc, hap, hgl⟩ := htw (by first | exact grown_refl _ _ | exact World.grownBy_alloc _ _ none | exact grown_trans (World.grownBy_alloc _ _ none) (grown_drew _ none) | exact grown_trans (grown_after (World.grownBy_alloc _ _ none)) (grown_drew _ none) | exact grown_drew _ none | exact grown_after (grown_drew _ none) | exact grown_after (grown_trans (World.grownBy_alloc _ _ none) (grown_drew _ none)) | exact grown_after (World.grownBy_alloc _ _ none) | exact grown_after (grown_after (grown_drew _ none)))); replace OC := Lib.hid ho; replace OA := Lib.hid hoc; replace HAP : Hid (Apart v90 v103) := Lib.hid hap.symm; replace GL : Hid (wl.grownBy w103 none) := Lib.hid hgl; clear ho hoc hap hgl hb htw hg)
  | ((refine step_app_blk rfl (.tmp 91) (.tmp 102) rfl wl.heap.size u14 TC ?_ ?_ (wr.heap.size + 1) (x + z) ?_ ?_ HLC.out ?_ ?_); (kernel_rfl); (refine OwnI.same1 OC.out ?_; first | exact grown_refl _ _ | exact World.grownBy_alloc _ _ none | exact grown_trans (World.grownBy_alloc _ _ none) (grown_drew _ none) | exact grown_trans (grown_after (World.grownBy_alloc _ _ none)) (grown_drew _ none) | exact grown_drew _ none | exact grown_after (grown_drew _ none) | exact grown_after (grown_trans (World.grownBy_alloc _ _ none) (grown_drew _ none)) | exact grown_after (World.grownBy_alloc _ _ none) | exact grown_after (grown_after (grown_drew _ none))); (exact rfl); (first | exact cell_new_drew rfl | exact cell_new rfl | exact cell_new_drew (by show _ = (wr.heap.push _).size; simp) | exact cell_new (by show _ = (wr.heap.push _).size; simp) | exact (grown_trans (World.grownBy_alloc _ _ none) (grown_drew _ none)).cell (cell_new rfl) (hnn _) | exact (grown_trans (World.grownBy_alloc _ _ none) (grown_drew _ none)).cell (cell_new_drew rfl) (hnn _) | exact (World.grownBy_alloc _ _ none).cell (cell_new rfl) (hnn _) | exact (World.grownBy_alloc _ _ none).cell (cell_new_drew rfl) (hnn _) | exact CK.out); (first | exact (grown_trans GL.out (grown_refl _ _)).size | exact (grown_trans GL.out (World.grownBy_alloc _ _ none)).size | exact (grown_trans GL.out (grown_trans (World.grownBy_alloc _ _ none) (grown_drew _ none))).size | exact (grown_trans GL.out (grown_trans (grown_after (World.grownBy_alloc _ _ none)) (grown_drew _ none))).size | exact (grown_trans GL.out (grown_drew _ none)).size | exact (grown_trans GL.out (grown_after (grown_drew _ none))).size | exact (grown_trans GL.out (grown_after (grown_trans (World.grownBy_alloc _ _ none) (grown_drew _ none)))).size | exact (grown_trans GL.out (grown_after (World.grownBy_alloc _ _ none))).size | exact (grown_trans GL.out (grown_after (grown_after (grown_drew _ none)))).size); intro v103 w103 ho hg hb; have htw := two_own3 ho OA.out HAP.out.symm OC.out GL.out hg hb; (obtain ⟨hoc, hap, hgl⟩ := htw (by first | exact grown_refl _ _ | exact World.grownBy_alloc _ _ none | exact grown_trans (World.grownBy_alloc _ _ none) (grown_drew _ none) | exact grown_trans (grown_after (World.grownBy_alloc _ _ none)) (grown_drew _ none) | exact grown_drew _ none | exact grown_after (grown_drew _ none) | exact grown_after (grown_trans (World.grownBy_alloc _ _ none) (grown_drew _ none)) | exact grown_after (World.grownBy_alloc _ _ none) | exact grown_after (grown_after (grown_drew _ none)))); replace OC := Lib.hid ho; replace OA := Lib.hid hoc; replace HAP : Hid (Apart v90 v103) := Lib.hid hap.symm; replace GL : Hid (wl.grownBy w103 none) := Lib.hid hgl; clear ho hoc hap hgl hb htw hg)
  | ((refine step_app_blk rfl (.tmp 91) (.tmp 102) rfl wl.heap.size u14 TC ?_ ?_ (wr.heap.size) (x + z) ?_ ?_ HLC.out ?_ ?_); (kernel_rfl); (refine OwnI.same1 OC.out ?_; first | exact grown_refl _ _ | exact World.grownBy_alloc _ _ none | exact grown_trans (World.grownBy_alloc _ _ none) (grown_drew _ none) | exact grown_trans (grown_after (World.grownBy_alloc _ _ none)) (grown_drew _ none) | exact grown_drew _ none | exact grown_after (grown_drew _ none) | exact grown_after (grown_trans (World.grownBy_alloc _ _ none) (grown_drew _ none)) | exact grown_after (World.grownBy_alloc _ _ none) | exact grown_after (grown_after (grown_drew _ none))); (exact rfl); (first | exact cell_new_drew rfl | exact cell_new rfl | exact cell_new_drew (by show _ = (wr.heap.push _).size; simp) | exact cell_new (by show _ = (wr.heap.push _).size; simp) | exact (grown_trans (World.grownBy_alloc _ _ none) (grown_drew _ none)).cell (cell_new rfl) (hnn _) | exact (grown_trans (World.grownBy_alloc _ _ none) (grown_drew _ none)).cell (cell_new_drew rfl) (hnn _) | exact (World.grownBy_alloc _ _ none).cell (cell_new rfl) (hnn _) | exact (World.grownBy_alloc _ _ none).cell (cell_new_drew rfl) (hnn _) | exact CK.out); (first | exact (grown_trans GL.out (grown_refl _ _)).size | exact (grown_trans GL.out (World.grownBy_alloc _ _ none)).size | exact (grown_trans GL.out (grown_trans (World.grownBy_alloc _ _ none) (grown_drew _ none))).size | exact (grown_trans GL.out (grown_trans (grown_after (World.grownBy_alloc _ _ none)) (grown_drew _ none))).size | exact (grown_trans GL.out (grown_drew _ none)).size | exact (grown_trans GL.out (grown_after (grown_drew _ none))).size | exact (grown_trans GL.out (grown_after (grown_trans (World.grownBy_alloc _ _ none) (grown_drew _ none)))).size | exact (grown_trans GL.out (grown_after (World.grownBy_alloc _ _ none))).size | exact (grown_trans GL.out (grown_after (grown_after (grown_drew _ none)))).size); intro v103 w103 ho hg hb; have htw := two_own3 ho OA.out HAP.out.symm OC.out GL.out hg hb; (obtain ⟨hoc, hap, hgl⟩ := htw (by first | exact grown_refl _ _ | exact World.grownBy_alloc _ _ none | exact grown_trans (World.grownBy_alloc _ _ none) (grown_drew _ none) | exact grown_trans (grown_after (World.grownBy_alloc _ _ none)) (grown_drew _ none) | exact grown_drew _ none | exact grown_after (grown_drew _ none) | exact grown_after (grown_trans (World.grownBy_alloc _ _ none) (grown_drew _ none)) | exact grown_after (World.grownBy_alloc _ _ none) | exact grown_after (grown_after (grown_drew _ none)))); replace OC := Lib.hid ho; replace OA := Lib.hid hoc; replace HAP : Hid (Apart v90 v103) := Lib.hid hap.symm; replace GL : Hid (wl.grownBy w103 none) := Lib.hid hgl; clear ho hoc hap hgl hb htw hg))
            all_goals
              go_wp2_with fail
              go_roundw
              case rel => exact ⟨j + 1, by go_num, by omega, Lib.hid (by rw [← EA.out]; exact OA.out), Lib.hid (by rw [← EC.out]; exact OC.out), HAP, GL⟩
              case measure => simp [intOf]; omega
          · obtain rfl : j = M.length := by omega
            have h2 : ¬ ((M.length : Int) < (M.length : Int)) := by omega
            have hsM : ∀ x ∈ sumL M N, 0 ≤ x ∧ x ≤ 32 := by
              intro z hz
              obtain ⟨x, hx, y, hy, rfl⟩ := mem_zipWith _ M N z hz
              have h1 := HMM.out.2 x hx
              have h2 := HNN.out.2 y hy
              omega
            have hsC : ∀ x ∈ sumL M C, 0 ≤ x ∧ x ≤ 32 := by
              intro z hz
              obtain ⟨x, hx, y, hy, rfl⟩ := mem_zipWith _ M C z hz
              have h1 := HMM.out.2 x hx
              have h2 := HVC.out.2.2.2.1 y hy
              omega
            have EA : (sumL M N).take M.length = sumL M N := List.take_of_length_le (by rw [HSM.out, HML.out]; exact Nat.le_refl _)
            have EC : (sumL M C).take M.length = sumL M C := List.take_of_length_le (by rw [HSC.out, HML.out]; exact Nat.le_refl _)
            have R1 : Hid (RowOk wr (u13, sumL M N)) := Lib.hid (by have := OA.out; rw [EA] at this; exact this.row (fun x hx => by have := hsM x hx; omega))
            have R2 : Hid (RowOk wr (u14, sumL M C)) := Lib.hid (by have := OC.out; rw [EC] at this; exact this.row (fun x hx => by have := hsC x hx; omega))
            have B1 : Hid (withB 64 (sumL M N) = true) := Lib.hid (withB_iff.2 fun x hx => by have := hsM x hx; omega)
            have B2 : Hid (withB 64 (sumL M C) = true) := Lib.hid (withB_iff.2 fun x hx => by have := hsC x hx; omega)
            clear hsM hsC EA EC OA OC HAP
            have y0 := GL.out.cell HY.out.1 (by simp); have y1 := GL.out.cell HY.out.2 (by simp); have k0 := GL.out.cell HK.out.1 (by simp); have k1 := GL.out.cell HK.out.2 (by simp)
            replace HS := Lib.hid (HS.out.step GL.out); replace HLD := Lib.hid (HLD.out.same GL.out)
            go_wp2_with fail
            have hga : wr.grownBy (wr.alloc (.cells #[.slice ad (sumL B C).length cd, .slice aq ds.length cq] 49)) none := World.grownBy_alloc _ _ none
            have hcl : CellsS (wr.alloc (.cells #[.slice ad (sumL B C).length cd, .slice aq ds.length cq] 49)) wr.heap.size 0 ([((.slice ad (sumL B C).length cd, .slice aq ds.length cq), (sumL B C, P))].map Prod.fst) := cells_one (heap_new _ rfl)
            refine (has_any n wr.heap.size 0 1 [((.slice ad (sumL B C).length cd, .slice aq ds.length cq), (sumL B C, P))] _ (sumL M C) _ hn1 hn4 hcl (by intro u hu; rw [List.mem_singleton.1 hu]; exact ⟨HLD.out.same hga, HVB.out.moved HVC.out H16.out⟩) (by simp) (R2.out.same hga) HSC.out B2.out).mono ?_
            rintro e w119 ⟨Bo, rfl, hB, hg⟩
            obtain rfl : Bo = true := hB.2 (anyS_one.2 (by rw [← HM.out]; exact moved_in HVB.out HCL.out LT.out (fun t ht => (PT.out t ht).1)))
            replace HS := Lib.hid (HS.out.step (grown_trans hga hg))
            clear hB hg hga hcl
            go_wp2_with fail
            go_ret
            exact ⟨rfl, HS.out.below⟩
  · go_enter Try.func10, Try.ntmps10
    go_wp2_with fail
    refine (awake13_any _).mono ?_
    rintro e w1 ⟨rfl, hg⟩
    have HG := Lib.hid hg
    clear hg
    go_wp2_with fail
    refine (few_any _ _ _ _).mono ?_
    rintro e w2 ⟨rfl, rfl⟩
    rw [decide_eq_false (by omega)]
    go_wp2_with fail
    refine (awake13_any _).mono ?_
    rintro e w3 ⟨rfl, hg⟩
    have HG := Lib.hid (grown_trans HG.out hg)
    clear hg
    go_wp2_with fail
    go_ret
    exact ⟨rfl, below_of HG.out⟩

/-! ### SemilinearSums: the statement, from its walk -/
set_option maxRecDepth 100000 in
theorem liftedSemilinearSums (os : Os) (started : os.Started) (H : Type) (enc : TypeId × Value → H) :
    ReturnsInHanded {} Try.checked os 10 .any (Rows.semilinearSumsSpec.pre6 enc Try.prog Try.f10 Rows.semilinearSumsRow.domain false) (Rows.semilinearSumsSpec.post enc Try.prog Try.f10 false true false false) := by
  refine returnsInHanded_of_change (C := Try.checked) own started (by kernel_rfl) Try.func10
    (ChangeSpec.witness6 (enc := enc) (C := Try.checked) false ⟨#[], #[.slice none 0 0], []⟩ 8 (by kernel_rfl) (by kernel_rfl) (by kernel_rfl) (by kernel_rfl)) ?_
  intro W base args ds gs before hval0 hW hcnd _
  have hval : ∀ (j : Nat) t v, Try.f10.params[j]? = some t → args[j]? = some v → Value.okWide Try.prog W .any base t v := hval0
  have hW' := hW
  obtain ⟨p, q, hA0, hV, rfl, hfz, hnd⟩ := hW
  have hA : DataW.TrodAll enc Try.prog W 0 (fun _ => true) true Try.f10.params.toList args.toList ds p := hA0
  rw [Try.params10] at hA hval
  obtain ⟨v0, vs0, d0, ds0, p0, q0, hargs, rfl, rfl, h0, r0⟩ := trodAll_cons hA
  obtain ⟨rfl, rfl, rfl⟩ := trodAll_nil r0
  obtain rfl : args = #[v0] := by cases args; simp_all
  obtain ⟨rfl, rfl⟩ := trodVars_none hV
  obtain ⟨a0, len0, cap0, rfl⟩ := okWide_slice Try.underlying22 (hval 0 22 v0 rfl rfl)
  have k0 := h0
  have lt0 : ∀ x ∈ p0, x.block < W.heap.size := by obtain ⟨m, hm⟩ := k0; exact DataW.trod_lt m _ _ _ hm
  obtain ⟨z0, w0⟩ : ∃ zs, IsRow .i64 W a0 len0 cap0 zs := by
    obtain ⟨fuel, hf⟩ := h0
    rcases open_ints Try.underlying22 Try.underlying3 (by kernel_rfl) hf with ⟨hcs, _⟩ | ⟨x, l, c, zs, hcs, _, hl, hm, hz, _, hcell, hwz⟩
    · simp [Value.cells] at hcs
      obtain ⟨rfl, rfl, rfl⟩ := hcs
      exact ⟨[], .inl ⟨rfl, rfl, rfl, rfl⟩⟩
    · simp [Value.cells] at hcs
      obtain ⟨rfl, rfl, rfl⟩ := hcs
      exact ⟨zs, .inr ⟨_, rfl, hl, hm, by simpa using hz, hcell, hwz⟩⟩
  clear hA0 hval0
  refine (walkSemilinearSums a0 len0 cap0 z0 W w0).mono fun e W' ⟨he, bel⟩ => ?_
  subst he
  exact ⟨_, rfl, _, _, _, [], _, [], hW', trodAll_mk1 (shut_bool Try.underlying4 _), (trodAll_cons_mk (Below.trod laidOut (by kernel_rfl) (of_decide_eq_true (by kernel_rfl)) k0 bel lt0) trodAll_mk0), rfl, bel.frame _, fun h => by cases h⟩

theorem semilinearSums_holds : Rows.SemilinearSumsSaid :=
  OpenClaim.holds_of_wide 10 Try.f10 rfl rfl rfl rfl rfl rfl rfl ⟨rfl, rfl, rfl, rfl, rfl⟩ rfl rfl rfl rfl rfl (by kernel_rfl) Try.func10 (by kernel_rfl)
    (of_decide_eq_true (by kernel_rfl)) (by unfold Func.isWrapper; first | (rw [if_pos (by decide +kernel)]; kernel_rfl) | (rw [if_neg (by decide +kernel)]; exact ⟨rfl, rfl⟩))
    (fun os started H enc _ => liftedSemilinearSums os started H enc)
#print axioms semilinearSums_holds
end Go.Proofs.Ytgdnlibklopdiaa
