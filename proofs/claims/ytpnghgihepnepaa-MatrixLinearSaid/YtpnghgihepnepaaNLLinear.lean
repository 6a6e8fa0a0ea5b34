/- MatrixLinear: for every input it answers true. -/
import Derived.Test.YtpnghgihepnepaaNl
import Derived.BigRegion
import Derived.Deep.RegionHeld3
namespace Go.Proofs.Ytpnghgihepnepaa
open Go.ChangeShapes Go.WideShapes Go.ChangeAt Go.RowKit
set_option linter.unusedVariables false

set_option maxRecDepth 100000 in
set_option maxHeartbeats 2000000 in
theorem walkMatrixLinear (a0 : Option Addr) (len0 cap0 : Nat) (z0 : List Int) (w : World) (w0 : IsRow .i64 w a0 len0 cap0 z0) :
    Calls Try.prog 7 #[.slice a0 len0 cap0] w fun e w' => e = .returned (.bool true) ∧ Below w.heap.size w w' := by
  obtain ⟨hI, hlen⟩ := w0.ints
  generalize z0.take len0 = zs at hI hlen
  subst hlen
  have HI := Lib.hid hI
  clear hI w0
  by_cases hfew : (zs.length : Int) ≤ 400
  · go_enter Try.func7, Try.ntmps7
    go_wp2_with fail
    refine (awake10_any _).mono ?_
    rintro e w1 ⟨rfl, hg⟩
    have HG := Lib.hid hg
    clear hg
    go_wp2_with fail
    refine (few_any _ _ _ _).mono ?_
    rintro e w2 ⟨rfl, rfl⟩
    rw [decide_eq_true hfew]
    go_wp2_with fail
    refine (new_st (HI.out.same HG.out) HG.out).mono ?_
    rintro e w3 ⟨p, d, rfl, hs⟩
    have HS := Lib.hid hs
    clear hs HG HI
    go_wp2_with fail
    refine (next_st HS.out _ (by omega) (by omega)).mono ?_
    rintro e w4 ⟨y, rfl, hy0, hy1, hs, hg⟩
    replace HS := Lib.hid hs
    clear hs hg
    obtain ⟨r, hr⟩ : ∃ r : Nat, 1 + y = (r : Int) := ⟨(1 + y).toNat, by omega⟩
    have hr1 : 1 ≤ r := by omega
    have hr2 : r ≤ 4 := by omega
    have ir : IntKind.i64.wrap (1 + y) = (r : Int) := by rw [hr]; exact IntWalk.i64_in _ (by omega)
    clear hr hy0 hy1
    go_wp2_with fail
    refine (next_st HS.out _ (by omega) (by omega)).mono ?_
    rintro e w5 ⟨y, rfl, hy0, hy1, hs, hg⟩
    replace HS := Lib.hid hs
    clear hs hg
    obtain ⟨c, hc⟩ : ∃ c : Nat, 1 + y = (c : Int) := ⟨(1 + y).toNat, by omega⟩
    have hc1 : 1 ≤ c := by omega
    have hc2 : c ≤ 6 := by omega
    have ic : IntKind.i64.wrap (1 + y) = (c : Int) := by rw [hc]; exact IntWalk.i64_in _ (by omega)
    clear hc hy0 hy1
    go_wp2_with fail
    clear ir ic
    refine (matrix_st HS.out r c (by omega) (by omega)).mono ?_
    rintro e w6 ⟨vm, ps, rfl, hpl, hdm, hM, hs, hg⟩
    have HM := Lib.hid (MatD.mk HS.out hM)
    replace HS := Lib.hid hs; have HOK := Lib.hid (dealt_ok hpl hdm hr1 (by omega) hc1 (by omega) (by omega))
    clear hpl hdm hM hs hg
    go_wp2_with fail
    refine (small_st HS.out (c : Int) 9 (by omega) (by omega) (by omega)).mono ?_
    rintro e w7 ⟨vu, us, rfl, hul, hub, hv, hs, hg⟩
    replace HM := Lib.hid (HM.out.deal hg); have VU := Lib.hid hv
    replace HS := Lib.hid hs; have HUL : Hid (us.length = c) := Lib.hid (by rw [hul]; rfl); have HUB := Lib.hid hub
    clear hul hub hv hs hg
    go_wp2_with fail
    refine (small_st HS.out (c : Int) 9 (by omega) (by omega) (by omega)).mono ?_
    rintro e w8 ⟨vv, vs, rfl, hul, hub, hv, hs, hg⟩
    replace HM := Lib.hid (HM.out.deal hg); replace VU := Lib.hid (VU.out.deal hg); have VV := Lib.hid hv
    replace HS := Lib.hid hs; have HVL : Hid (vs.length = c) := Lib.hid (by rw [hul]; rfl); have HVB := Lib.hid hub
    clear hul hub hv hs hg
    obtain ⟨au, cu, rfl, -⟩ := VU.out.slice
    obtain ⟨av, cv, rfl, -⟩ := VV.out.slice
    go_wp2_with fail
    have HG8 := Lib.hid (grown_refl w8 none)
    have hk6 : us.length ≤ 6 := by have := HUL.out; omega
    go_loopw [46, 9] (fun i o wr => ∃ (k : Nat), i = .int .i64 k ∧ k ≤ us.length ∧ Hid (OwnI wr w8.heap.size o ((lin2 us vs).take k)) ∧ Hid (w8.grownBy wr none)) (fun i _ _ => us.length - (intOf i).toNat)
    case atStart => exact ⟨0, rfl, Nat.zero_le _, Lib.hid (by simpa using OwnI.nil _ _), HG8⟩
    case round =>
      obtain ⟨k, rfl, hk, hO, hG⟩ := hrel
      rename World => wk
      by_cases hkb : k < us.length
      · have h3 : (k : Int) < (us.length : Int) := by omega
        have h4 : (k : Int) < (vs.length : Int) := by have := HUL.out; have := HVL.out; omega
        have i1 : IntKind.i64.wrap ((k : Int) + 1) = (k : Int) + 1 := IntWalk.i64_in _ (by omega)
        obtain ⟨_, _, hxv, -, -, hxc⟩ := VU.out.1
        simp only [Value.slice.injEq] at hxv
        obtain ⟨rfl, -, rfl⟩ := hxv
        obtain ⟨bu, ou, rfl, hcu⟩ := Ints.at hxc hkb
        obtain ⟨_, _, hxv, -, -, hxc⟩ := VV.out.1
        simp only [Value.slice.injEq] at hxv
        obtain ⟨rfl, -, rfl⟩ := hxv
        obtain ⟨bv, ov, rfl, hcv⟩ := Ints.at hxc (show k < vs.length by omega)
        have b1 := mem_at (P := fun y => 0 ≤ y ∧ y ≤ 9) HUB.out hkb
        have b2 := mem_at (P := fun y => 0 ≤ y ∧ y ≤ 9) HVB.out (show k < vs.length by omega)
        have GD := Lib.hid (grown_trans hG.out (grown_drew wk none))
        have hcu2 := GD.out.cell hcu (by simp); have hcv2 := GD.out.cell hcv (by simp)
        have HN : Hid ((lin2 us vs).take k ++ [us[k]?.getD 0 - 2 * vs[k]?.getD 0] = (lin2 us vs).take (k + 1)) := Lib.hid (lin2_next hkb (by omega))
        generalize us[k]?.getD 0 = x at *
        generalize vs[k]?.getD 0 = y at *
        have m1 : IntKind.i64.wrap (2 * y) = 2 * y := IntWalk.i64_in _ (by omega)
        have m2 : IntKind.i64.wrap (x - 2 * y) = x - 2 * y := IntWalk.i64_in _ (by omega)
        have HKL : Hid (((lin2 us vs).take k).length ≤ 1000000000000) := Lib.hid (by have := List.length_take_le k (lin2 us vs); omega)
        clear hxc hcu hcv b1 b2
        go_wp2_with fail
        go_region_law (refine step_app_int rfl _ _ rfl w8.heap.size _ _ rfl (hO.out.kept (grown_trans (World.grownBy_alloc _ _ none) (grown_drew _ none)) (by simp)) wk.heap.size (x - 2 * y) rfl (cell_new_drew rfl) HKL.out (by have := hG.out.size; simp; omega) ?_; intro v' w9 ho2 hg2; have HO9 := Lib.hid ho2; have HG9 := Lib.hid (grown_then (grown_trans hG.out (grown_trans (World.grownBy_alloc _ _ none) (grown_drew _ none))) hg2 (fun j hj => .inl (hO.out.fresh j hj).1)); clear ho2 hg2)
        all_goals
          go_wp2_with fail
          go_roundw
          case rel => exact ⟨k + 1, by go_num, by omega, Lib.hid (by rw [← HN.out]; exact HO9.out), HG9⟩
          case measure => simp [intOf]; omega
      · obtain rfl : k = us.length := by omega
        have h3 : ¬ (us.length : Int) < (us.length : Int) := by omega
        have HSM : Hid ((lin2 us vs).length = c) := Lib.hid (by unfold lin2; rw [List.length_zipWith, HUL.out, HVL.out, Nat.min_self])
        have hO2 := hO.out
        rw [List.take_of_length_le (by have := HSM.out; have := HUL.out; omega)] at hO2
        have HSB : Hid (∀ y ∈ lin2 us vs, -18 ≤ y ∧ y ≤ 9) := Lib.hid (lin2_bd HUB.out HVB.out)
        obtain ⟨aS, cS, rfl⟩ := ownI_sl' hO2
        have VS := Lib.hid (hO2.ints (fun x hx => by have := HSB.out x hx; omega))
        replace HM := Lib.hid (HM.out.step hG.out); replace VU := Lib.hid (VU.out.1.same hG.out); replace VV := Lib.hid (VV.out.1.same hG.out); replace HS := Lib.hid (HS.out.step hG.out)
        clear hO hO2 hG HG8
        go_wp2_with fail
        refine (Apply_any HM.out.rows HOK.out VU.out HUL.out (fun y hy => by have := HUB.out y hy; omega)).mono ?_
        rintro e w11 ⟨vx, rfl, ho, hg⟩
        obtain ⟨gx, cx, rfl⟩ := own_res ho (by rw [List.length_map]; exact HOK.out.1) hr1
        have OX := Lib.hid ho; replace HM := Lib.hid (HM.out.step hg); replace VV := Lib.hid (VV.out.same hg); replace VS := Lib.hid (VS.out.same hg); replace HS := Lib.hid (HS.out.step hg)
        clear ho hg
        go_wp2_with fail
        refine (Apply_any HM.out.rows HOK.out VV.out HVL.out (fun y hy => by have := HVB.out y hy; omega)).mono ?_
        rintro e w12 ⟨vy, rfl, ho, hg⟩
        obtain ⟨gy, cy, rfl⟩ := own_res ho (by rw [List.length_map]; exact HOK.out.1) hr1
        have OY := Lib.hid ho; replace OX := Lib.hid (OX.out.kept hg (by simp)); replace HM := Lib.hid (HM.out.step hg); replace VS := Lib.hid (VS.out.same hg); replace HS := Lib.hid (HS.out.step hg)
        clear ho hg
        go_wp2_with fail
        refine (Apply_any HM.out.rows HOK.out VS.out HSM.out (fun y hy => by have := HSB.out y hy; omega)).mono ?_
        rintro e w13 ⟨vz, rfl, ho, hg⟩
        obtain ⟨gz, cz, rfl⟩ := own_res ho (by rw [List.length_map]; exact HOK.out.1) hr1
        have OZ := Lib.hid ho; replace OX := Lib.hid (OX.out.kept hg (by simp)); replace OY := Lib.hid (OY.out.kept hg (by simp)); replace HS := Lib.hid (HS.out.step hg)
        clear ho hg
        have k1 : ((r : Int) != (r : Int)) = false := by simp
        go_wp2_with fail
        have HGZ := Lib.hid (grown_refl w13 none)
        go_loopw [111] (fun i wr => ∃ k : Nat, i = .int .i64 k ∧ k ≤ r ∧ Hid (w13.grownBy wr none)) (fun i _ => r - (intOf i).toNat)
        case atStart => exact ⟨0, rfl, Nat.zero_le _, HGZ⟩
        case round =>
          obtain ⟨k, rfl, hk, hG⟩ := hrel
          rename World => wk
          by_cases hkb : k < r
          · have h5 : (k : Int) < (r : Int) := by omega
            have i1 : IntKind.i64.wrap ((k : Int) + 1) = (k : Int) + 1 := IntWalk.i64_in _ (by omega)
            have hpl := HOK.out.1
            have hkp : k < ps.length := by omega
            have hX := hG.out.cell (OX.out.cell k (by rw [List.length_map]; omega)).1 (by simp)
            have hY := hG.out.cell (OY.out.cell k (by rw [List.length_map]; omega)).1 (by simp)
            have hZ := hG.out.cell (OZ.out.cell k (by rw [List.length_map]; omega)).1 (by simp)
            rw [map_at hkp] at hX hY hZ
            have hq := HOK.out.2.2.2.2.2.2 _ (List.getElem_mem hkp)
            rw [dot_lin _ _ _ (by rw [hq.1, HUL.out]) (by rw [hq.1, HVL.out])] at hZ
            have bX := dot_bd (A := 16) (B := 9) ps[k].2 us hq.2 (fun y hy => by have := HUB.out y hy; omega) (by decide)
            have bY := dot_bd (A := 16) (B := 9) ps[k].2 vs hq.2 (fun y hy => by have := HVB.out y hy; omega) (by decide)
            rw [hq.1] at bX bY
            generalize dotL ps[k].2 us = x at *
            generalize dotL ps[k].2 vs = y at *
            have m1 : IntKind.i64.wrap (2 * y) = 2 * y := IntWalk.i64_in _ (by omega)
            have m2 : IntKind.i64.wrap (x - 2 * y) = x - 2 * y := IntWalk.i64_in _ (by omega)
            have m3 : ((x - 2 * y) != (x - 2 * y)) = false := by simp
            clear hpl hkp hq bX bY
            go_wp2_with fail
            go_big_quiet (fail)
            have HGN := Lib.hid (grown_trans hG.out (grown_drewN wk nq none))
            generalize wk.drewN nq = wd at *
            go_wp2_with fail
            go_roundw
            case rel => exact ⟨k + 1, by go_num, by omega, HGN⟩
            case measure => simp [intOf]; omega
          · obtain rfl : k = r := by omega
            have h5 : ¬ (k : Int) < (k : Int) := by omega
            go_wp2_with fail
            go_ret
            exact ⟨rfl, (HS.out.step hG.out).below⟩
  · go_enter Try.func7, Try.ntmps7
    go_wp2_with fail
    refine (awake10_any _).mono ?_
    rintro e w1 ⟨rfl, hg⟩
    have HG := Lib.hid hg
    clear hg
    go_wp2_with fail
    refine (few_any _ _ _ _).mono ?_
    rintro e w2 ⟨rfl, rfl⟩
    rw [decide_eq_false (by omega)]
    go_wp2_with fail
    refine (awake10_any _).mono ?_
    rintro e w3 ⟨rfl, hg⟩
    have HG := Lib.hid (grown_trans HG.out hg)
    clear hg
    go_wp2_with fail
    go_ret
    exact ⟨rfl, below_of HG.out⟩

/-! ### MatrixLinear: the statement, from its walk -/
set_option maxRecDepth 100000 in
theorem liftedMatrixLinear (os : Os) (started : os.Started) (H : Type) (enc : TypeId × Value → H) :
    ReturnsInHanded {} Try.checked os 7 .any (Rows.matrixLinearSpec.pre6 enc Try.prog Try.f7 Rows.matrixLinearRow.domain false) (Rows.matrixLinearSpec.post enc Try.prog Try.f7 false true false false) := by
  refine returnsInHanded_of_change (C := Try.checked) own started (by kernel_rfl) Try.func7
    (ChangeSpec.witness6 (enc := enc) (C := Try.checked) false ⟨#[], #[.slice none 0 0], []⟩ 8 (by kernel_rfl) (by kernel_rfl) (by kernel_rfl) (by kernel_rfl)) ?_
  intro W base args ds gs before hval0 hW hcnd _
  have hval : ∀ (j : Nat) t v, Try.f7.params[j]? = some t → args[j]? = some v → Value.okWide Try.prog W .any base t v := hval0
  have hW' := hW
  obtain ⟨p, q, hA0, hV, rfl, hfz, hnd⟩ := hW
  have hA : DataW.TrodAll enc Try.prog W 0 (fun _ => true) true Try.f7.params.toList args.toList ds p := hA0
  rw [Try.params7] at hA hval
  obtain ⟨v0, vs0, d0, ds0, p0, q0, hargs, rfl, rfl, h0, r0⟩ := trodAll_cons hA
  obtain ⟨rfl, rfl, rfl⟩ := trodAll_nil r0
  obtain rfl : args = #[v0] := by cases args; simp_all
  obtain ⟨rfl, rfl⟩ := trodVars_none hV
  obtain ⟨a0, len0, cap0, rfl⟩ := okWide_slice Try.underlying22 (hval 0 22 v0 rfl rfl)
  have k0 := h0
  have lt0 : ∀ x ∈ p0, x.block < W.heap.size := by obtain ⟨m, hm⟩ := k0; exact DataW.trod_lt m _ _ _ hm
  obtain ⟨z0, w0⟩ : ∃ zs, IsRow .i64 W a0 len0 cap0 zs := by
    obtain ⟨fuel, hf⟩ := h0
    rcases open_ints Try.underlying22 Try.underlying3 (by kernel_rfl) hf with ⟨hcs, _⟩ | ⟨x, l, c, zs, hcs, _, hl, hm, hz, _, hcell, hwz⟩
    · simp [Value.cells] at hcs
      obtain ⟨rfl, rfl, rfl⟩ := hcs
      exact ⟨[], .inl ⟨rfl, rfl, rfl, rfl⟩⟩
    · simp [Value.cells] at hcs
      obtain ⟨rfl, rfl, rfl⟩ := hcs
      exact ⟨zs, .inr ⟨_, rfl, hl, hm, by simpa using hz, hcell, hwz⟩⟩
  clear hA0 hval0
  refine (walkMatrixLinear a0 len0 cap0 z0 W w0).mono fun e W' ⟨he, bel⟩ => ?_
  subst he
  exact ⟨_, rfl, _, _, _, [], _, [], hW', trodAll_mk1 (shut_bool Try.underlying4 _), (trodAll_cons_mk (Below.trod laidOut (by kernel_rfl) (of_decide_eq_true (by kernel_rfl)) k0 bel lt0) trodAll_mk0), rfl, bel.frame _, fun h => by cases h⟩

theorem matrixLinear_holds : Rows.MatrixLinearSaid :=
  OpenClaim.holds_of_wide 7 Try.f7 rfl rfl rfl rfl rfl rfl rfl ⟨rfl, rfl, rfl, rfl, rfl⟩ rfl rfl rfl rfl rfl (by kernel_rfl) Try.func7 (by kernel_rfl)
    (of_decide_eq_true (by kernel_rfl)) (by unfold Func.isWrapper; first | (rw [if_pos (by decide +kernel)]; kernel_rfl) | (rw [if_neg (by decide +kernel)]; exact ⟨rfl, rfl⟩))
    (fun os started H enc _ => liftedMatrixLinear os started H enc)
#print axioms matrixLinear_holds
end Go.Proofs.Ytpnghgihepnepaa
