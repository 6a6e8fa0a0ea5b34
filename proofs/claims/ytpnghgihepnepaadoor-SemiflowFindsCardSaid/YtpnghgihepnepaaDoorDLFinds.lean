/- SemiflowFinds: for every input it answers true. -/
import Derived.Test.YtpnghgihepnepaaDoorDe
import Derived.Test.YtpnghgihepnepaaDoorGr
import Derived.Test.YtpnghgihepnepaaDoorDt
import Derived.Test.YtpnghgihepnepaaDoorCards
import Derived.Test.YtpnghgihepnepaaDoorTie
import Derived.StillTailTactics
import Derived.Outline
import Derived.BigRegion
import Derived.Deep.RegionHeld3
namespace Go.Proofs.YtpnghgihepnepaaDoor
open Go.ChangeShapes Go.WideShapes Go.ChangeAt Go.RowKit
set_option linter.unusedVariables false

set_option maxRecDepth 100000 in
set_option maxHeartbeats 2000000 in
theorem walkSemiflowFinds (a0 : Option Addr) (len0 cap0 : Nat) (z0 : List Int) (w : World) (w0 : IsRow .i64 w a0 len0 cap0 z0) (hT : TabW w) :
    Calls Tryd.prog 5 #[.slice a0 len0 cap0] w fun e w' => e = .returned (.bool true) ∧ Below w.heap.size w w' := by
  obtain ⟨hI, hlen⟩ := w0.ints
  generalize z0.take len0 = zs at hI hlen
  subst hlen
  have HI := Lib.hid hI; have HT := Lib.hid hT
  clear hI w0 hT
  by_cases hfew : (zs.length : Int) ≤ 400
  · go_enter Tryd.func5, Tryd.ntmps5
    go_wp2_with fail
    refine (awake11_any _ HT.out).mono ?_
    rintro e w1 ⟨rfl, hg⟩
    have HG := Lib.hid hg
    clear hg
    go_wp2_with fail
    refine (few_any _ _ _ _).mono ?_
    rintro e w2 ⟨rfl, rfl⟩
    rw [decide_eq_true hfew]
    go_wp2_with fail
    refine (new_st (HI.out.same HG.out) HG.out).mono ?_
    rintro e w3 ⟨p, d, rfl, hs⟩
    have HS := Lib.hid hs
    clear hs HG HI
    go_wp2_with fail
    refine (next_st HS.out _ (by omega) (by omega)).mono ?_
    rintro e w4 ⟨y, rfl, hy0, hy1, hs, hg⟩
    replace HS := Lib.hid hs
    clear hs hg
    obtain ⟨r, hr⟩ : ∃ r : Nat, 1 + y = (r : Int) := ⟨(1 + y).toNat, by omega⟩
    have hr1 : 1 ≤ r := by omega
    have hr2 : r ≤ 4 := by omega
    have ir : IntKind.i64.wrap (1 + y) = (r : Int) := by rw [hr]; exact IntWalk.i64_in _ (by omega)
    clear hr hy0 hy1
    go_wp2_with fail
    refine (next_st HS.out _ (by omega) (by omega)).mono ?_
    rintro e w5 ⟨y, rfl, hy0, hy1, hs, hg⟩
    replace HS := Lib.hid hs
    clear hs hg
    obtain ⟨c, hc⟩ : ∃ c : Nat, 1 + y = (c : Int) := ⟨(1 + y).toNat, by omega⟩
    have hc1 : 1 ≤ c := by omega
    have hc2 : c ≤ 2 := by omega
    have ic : IntKind.i64.wrap (1 + y) = (c : Int) := by rw [hc]; exact IntWalk.i64_in _ (by omega)
    clear hc hy0 hy1
    go_wp2_with fail
    clear ir ic
    refine (matrix_st HS.out r c (by omega) (by omega)).mono ?_
    rintro e w6 ⟨vm, ps, rfl, hpl, hdm, hM, hs, hg⟩
    have HM := Lib.hid (MatD.mk HS.out hM)
    replace HS := Lib.hid hs; have HOK := Lib.hid (dealt_ok hpl hdm hr1 (by omega) hc1 (by omega) (by omega))
    clear hpl hdm hM hs hg
    have HTW := Lib.hid (HT.out.same HS.out.2.1)
    obtain ⟨C, hC⟩ : ∃ C, C = ps.map Prod.snd := ⟨_, rfl⟩
    have HC := Lib.hid hC
    have HCL : Hid (C.length = r) := Lib.hid (by rw [hC, List.length_map]; exact HOK.out.1)
    go_wp2_with fail
    refine (of_far HM.out.rows HOK.out (by omega) HTW.out).mono ?_
    rintro e w7 ⟨vf, fs, rfl, hF, hfar, hL, -, hg⟩
    rw [← hC] at hL
    have HF := Lib.hid hF; have HL := Lib.hid hL
    have HFAR := Lib.hid hfar; have HDB : Hid (d < w6.heap.size) := Lib.hid HS.out.lt
    generalize w6.heap.size = base at *
    replace HM := Lib.hid (HM.out.step hg); replace HS := Lib.hid (HS.out.step hg)
    obtain ⟨af, cf, rfl, -⟩ : ∃ a cap, vf = .slice a fs.length cap ∧ True := by obtain ⟨a, cap, h, -⟩ := hF; exact ⟨a, cap, h, trivial⟩
    have hfl : fs.length ≤ maxLen := by obtain ⟨_, _, -, h, -⟩ := hF; exact h
    unfold maxLen at hfl
    clear hF hL hg hC HTW hfar
    go_wp2_with fail
    go_loopw [8] (fun i wr => ∃ k : Nat, i = .int .i64 k ∧ k ≤ 12 ∧ Hid (St w wr p d) ∧ Hid (MatD wr d vm ps) ∧ Hid (RowsP wr (.slice af fs.length cf) fs)) (fun i _ => 12 - (intOf i).toNat)
    case atStart => exact ⟨0, rfl, Nat.zero_le _, HS, HM, HF⟩
    case round =>
      clear HS HM HF
      obtain ⟨i, rfl, hi, HS, HM, HF⟩ := hrel
      rename World => wk
      by_cases hib : i < 12
      · have h3 : (i : Int) < 12 := by omega
        have i1 : IntKind.i64.wrap ((i : Int) + 1) = (i : Int) + 1 := IntWalk.i64_in _ (by omega)
        go_wp2_with fail
        refine (small_st HS.out (r : Int) 3 (by omega) (by omega) (by omega)).mono ?_
        rintro e w8 ⟨vy, y, rfl, hyl, hyp, hY, hs, hg⟩
        have hyl2 : y.length = r := by omega
        replace HF := Lib.hid (HF.out.far HFAR.out HDB.out hg); replace HM := Lib.hid (HM.out.deal hg); replace HS := Lib.hid hs
        have HYL := Lib.hid hyl2; have HY := Lib.hid hY; have HYP := Lib.hid hyp
        obtain ⟨ay, cy, rfl, -⟩ := hY.slice
        clear hs hg hyl hyl2 hY hyp
        rw [HYL.out] at HY ⊢
        go_wp2_with fail
        refine (holds_any HM.out.rows HOK.out (by omega) HY.out.1 HYL.out (fun x hx => by have := HYP.out x hx; omega)).mono ?_
        rintro e w9 ⟨bb, rfl, hbb, hw⟩
        subst hw
        have HBB := Lib.hid hbb
        clear hbb
        cases bb with
        | false =>
          go_wp2_with fail
          go_roundw
          case rel => exact ⟨i + 1, by go_num, by omega, HS, HM, HF⟩
          case measure => simp [intOf]; omega
        | true =>
          have HG := Lib.hid (grown_refl w9 none)
          have HEX : Hid (∃ (j : Nat) (hj : j < fs.length), ∀ q, q < r → fs[j].2[q]?.getD 0 = 0 ∨ 0 < y[q]?.getD 0) := Lib.hid (by
            have h1 := HBB.out.1 rfl
            rw [← HC.out] at h1
            have h2 := HL.out.within HCL.out (by omega) h1.1 (fun i => by
              cases e : y[i]? with
              | none => simp
              | some x => exact (HYP.out x (List.mem_of_getElem? e)).1) h1.2
            obtain ⟨j, hj, h3⟩ := h2
            rw [List.length_map] at hj
            exact ⟨j, hj, fun q hq => by have := h3 q hq; rwa [List.getElem_map] at this⟩)
          clear HBB
          go_wp2_with fail
          go_loopw [54, 10] (fun k' f' wr => ∃ (k : Nat) (f : Bool), k' = .int .i64 k ∧ f' = .bool f ∧ k ≤ fs.length ∧ Hid ((∃ (j : Nat) (hj : j < fs.length), j < k ∧ ∀ q, q < r → fs[j].2[q]?.getD 0 = 0 ∨ 0 < y[q]?.getD 0) → f = true) ∧ Hid (w9.grownBy wr none)) (fun k' _ _ => fs.length - (intOf k').toNat)
          case atStart => exact ⟨0, false, rfl, rfl, Nat.zero_le _, Lib.hid (fun ⟨j, hj, h1, _⟩ => by omega), HG⟩
          case round =>
            clear HG
            obtain ⟨k, f, rfl, rfl, hk, HFO, HG⟩ := hrel
            rename World => wt
            by_cases hkb : k < fs.length
            · have h4 : (k : Int) < (fs.length : Int) := by omega
              have i3 : IntKind.i64.wrap ((k : Int) + 1) = (k : Int) + 1 := IntWalk.i64_in _ (by omega)
              obtain ⟨bf', off', a3, c3, rfl, hcg, hrj⟩ := row_ints HF.out hkb
              have hyl2 : fs[k].2.length = r := by rw [(fl_bd HL.out hkb).1, HCL.out]
              rw [hyl2] at hcg hrj
              have HRJ := Lib.hid hrj
              have hcg2 := HG.out.cell hcg (by simp)
              have HXL := Lib.hid hyl2
              have HFN : Hid (∀ b : Bool, ((∀ q, q < r → fs[k].2[q]?.getD 0 = 0 ∨ 0 < y[q]?.getD 0) → b = true) → (∃ (j : Nat) (hj : j < fs.length), j < k + 1 ∧ ∀ q, q < r → fs[j].2[q]?.getD 0 = 0 ∨ 0 < y[q]?.getD 0) → f = true ∨ b = true) := Lib.hid (fun b hb ⟨j, hj, h1, h2⟩ => by
                by_cases e : j = k
                · subst e; exact .inr (hb h2)
                · exact .inl (HFO.out ⟨j, hj, by omega, h2⟩))
              generalize fs[k].2 = x at *
              clear hcg hrj hyl2 HFO
              go_wp2_with fail
              clear hcg2
              go_loopw [60, 13] (fun p' b' wr => ∃ (q : Nat) (b : Bool), p' = .int .i64 q ∧ b' = .bool b ∧ q ≤ r ∧ Hid ((∀ t, t < q → x[t]?.getD 0 = 0 ∨ 0 < y[t]?.getD 0) → b = true) ∧ Hid (w9.grownBy wr none)) (fun p' _ _ => r - (intOf p').toNat)
              case atStart => exact ⟨0, true, rfl, rfl, Nat.zero_le _, Lib.hid (fun _ => rfl), HG⟩
              case round =>
                clear HG
                obtain ⟨pp, b, rfl, rfl, hp, HBB, HG⟩ := hrel
                rename World => we
                by_cases hpb : pp < r
                · have h5 : (pp : Int) < (r : Int) := by omega
                  have i4 : IntKind.i64.wrap ((pp : Int) + 1) = (pp : Int) + 1 := IntWalk.i64_in _ (by omega)
                  cases b with
                  | false =>
                    go_wp2_with fail
                    go_roundw
                    case rel => exact ⟨pp + 1, false, by go_num, rfl, by omega, Lib.hid (fun h => HBB.out (fun t ht => h t (by omega))), HG⟩
                    case measure => simp [intOf]; omega
                  | true =>
                    obtain ⟨_, _, hxv, -, -, hxc⟩ := HRJ.out
                    simp only [Value.slice.injEq] at hxv
                    obtain ⟨rfl, -, rfl⟩ := hxv
                    obtain ⟨bx, ox, rfl, hcx⟩ := Ints.at hxc (show pp < x.length by have := HXL.out; omega)
                    obtain ⟨_, _, hxv, -, -, hyc⟩ := HY.out.1
                    simp only [Value.slice.injEq] at hxv
                    obtain ⟨rfl, -, rfl⟩ := hxv
                    obtain ⟨by', oy, rfl, hcy⟩ := Ints.at hyc (show pp < y.length by have := HYL.out; omega)
                    have hcx2 := HG.out.cell hcx (by simp)
                    have hcy2 := HG.out.cell hcy (by simp)
                    obtain ⟨u, hu⟩ : ∃ u, x[pp]?.getD 0 = u := ⟨_, rfl⟩
                    obtain ⟨v, hv⟩ : ∃ v, y[pp]?.getD 0 = v := ⟨_, rfl⟩
                    rw [hu] at hcx2
                    rw [hv] at hcy2
                    have HU := Lib.hid hu; have HV := Lib.hid hv
                    clear hxc hyc hcx hcy hu hv
                    by_cases hu0 : u = 0
                    · subst hu0
                      have q2 : ((0 : Int) == 0) = true := by decide
                      go_wp2_with fail
                      clear hcx2 hcy2
                      go_roundw
                      case rel => exact ⟨pp + 1, true, by go_num, rfl, by omega, Lib.hid (fun _ => rfl), HG⟩
                      case measure => simp [intOf]; omega
                    · have q2 : (u == 0) = false := by simpa using hu0
                      have HU0 := Lib.hid hu0
                      clear hu0
                      by_cases hv0 : 0 < v
                      · have q4 : decide (0 < v) = true := by simpa using hv0
                        clear hv0
                        go_wp2_with fail
                        clear hcx2 hcy2
                        go_roundw
                        case rel => exact ⟨pp + 1, true, by go_num, rfl, by omega, Lib.hid (fun _ => rfl), HG⟩
                        case measure => simp [intOf]; omega
                      · have q4 : decide (0 < v) = false := by simpa using hv0
                        have HV0 := Lib.hid hv0
                        clear hv0
                        go_wp2_with fail
                        clear hcx2 hcy2
                        go_roundw
                        case rel => exact ⟨pp + 1, false, by go_num, rfl, by omega, Lib.hid (fun h => by
                          rcases h pp (by omega) with h1 | h1
                          · exact absurd (HU.out.symm.trans h1) HU0.out
                          · rw [HV.out] at h1; exact absurd h1 HV0.out), HG⟩
                        case measure => simp [intOf]; omega
                · obtain rfl : pp = r := by omega
                  have h5 : ¬ (pp : Int) < (pp : Int) := by omega
                  have HFM := Lib.hid (HFN.out b HBB.out)
                  cases f with
                  | false =>
                    go_wp2_with fail
                    go_roundw
                    case rel => exact ⟨k + 1, b, by go_num, rfl, by omega, Lib.hid (fun h => by rcases HFM.out h with h1 | h1; cases h1; exact h1), HG⟩
                    case measure => simp [intOf]; omega
                  | true =>
                    go_wp2_with fail
                    go_roundw
                    case rel => exact ⟨k + 1, true, by go_num, rfl, by omega, Lib.hid (fun _ => rfl), HG⟩
                    case measure => simp [intOf]; omega
            · obtain rfl : k = fs.length := by omega
              have h4 : ¬ (fs.length : Int) < (fs.length : Int) := by omega
              obtain rfl : f = true := HFO.out (by obtain ⟨j, hj, h⟩ := HEX.out; exact ⟨j, hj, hj, h⟩)
              go_wp2_with fail
              go_roundw
              case rel => exact ⟨i + 1, by go_num, by omega, Lib.hid (HS.out.step HG.out), Lib.hid (HM.out.step HG.out), Lib.hid (HF.out.same HG.out)⟩
              case measure => simp [intOf]; omega
      · obtain rfl : i = 12 := by omega
        have h3 : ¬ ((12 : Nat) : Int) < 12 := by omega
        go_wp2_with fail
        go_ret
        exact ⟨rfl, HS.out.below⟩
  · go_enter Tryd.func5, Tryd.ntmps5
    go_wp2_with fail
    refine (awake11_any _ HT.out).mono ?_
    rintro e w1 ⟨rfl, hg⟩
    have HG := Lib.hid hg
    clear hg
    go_wp2_with fail
    refine (few_any _ _ _ _).mono ?_
    rintro e w2 ⟨rfl, rfl⟩
    rw [decide_eq_false (by omega)]
    go_wp2_with fail
    refine (awake11_any _ (HT.out.same HG.out)).mono ?_
    rintro e w3 ⟨rfl, hg⟩
    have HG := Lib.hid (grown_trans HG.out hg)
    clear hg
    go_wp2_with fail
    go_ret
    exact ⟨rfl, below_of HG.out⟩


/-! ### SemiflowFinds: the statement and its card, from the walk -/
theorem contractSemiflowFinds (H : Type) (enc : TypeId × Value → H) (W : World) (base : Nat) (args : Array Value) (ds gs : List (DataW H)) (before : List MemPlace)
    (hval0 : ∀ (j : Nat) t v, Tryd.f5.params[j]? = some t → args[j]? = some v → Value.okWide Tryd.prog W .any base t v)
    (hW : DataW.Whole enc Tryd.prog Tryd.f5.params.toList Rows.semiflowFindsSpec.vars false W args.toList ds gs before) (hL : laidMetH Tryd.prog Rows.semiflowFindsRow.laid W) :
    Calls Tryd.prog 5 args W fun e W' => ∃ v, e = .returned v ∧ Rows.semiflowFindsSpec.post enc Tryd.prog Tryd.f5 false true false false W args v W' := by
  have hval : ∀ (j : Nat) t v, Tryd.f5.params[j]? = some t → args[j]? = some v → Value.okWide Tryd.prog W .any base t v := hval0
  have hW' := hW
  obtain ⟨p, q, hA0, hV, rfl, hfz, hnd⟩ := hW
  have hA : DataW.TrodAll enc Tryd.prog W 0 (fun _ => true) true Tryd.f5.params.toList args.toList ds p := hA0
  rw [Tryd.params5] at hA hval
  obtain ⟨v0, vs0, d0, ds0, p0, q0, hargs, rfl, rfl, h0, r0⟩ := trodAll_cons hA
  obtain ⟨rfl, rfl, rfl⟩ := trodAll_nil r0
  obtain rfl : args = #[v0] := by cases args; simp_all
  obtain ⟨rfl, rfl⟩ := trodVars_none hV
  obtain ⟨a0, len0, cap0, rfl⟩ := okWide_slice Tryd.underlying22 (hval 0 22 v0 rfl rfl)
  have k0 := h0
  have lt0 : ∀ x ∈ p0, x.block < W.heap.size := by obtain ⟨m, hm⟩ := k0; exact DataW.trod_lt m _ _ _ hm
  obtain ⟨z0, w0⟩ : ∃ zs, IsRow .i64 W a0 len0 cap0 zs := by
    obtain ⟨fuel, hf⟩ := h0
    rcases open_ints Tryd.underlying22 Tryd.underlying3 (by kernel_rfl) hf with ⟨hcs, _⟩ | ⟨x, l, c, zs, hcs, _, hl, hm, hz, _, hcell, hwz⟩
    · simp [Value.cells] at hcs
      obtain ⟨rfl, rfl, rfl⟩ := hcs
      exact ⟨[], .inl ⟨rfl, rfl, rfl, rfl⟩⟩
    · simp [Value.cells] at hcs
      obtain ⟨rfl, rfl, rfl⟩ := hcs
      exact ⟨zs, .inr ⟨_, rfl, hl, hm, by simpa using hz, hcell, hwz⟩⟩
  clear hA0 hval0
  refine (walkSemiflowFinds a0 len0 cap0 z0 W w0 (tabW_of hL)).mono fun e W' ⟨he, bel⟩ => ?_
  subst he
  exact ⟨_, rfl, _, _, _, [], _, [], hW', trodAll_mk1 (shut_bool Tryd.underlying4 _), (trodAll_cons_mk (Below.trod laidOut (by kernel_rfl) (of_decide_eq_true (by kernel_rfl)) k0 bel lt0) trodAll_mk0), rfl, bel.frame _, fun h => by cases h⟩
theorem readsSemiflowFinds (os : Os) {H : Type} (enc : TypeId × Value → H) : ∃ places, DataW.whole enc Tryd.prog ((laidWorld os).forCall (fun _ _ => 0) ⟨#[], #[.slice none 0 0], []⟩).memory Tryd.f5.params.toList Rows.semiflowFindsSpec.vars false #[Value.slice none 0 0].toList 8 = some ([.nil], [], places) :=
  ⟨[], by kernel_rfl⟩
set_option maxRecDepth 100000 in
theorem liftedSemiflowFinds (os : Os) (started : os.Started) (H : Type) (enc : TypeId × Value → H) (F : Stop.Interp) :
    ReturnsInHanded {} Tryd.checked os 5 .any ((OpenSpec.ofChange Rows.semiflowFindsSpec).preRow enc Tryd.prog Tryd.f5 Rows.semiflowFindsRow.domain false Rows.semiflowFindsRow.laid) (((OpenSpec.ofChange Rows.semiflowFindsSpec).at F).post enc Tryd.prog Tryd.f5 false true false false) := by
  obtain ⟨places, hx⟩ := readsSemiflowFinds os enc
  refine returnsInHanded_of_row (C := Tryd.checked) (s := OpenSpec.ofChange Rows.semiflowFindsSpec) ownK started (by kernel_rfl) Tryd.func5
    (witness_row_at (enc := enc) (C := Tryd.checked) false (laidWorld os) #[.slice none 0 0] rfl (by kernel_rfl) (by kernel_rfl) (by kernel_rfl)
      (OpenSpec.preRow_of_cond 8 hx (by kernel_rfl) (fun k hk => by cases hk) (by kernel_rfl) (laid_met os))) ?_
  intro W base args ds gs before hval hW _ _ _ hL _ _
  exact contractSemiflowFinds H enc W base args ds gs before hval hW hL
theorem semiflowFinds_said : Rows.SemiflowFindsSaid :=
  OpenClaim.holds_of_cond 5 Tryd.f5 rfl rfl rfl rfl rfl rfl rfl ⟨rfl, rfl, rfl, rfl, rfl⟩ rfl rfl rfl rfl rfl (by kernel_rfl) Tryd.func5 (by kernel_rfl)
    (of_decide_eq_true (by kernel_rfl)) (by unfold Func.isWrapper; first | (rw [if_pos (by decide +kernel)]; kernel_rfl) | (rw [if_neg (by decide +kernel)]; exact ⟨rfl, rfl⟩))
    (fun os started H enc _ F => by rw [OpenClaim.pre_eq_preRow]; exact liftedSemiflowFinds os started H enc F)
theorem plainSemiflowFinds (f : FuncId) (fn : Func) (hf : Tryd.pinned.checked.prog.funcNamed "coverability/coverabilitylaw11.SemiflowFinds" = some f) (hfn : Tryd.pinned.checked.prog.funcs[f]? = some fn) :
    false = Tryd.pinned.checked.prog.looks [] ∧ ∀ (j : Nat) t, fn.params[j]? = some t → Tryd.pinned.checked.prog.wantsStandIn t = false := by
  obtain rfl : f = 5 := Option.some.inj ((show Tryd.prog.funcNamed "coverability/coverabilitylaw11.SemiflowFinds" = some 5 by kernel_rfl).symm.trans hf) |>.symm
  obtain rfl : fn = Tryd.f5 := (Option.some.inj (Tryd.func5.symm.trans hfn)).symm
  refine ⟨by kernel_rfl, fun j t ht => ?_⟩
  rw [Tryd.params5] at ht
  obtain rfl : t = 22 := by simpa using Array.mem_of_getElem? ht
  exact (show Tryd.prog.wantsStandIn 22 = false by kernel_rfl)
theorem semiflowFinds_card : Rows.SemiflowFindsCardSaid :=
  Claim7.holds_tied_plain_at .later [] _ _ _ _ semiflowFinds_said (fun _ h => by cases h) (by kernel_rfl) (fun _ h => by cases h) semiflowFinds_row_tie rfl ⟨rfl, rfl⟩ (by kernel_rfl) rfl plainSemiflowFinds (by kernel_rfl)
#print axioms semiflowFinds_card
end Go.Proofs.YtpnghgihepnepaaDoor
