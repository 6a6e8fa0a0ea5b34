/- MultisetMatches: for every input it answers true. -/
import Derived.Test.YtnppmemcdcgjhaaHl
namespace Go.Proofs.Ytnppmemcdcgjhaa
open Go.ChangeShapes Go.WideShapes Go.ChangeAt Go.RowKit
set_option linter.unusedVariables false

theorem ownI_openM {w : World} {base : Nat} {v : Value} {m : List Nat} (h : OwnI w base v (m.map Int.ofNat)) : ∃ a c, v = .slice a (m.map Int.ofNat).length c := by
  rcases h.2 with ⟨hv, h0⟩ | ⟨g, cap, cur, hv, _⟩
  · exact ⟨none, 0, by rw [hv, h0]⟩
  · exact ⟨_, cap, hv⟩
set_option maxRecDepth 100000 in
set_option maxHeartbeats 2000000 in
theorem walkMultisetMatches (a0 : Option Addr) (len0 cap0 : Nat) (z0 : List Int) (w : World) (w0 : IsRow .i64 w a0 len0 cap0 z0) :
    Calls Try.prog 4 #[.slice a0 len0 cap0] w fun e w' => e = .returned (.bool true) ∧ Below w.heap.size w w' := by
  obtain ⟨hI, hlen⟩ := w0.ints
  generalize z0.take len0 = zs at hI hlen
  subst hlen
  have HI := Lib.hid hI
  clear hI w0
  by_cases hfew : (zs.length : Int) ≤ 400
  · go_enter Try.func4, Try.ntmps4
    go_wp2_with fail
    refine (awake03_any _).mono ?_
    rintro e w1 ⟨rfl, hg⟩
    have HG := Lib.hid hg
    clear hg
    go_wp2_with fail
    refine (few_any _ _ _ _).mono ?_
    rintro e w2 ⟨rfl, rfl⟩
    rw [decide_eq_true hfew]
    go_wp2_with fail
    refine (new_st (HI.out.same HG.out) HG.out).mono ?_
    rintro e w3 ⟨p, d, rfl, hs⟩
    have HS := Lib.hid hs
    clear hs HG HI
    go_wp2_with fail
    refine (next_st HS.out _ (by omega) (by omega)).mono ?_
    rintro e w4 ⟨y, rfl, hy0, hy1, hs, hg⟩
    replace HS := Lib.hid hs
    clear hs hg
    obtain ⟨r, hr⟩ : ∃ r : Nat, y = (r : Int) := ⟨(y).toNat, by omega⟩
    have hr1 : 0 ≤ r := by omega
    have hr2 : r ≤ 4 := by omega
    subst hr
    clear hy0 hy1
    go_wp2_with fail
    refine (next_st HS.out _ (by omega) (by omega)).mono ?_
    rintro e w5 ⟨y, rfl, hy0, hy1, hs, hg⟩
    replace HS := Lib.hid hs
    clear hs hg
    obtain ⟨c, hc⟩ : ∃ c : Nat, 1 + y = (c : Int) := ⟨(1 + y).toNat, by omega⟩
    have hc1 : 1 ≤ c := by omega
    have hc2 : c ≤ 5 := by omega
    skip
    go_wp2_with fail
    skip
    clear hc hy0 hy1
    refine (table_st HS.out r c (by omega) (by omega)).mono ?_
    rintro e w6 ⟨v, ps, rfl, htd, hpl, hpc, hs, hg⟩
    obtain ⟨av, cv, rfl⟩ := htd.open
    obtain rfl : ps.length = r := hpl
    replace HS := Lib.hid hs; have V := Lib.hid htd; have HPC := Lib.hid hpc
    have HVL : Hid (validT (ps.map Prod.snd) = true) := Lib.hid (valid_tab (by omega) hpc (by omega))
    have HTL : Hid ((ps.map Prod.snd).length = ps.length) := Lib.hid (by simp)
    clear hs hg htd hpc hr1
    go_wp2_with fail
    refine (Match_any _ ps _ V.out.1 HVL.out (fun p hp => by rw [HPC.out p hp]; exact hc1)).mono ?_
    rintro e w7 ⟨n, hn, hg, hres⟩
    have HN := Lib.hid hn; have HS0 := Lib.hid HS.out.lt
    replace V := Lib.hid (V.out.step hg); replace HS := Lib.hid (HS.out.step hg)
    rcases hres with ⟨hlt, rfl⟩ | ⟨hne, vm, m, rfl, ho, hpm, hmin⟩
    · rw [HTL.out] at hlt
      have HLT := Lib.hid hlt
      clear hn hg
      go_wp2_with fail
      refine (Most_any _ ps _ V.out.1 HVL.out).mono ?_
      rintro e w8 ⟨n2, rfl, hn2, hg⟩
      obtain rfl := hn2.eq HN.out
      replace V := Lib.hid (V.out.step hg); replace HS := Lib.hid (HS.out.step hg)
      skip
      clear hn2 hg
      have hb : (((n2 : Nat) : Int) == (ps.length : Int)) = false := by simp; omega
      go_wp2_with fail
      go_loopw [10] (fun i wr => ∃ k : Nat, i = .int .i64 k ∧ k ≤ 20 ∧ Hid (St w wr p d) ∧ Hid (w8.grownBy wr (some d))) (fun i _ => 20 - (intOf i).toNat)
      case atStart => exact ⟨0, rfl, by omega, HS, Lib.hid (grown_refl _ _)⟩
      case round =>
        obtain ⟨k, rfl, hk, hS, hG⟩ := hrel
        have i1 : IntKind.i64.wrap ((k : Int) + 1) = (k : Int) + 1 := IntWalk.i64_in _ (by omega)
        by_cases hkb : k < 20
        · have h2 : (k : Int) < 20 := by omega
          by_cases hp0 : 0 < ps.length
          · have h3 : (0 : Int) < (ps.length : Int) := by omega
            have VR := Lib.hid (V.out.deal hG.out)
            obtain ⟨a1, c1, hv1, -, hct, hrs⟩ := VR.out.1
            simp only [Value.slice.injEq] at hv1
            obtain ⟨rfl, -, rfl⟩ := hv1
            obtain ⟨b, off, rfl, hc0⟩ := BRowsP.at hct hp0
            rw [Nat.add_zero] at hc0
            obtain ⟨⟨ra, rc, hrv, -, -⟩, -⟩ := hrs _ (List.getElem_mem hp0)
            rw [hrv, HPC.out _ (List.getElem_mem hp0)] at hc0
            have i2 : IntKind.i64.wrap ((c : Int) - 1) = (c : Int) - 1 := IntWalk.i64_in _ (by omega)
            clear hct hrs hrv
            go_wp2_with fail
            refine (small_st hS.out (ps.length : Int) ((c : Int) - 1) (by omega) (by omega) (by omega)).mono ?_
            rintro e w20 ⟨vx, xs, rfl, hxl, -, hvx, hs, hg⟩
            have HX := Lib.hid hvx; have HS2 := Lib.hid hs; have HG2 := Lib.hid (grown_then hG.out hg (fun g e => .inr e))
            have HXL : Hid (xs.length = ps.length) := Lib.hid (by rw [hxl]; simp)
            clear hxl hvx hs hg hc0
            go_wp2_with fail
            refine (ProvesM_any _ _ ps xs _ (V.out.deal HG2.out).1 HX.out.1).mono ?_
            rintro e w21 ⟨Bo, rfl, hB, hg⟩
            have HS3 := Lib.hid (HS2.out.step hg); have HX3 := Lib.hid (HX.out.step hg); have HG3 := Lib.hid (grown_then HG2.out hg (by simp))
            have HB := Lib.hid hB
            clear hB hg
            obtain rfl : Bo = false := by
              cases Bo
              · rfl
              · have := ((HB.out.1 rfl).2).nu HN.out
                rw [HTL.out] at this
                have := HLT.out
                omega
            go_wp2_with fail
            go_roundw
            case rel => exact ⟨k + 1, by go_num, by omega, HS3, HG3⟩
            case measure => simp [intOf]; omega
          · have h3 : ¬ (0 : Int) < (ps.length : Int) := by omega
            go_wp2_with fail
            go_ret
            exact ⟨rfl, hS.out.below⟩
        · have h2 : ¬ (k : Int) < 20 := by omega
          go_wp2_with fail
          go_ret
          exact ⟨rfl, hS.out.below⟩
    · rw [HTL.out] at hne
      have HNE := Lib.hid hne; have HPM := Lib.hid hpm; have HMIN := Lib.hid hmin
      have HML : Hid (m.length = ps.length) := Lib.hid (by rw [hpm.len, HTL.out])
      obtain ⟨am, cm, rfl⟩ := ownI_openM ho
      have HVM := Lib.hid (ho.vec (d := d) (fun x hx => by
        obtain ⟨j, hj, rfl⟩ := List.mem_map.1 hx
        have : j < 12 := by
          obtain ⟨i, hi, rfl⟩ := List.getElem_of_mem hj
          have h1 := hpm.edge i hi
          have h2 : tb (ps.map Prod.snd) i m[i] = true := by rw [cl, List.getElem?_eq_getElem hi, Option.getD_some] at h1; exact h1
          obtain ⟨h3, h4⟩ := tb_lt h2
          have h5 : i < ps.length := by simpa using h3
          have h6 := HPC.out _ (List.getElem_mem h5)
          simp at h4
          omega
        constructor
        · exact Int.le_trans (by decide) (Int.natCast_nonneg j)
        · exact Int.le_trans (Int.ofNat_le.2 (Nat.le_of_lt this)) (by decide)) HS0.out)
      clear hn hg hne ho hpm hmin
      generalize hxm : m.map Int.ofNat = xm at *
      have HXM := Lib.hid hxm
      clear hxm
      go_wp2_with fail
      refine (Most_any _ ps _ V.out.1 HVL.out).mono ?_
      rintro e w8 ⟨n2, rfl, hn2, hg⟩
      obtain rfl := hn2.eq HN.out
      replace V := Lib.hid (V.out.step hg); replace HS := Lib.hid (HS.out.step hg)
      replace HVM := Lib.hid (HVM.out.step hg)
      clear hn2 hg
      have hb : (((n2 : Nat) : Int) == (ps.length : Int)) = true := by have := HNE.out; simp; omega
      go_wp2_with fail
      refine (ProvesM_any _ _ ps _ _ V.out.1 HVM.out.1).mono ?_
      rintro e w9 ⟨Bo, rfl, hB, hg⟩
      obtain rfl : Bo = true := hB.2 ⟨HVL.out, m, HXM.out.symm, HPM.out⟩
      replace V := Lib.hid (V.out.step hg); replace HS := Lib.hid (HS.out.step hg); replace HVM := Lib.hid (HVM.out.step hg)
      clear hB hg hb
      go_wp2_with fail
      go_loopw [10] (fun i wr => ∃ k : Nat, i = .int .i64 k ∧ k ≤ 20 ∧ Hid (St w wr p d) ∧ Hid (w9.grownBy wr (some d))) (fun i _ => 20 - (intOf i).toNat)
      case atStart => exact ⟨0, rfl, by omega, HS, Lib.hid (grown_refl _ _)⟩
      case round =>
        obtain ⟨k, rfl, hk, hS, hG⟩ := hrel
        have i1 : IntKind.i64.wrap ((k : Int) + 1) = (k : Int) + 1 := IntWalk.i64_in _ (by omega)
        by_cases hkb : k < 20
        · have h2 : (k : Int) < 20 := by omega
          by_cases hp0 : 0 < ps.length
          · have h3 : (0 : Int) < (ps.length : Int) := by omega
            have VR := Lib.hid (V.out.deal hG.out)
            obtain ⟨a1, c1, hv1, -, hct, hrs⟩ := VR.out.1
            simp only [Value.slice.injEq] at hv1
            obtain ⟨rfl, -, rfl⟩ := hv1
            obtain ⟨b, off, rfl, hc0⟩ := BRowsP.at hct hp0
            rw [Nat.add_zero] at hc0
            obtain ⟨⟨ra, rc, hrv, -, -⟩, -⟩ := hrs _ (List.getElem_mem hp0)
            rw [hrv, HPC.out _ (List.getElem_mem hp0)] at hc0
            have i2 : IntKind.i64.wrap ((c : Int) - 1) = (c : Int) - 1 := IntWalk.i64_in _ (by omega)
            clear hct hrs hrv
            go_wp2_with fail
            refine (small_st hS.out (ps.length : Int) ((c : Int) - 1) (by omega) (by omega) (by omega)).mono ?_
            rintro e w20 ⟨vx, xs, rfl, hxl, -, hvx, hs, hg⟩
            have HX := Lib.hid hvx; have HS2 := Lib.hid hs; have HG2 := Lib.hid (grown_then hG.out hg (fun g e => .inr e))
            have HXL : Hid (xs.length = ps.length) := Lib.hid (by rw [hxl]; simp)
            clear hxl hvx hs hg hc0
            go_wp2_with fail
            refine (ProvesM_any _ _ ps xs _ (V.out.deal HG2.out).1 HX.out.1).mono ?_
            rintro e w21 ⟨Bo, rfl, hB, hg⟩
            have HS3 := Lib.hid (HS2.out.step hg); have HX3 := Lib.hid (HX.out.step hg); have HG3 := Lib.hid (grown_then HG2.out hg (by simp))
            have HB := Lib.hid hB
            clear hB hg
            cases Bo with
            | false =>
              go_wp2_with fail
              go_roundw
              case rel => exact ⟨k + 1, by go_num, by omega, HS3, HG3⟩
              case measure => simp [intOf]; omega
            | true =>
              have HPI := Lib.hid (HB.out.1 rfl).2
              have HVM3 := Lib.hid (HVM.out.deal HG3.out)
              go_wp2_with fail
              refine (rcompare_any _ _ xs xm _ HX3.out.1 HVM3.out.1).mono ?_
              rintro e w22 ⟨rfl, hd⟩
              have HS4 := Lib.hid (HS3.out.drew hd); have HG4 := Lib.hid (grown_then HG3.out (hd.grown none) (by simp))
              have hcmp : ¬ compareI xs xm < 0 := by
                rw [← HXM.out]
                obtain ⟨m', rfl, hm'⟩ := HPI.out
                exact lexLe_compare (HMIN.out m' hm') (by rw [HML.out, hm'.len, HTL.out])
              clear hd
              generalize compareI xs xm = cmp at *
              go_wp2_with fail
              go_roundw
              case rel => exact ⟨k + 1, by go_num, by omega, HS4, HG4⟩
              case measure => simp [intOf]; omega
          · have h3 : ¬ (0 : Int) < (ps.length : Int) := by omega
            go_wp2_with fail
            go_ret
            exact ⟨rfl, hS.out.below⟩
        · have h2 : ¬ (k : Int) < 20 := by omega
          go_wp2_with fail
          go_ret
          exact ⟨rfl, hS.out.below⟩
  · go_enter Try.func4, Try.ntmps4
    go_wp2_with fail
    refine (awake03_any _).mono ?_
    rintro e w1 ⟨rfl, hg⟩
    have HG := Lib.hid hg
    clear hg
    go_wp2_with fail
    refine (few_any _ _ _ _).mono ?_
    rintro e w2 ⟨rfl, rfl⟩
    rw [decide_eq_false (by omega)]
    go_wp2_with fail
    refine (awake03_any _).mono ?_
    rintro e w3 ⟨rfl, hg⟩
    have HG := Lib.hid (grown_trans HG.out hg)
    clear hg
    go_wp2_with fail
    go_ret
    exact ⟨rfl, below_of HG.out⟩

/-! ### MultisetMatches: the statement, from its walk -/
set_option maxRecDepth 100000 in
theorem liftedMultisetMatches (os : Os) (started : os.Started) (H : Type) (enc : TypeId × Value → H) :
    ReturnsInHanded {} Try.checked os 4 .any (Rows.multisetMatchesSpec.pre6 enc Try.prog Try.f4 Rows.multisetMatchesRow.domain false) (Rows.multisetMatchesSpec.post enc Try.prog Try.f4 false true false false) := by
  refine returnsInHanded_of_change (C := Try.checked) own started (by kernel_rfl) Try.func4
    (ChangeSpec.witness6 (enc := enc) (C := Try.checked) false ⟨#[], #[.slice none 0 0], []⟩ 8 (by kernel_rfl) (by kernel_rfl) (by kernel_rfl) (by kernel_rfl)) ?_
  intro W base args ds gs before hval0 hW hcnd _
  have hval : ∀ (j : Nat) t v, Try.f4.params[j]? = some t → args[j]? = some v → Value.okWide Try.prog W .any base t v := hval0
  have hW' := hW
  obtain ⟨p, q, hA0, hV, rfl, hfz, hnd⟩ := hW
  have hA : DataW.TrodAll enc Try.prog W 0 (fun _ => true) true Try.f4.params.toList args.toList ds p := hA0
  rw [Try.params4] at hA hval
  obtain ⟨v0, vs0, d0, ds0, p0, q0, hargs, rfl, rfl, h0, r0⟩ := trodAll_cons hA
  obtain ⟨rfl, rfl, rfl⟩ := trodAll_nil r0
  obtain rfl : args = #[v0] := by cases args; simp_all
  obtain ⟨rfl, rfl⟩ := trodVars_none hV
  obtain ⟨a0, len0, cap0, rfl⟩ := okWide_slice Try.underlying22 (hval 0 22 v0 rfl rfl)
  have k0 := h0
  have lt0 : ∀ x ∈ p0, x.block < W.heap.size := by obtain ⟨m, hm⟩ := k0; exact DataW.trod_lt m _ _ _ hm
  obtain ⟨z0, w0⟩ : ∃ zs, IsRow .i64 W a0 len0 cap0 zs := by
    obtain ⟨fuel, hf⟩ := h0
    rcases open_ints Try.underlying22 Try.underlying3 (by kernel_rfl) hf with ⟨hcs, _⟩ | ⟨x, l, c, zs, hcs, _, hl, hm, hz, _, hcell, hwz⟩
    · simp [Value.cells] at hcs
      obtain ⟨rfl, rfl, rfl⟩ := hcs
      exact ⟨[], .inl ⟨rfl, rfl, rfl, rfl⟩⟩
    · simp [Value.cells] at hcs
      obtain ⟨rfl, rfl, rfl⟩ := hcs
      exact ⟨zs, .inr ⟨_, rfl, hl, hm, by simpa using hz, hcell, hwz⟩⟩
  clear hA0 hval0
  refine (walkMultisetMatches a0 len0 cap0 z0 W w0).mono fun e W' ⟨he, bel⟩ => ?_
  subst he
  exact ⟨_, rfl, _, _, _, [], _, [], hW', trodAll_mk1 (shut_bool Try.underlying4 _), (trodAll_cons_mk (Below.trod laidOut (by kernel_rfl) (of_decide_eq_true (by kernel_rfl)) k0 bel lt0) trodAll_mk0), rfl, bel.frame _, fun h => by cases h⟩

theorem multisetMatches_holds : Rows.MultisetMatchesSaid :=
  OpenClaim.holds_of_wide 4 Try.f4 rfl rfl rfl rfl rfl rfl rfl ⟨rfl, rfl, rfl, rfl, rfl⟩ rfl rfl rfl rfl rfl (by kernel_rfl) Try.func4 (by kernel_rfl)
    (of_decide_eq_true (by kernel_rfl)) (by unfold Func.isWrapper; first | (rw [if_pos (by decide +kernel)]; kernel_rfl) | (rw [if_neg (by decide +kernel)]; exact ⟨rfl, rfl⟩))
    (fun os started H enc _ => liftedMultisetMatches os started H enc)
#print axioms multisetMatches_holds
end Go.Proofs.Ytnppmemcdcgjhaa
