/- PriorityFalls: for every input it answers true. -/
import Derived.Test.YtaenkbcclgpphaaPr
namespace Go.Proofs.Ytaenkbcclgpphaa
open Go.ChangeShapes Go.WideShapes Go.ChangeAt Go.RowKit
set_option linter.unusedVariables false

theorem anyb_snoc (P : List Int → Bool) (qs : List Row) (k : Nat) (h : k < qs.length) : (qs.take (k + 1)).any (fun q => P q.2) = ((qs.take k).any (fun q => P q.2) || P (qs[k]).2) := by
  rw [List.take_succ_eq_append_getElem h, List.any_append]; simp
theorem drops_len (rs b : List Int) : (dropsP rs b).length ≤ b.length := by
  unfold dropsP
  split
  · refine Nat.le_trans (ascL_len _) ?_
    unfold dropK
    rw [List.length_map]
    exact Nat.le_trans (List.length_filter_le _ _) (by rw [List.length_range]; exact Nat.le_refl _)
  · exact Nat.zero_le _
def lenV : Value → Nat
  | .slice _ n _ => n
  | _ => 0
theorem asc_at {l : List (List Int)} {i j : Nat} (h : Asc l) (hij : i < j) (hj : j < l.length) : compareI (l[i]'(by omega)) l[j] < 0 := List.pairwise_iff_getElem.1 h i j (by omega) hj hij
theorem row_asc {qs : List Row} {l : List (List Int)} (h : qs.map Prod.snd = l) (ha : Asc l) {i j : Nat} (hij : i < j) (hj : j < qs.length) : compareI (qs[i]'(by omega)).2 (qs[j]).2 < 0 := by
  subst h
  have := asc_at ha hij (by rw [List.length_map]; exact hj)
  simpa using this

set_option maxRecDepth 100000 in
set_option maxHeartbeats 1500000 in
theorem walkPriorityFalls (a0 : Option Addr) (len0 cap0 : Nat) (z0 : List Int) (w : World) (w0 : IsRow .i64 w a0 len0 cap0 z0) :
    Calls Try.prog 11 #[.slice a0 len0 cap0] w fun e w' => e = .returned (.bool true) ∧ Below w.heap.size w w' := by
  obtain ⟨hI, hlen⟩ := w0.ints
  generalize z0.take len0 = zs at hI hlen
  subst hlen
  have HI := Lib.hid hI
  clear hI w0
  by_cases hfew : (zs.length : Int) ≤ 400
  · go_enter Try.func11, Try.ntmps11
    go_wp2_with fail
    refine (awake05_any _).mono ?_
    rintro e w1 ⟨rfl, hg⟩
    have HG := Lib.hid hg
    clear hg
    go_wp2_with fail
    refine (few_any _ _ _ _).mono ?_
    rintro e w2 ⟨rfl, rfl⟩
    rw [decide_eq_true hfew]
    go_wp2_with fail
    refine (new_st (HI.out.same HG.out) HG.out).mono ?_
    rintro e w3 ⟨p, d, rfl, hs⟩
    have HS := Lib.hid hs
    clear hs HG HI
    go_wp2_with fail
    refine (ranks_st HS.out 3 (by omega) (by omega)).mono ?_
    rintro e w4 ⟨vr, R, rfl, hlR, hpR, hv, hs, hg⟩
    have Vvr := Lib.hid hv; replace HS := Lib.hid hs; have LR := Lib.hid hlR; have PR := Lib.hid hpR
    have KR := Lib.hid (ranks_ok hlR (by omega) (by omega) hpR)
    clear hv hs hg hlR hpR
    go_wp2_with fail
    refine (word_st HS.out 3 10 (by omega) (by omega) (by omega) (by omega)).mono ?_
    rintro e w5 ⟨vx, X, rfl, hlX, hpX, hv, hs, hg⟩
    replace Vvr := Lib.hid (Vvr.out.deal hg)
    have Vvx := Lib.hid hv; replace HS := Lib.hid hs; have LX := Lib.hid hlX; have PX := Lib.hid hpX
    clear hv hs hg hlX hpX
    have HD5 := Lib.hid HS.out.lt
    have HR2 : Hid (∀ r ∈ R, r ≤ (2 : Int) → r < ((3 : Nat) : Int)) := Lib.hid (fun r _ h => by omega)
    have VW := Lib.hid (word_ok KR.out LX.out PX.out (by omega) (by have := LR.out; omega))
    go_wp2_with fail
    refine (pfalling_any 3 _ _ 2 _ Vvr.out.1.1 KR.out HR2.out (by omega)).mono ?_
    rintro e w6 ⟨va, qs, rfl, ho, hm, hg, hf⟩
    have OA := Lib.hid ho; have MA := Lib.hid hm; have FA := Lib.hid hf
    have hqm : qs.length ≤ maxLen := by obtain ⟨_, _, _, h, _⟩ := ho.rows; exact h
    unfold maxLen at hqm
    replace Vvr := Lib.hid (Vvr.out.step hg); replace Vvx := Lib.hid (Vvx.out.step hg); replace HS := Lib.hid (HS.out.step hg)
    clear ho hm hf hg
    obtain ⟨aa, ca, rfl⟩ := OA.out.slice
    go_wp2_with fail
    go_loopw [5] (fun v wr => ∃ Y : List Int, Hid (RVec wr d v Y) ∧ Hid (validP R Y = true) ∧ Hid (St w wr p d) ∧ Hid (w6.grownBy wr (some d))) (fun v _ => lenV v)
    case atStart => exact ⟨X, Vvx, VW, HS, Lib.hid (grown_refl _ _)⟩
    case round =>
      obtain ⟨Y, hv, hval, hs, hg⟩ := hrel
      rename World => wk
      rename Value => vw
      obtain ⟨ax, cx, rfl, hmx⟩ := hv.out.slice
      unfold maxLen at hmx
      have Wr := Lib.hid (Vvr.out.deal hg.out)
      have hdk := hs.out.lt
      go_wp2_with fail
      refine (dropsF_any _ _ _ _ _ Wr.out.1.1 hv.out.1).mono ?_
      rintro e w10 ⟨vd, ds, rfl, ho9, hm9, hg9, hf9⟩
      have O9 := Lib.hid ho9; have M9 : Hid (ds.map Prod.snd = dropsP R Y) := Lib.hid hm9; have F9 := Lib.hid hf9
      have GA := Lib.hid (grown_then hg.out hg9 (row := some d) (by simp))
      have HSA := Lib.hid (hs.out.step hg9)
      have XA := Lib.hid (hv.out.step hg9)
      have YR := Lib.hid (Wr.out.step hg9)
      have hdl : ds.length ≤ maxLen := by obtain ⟨_, _, _, h, _⟩ := ho9.rows; exact h
      unfold maxLen at hdl
      have hd12 : ds.length ≤ 12 := by
        have h1 := drops_len R Y
        have h2 := (validP_le hval.out).2.1
        rw [← M9.out, List.length_map] at h1
        omega
      clear ho9 hm9 hg9 hf9
      obtain ⟨ad, cd, rfl⟩ := O9.out.slice
      by_cases hz : ds.length = 0
      · have z1 : ((ds.length : Int) == 0) = true := by rw [beq_iff_eq]; omega
        have HD : Hid (dropsP R Y = []) := Lib.hid (by rw [← M9.out, List.eq_nil_of_length_eq_zero hz]; rfl)
        clear hz
        obtain ⟨x0, hx0⟩ : ∃ x0, ((Y.length : Int) == 0) = x0 := ⟨_, rfl⟩
        have HX0 := Lib.hid hx0
        have QA := Lib.hid (OA.out.rows.keptR GA.out (fun g h1 h2 => by cases h1; have := (OA.out.fresh _ h2).1; have := HD5.out; omega) (fun g h1 q hq h2 => by cases h1; have := FA.out q hq _ h2; have := HD5.out; omega))
        go_wp2_with fail
        clear hx0
        go_loopw [9, 51] (fun v i wr => ∃ (k : Nat) (sm : Bool), i = .int .i64 k ∧ k ≤ qs.length ∧ v = .bool sm ∧ Hid (sm = (x0 || (qs.take k).any (fun q => q.2 == Y))) ∧ Hid (w10.grownBy wr none)) (fun _ i _ => qs.length - (intOf i).toNat)
        case atStart => exact ⟨0, x0, rfl, Nat.zero_le _, rfl, Lib.hid (by simp), Lib.hid (grown_refl _ _)⟩
        case round =>
          obtain ⟨k, sm, rfl, hk, rfl, hsm, hgq⟩ := hrel
          rename World => wq
          have Zr := Lib.hid (YR.out.step hgq.out); have Zx := Lib.hid (XA.out.step hgq.out)
          by_cases hlt : k < qs.length
          · have k3 : (k : Int) < (qs.length : Int) := by omega
            obtain ⟨_, _, hv, _, hc, hrow⟩ := QA.out.same hgq.out
            simp only [Value.slice.injEq] at hv
            obtain ⟨rfl, -, -⟩ := hv
            obtain ⟨b, off, rfl, hx⟩ := RowsP.at hc hlt
            have R1 := Lib.hid (hrow _ (List.getElem_mem hlt))
            have HN := Lib.hid (anyb_snoc (fun x => x == Y) qs k hlt)
            have hmem : (qs[k]).2 ∈ fallA R 3 2 := by rw [← MA.out]; exact List.mem_map_of_mem (List.getElem_mem hlt)
            have HDR := Lib.hid (fall_drops KR.out (by omega) hmem)
            have hne : (qs[k]).2 ≠ [] := (fallA_el R 3 2 _ hmem).1
            have HPREV : Hid (∀ k1 : Nat, k = k1 + 1 → ∃ v1 x1, wq.cell? ⟨b, off + k1, none⟩ = some v1 ∧ RowOk wq (v1, x1) ∧ compareI x1 (qs[k]).2 < 0) := Lib.hid (fun k1 e => by
              obtain ⟨b', off', hab, hx'⟩ := RowsP.at hc (show k1 < qs.length by omega)
              simp only [Option.some.injEq, Addr.mk.injEq, and_true] at hab
              obtain ⟨rfl, rfl⟩ := hab
              exact ⟨_, _, hx', hrow _ (List.getElem_mem (show k1 < qs.length by omega)), row_asc MA.out (fallA_asc R 3 2) (by omega) hlt⟩)
            clear hc hrow hmem
            generalize qs[k] = q at *
            obtain ⟨qv, qx⟩ := q
            dsimp only at hx hne
            obtain ⟨⟨a2, c2, hv2, hq2, -⟩, -⟩ := R1.out
            dsimp only at hv2 hq2
            unfold maxLen at hq2
            subst hv2
            have z2 : ((qx.length : Int) == 0) = false := by
              rw [beq_eq_false_iff_ne]
              intro h
              exact hne (List.eq_nil_of_length_eq_zero (by omega))
            clear hne
            go_wp2_with fail
            refine (dropsF_any _ _ _ _ _ Zr.out.1.1 R1.out).mono ?_
            rintro e w20 ⟨v5, d5, rfl, ho5, hm5, hg5, hf5⟩
            have e5 : d5 = [] := List.map_eq_nil_iff.1 (hm5.trans HDR.out)
            subst e5
            obtain ⟨a5, c5, rfl⟩ := ho5.slice
            have HG5 := Lib.hid hg5
            have R5 := Lib.hid (R1.out.same hg5); replace Zx := Lib.hid (Zx.out.step hg5); have HG1 := Lib.hid (grown_trans hgq.out hg5)
            clear ho5 hm5 hg5 hf5
            have z5 : ¬ (([] : List Row).length : Int) > 0 := by simp
            by_cases hk0 : k = 0
            · have z3 : ¬ (0 : Int) < (k : Int) := by omega
              clear hk0
              cases hs : sm
              · go_wp2_with fail
                refine (same_any _ _ _ _ _ R5.out.1 Zx.out.1.1).mono ?_
                rintro e w30 ⟨rfl, hd⟩
                have HG2 := Lib.hid (grown_trans HG1.out (hd.grown none))
                clear hd
                go_wp2_with fail
                go_roundw
                case rel => exact ⟨k + 1, qx == Y, by go_num, by omega, rfl, Lib.hid (by rw [HN.out, ← Bool.or_assoc, ← hsm.out, hs]; rfl), HG2⟩
                case measure => simp [intOf]; omega
              · go_wp2_with fail
                go_roundw
                case rel => exact ⟨k + 1, true, by go_num, by omega, rfl, Lib.hid (by rw [HN.out, ← Bool.or_assoc, ← hsm.out, hs]; rfl), HG1⟩
                case measure => simp [intOf]; omega
            · obtain ⟨k1, hk1⟩ : ∃ k1, k = k1 + 1 := ⟨k - 1, by omega⟩
              obtain ⟨v1, x1, hx1, hr1, hcm⟩ := HPREV.out k1 hk1
              have m1 : IntKind.i64.wrap ((k : Int) - 1) = (k1 : Int) := by rw [IntWalk.i64_in _ (by omega)]; omega
              have z3 : (0 : Int) < (k : Int) := by omega
              have z6 : (k1 : Int) < (qs.length : Int) := by omega
              replace hx1 := HG5.out.cell hx1 (by simp)
              have R6 := Lib.hid (hr1.same HG5.out)
              obtain ⟨⟨a6, c6, hv6, -⟩, -⟩ := hr1
              dsimp only at hv6
              subst hv6
              have HCM := Lib.hid hcm
              clear hcm hk1 hk0
              go_wp2_with fail
              refine (rcompare_any _ _ _ _ _ R6.out.1 R5.out.1).mono ?_
              rintro e w25 ⟨rfl, hd⟩
              have HG2 := Lib.hid (grown_trans HG1.out (hd.grown none))
              have R7 := Lib.hid (R5.out.same (hd.grown none)); replace Zx := Lib.hid (Zx.out.step (hd.grown none))
              clear hd
              have hcm : compareI x1 qx < 0 := HCM.out
              generalize compareI x1 qx = c9 at *
              cases hs : sm
              · go_wp2_with fail
                refine (same_any _ _ _ _ _ R7.out.1 Zx.out.1.1).mono ?_
                rintro e w30 ⟨rfl, hd⟩
                have HG3 := Lib.hid (grown_trans HG2.out (hd.grown none))
                clear hd
                go_wp2_with fail
                go_roundw
                case rel => exact ⟨k + 1, qx == Y, by go_num, by omega, rfl, Lib.hid (by rw [HN.out, ← Bool.or_assoc, ← hsm.out, hs]; rfl), HG3⟩
                case measure => simp [intOf]; omega
              · go_wp2_with fail
                go_roundw
                case rel => exact ⟨k + 1, true, by go_num, by omega, rfl, Lib.hid (by rw [HN.out, ← Bool.or_assoc, ← hsm.out, hs]; rfl), HG2⟩
                case measure => simp [intOf]; omega
          · have k3 : ¬ (k : Int) < (qs.length : Int) := by omega
            have HA : sm = true := by
              rw [hsm.out, List.take_of_length_le (by omega)]
              by_cases hy : Y = []
              · rw [← HX0.out, hy]; rfl
              · have h1 := fall_has KR.out PR.out hval.out HD.out hy
                rw [← MA.out] at h1
                obtain ⟨q, hq, e⟩ := List.mem_map.1 h1
                rw [List.any_eq_true.2 ⟨q, hq, by rw [e]; simp⟩, Bool.or_true]
            subst HA
            have HS2 := Lib.hid (HSA.out.step hgq.out)
            go_wp2_with fail
            go_ret
            exact ⟨rfl, HS2.out.below⟩
      · have z1 : ((ds.length : Int) == 0) = false := by rw [beq_eq_false_iff_ne]; omega
        go_wp2_with fail
        refine (next_st HSA.out (ds.length : Int) (by omega) (by omega)).mono ?_
        rintro e w11 ⟨y, rfl, hy0, hy1, hs2, hg2⟩
        have R9 := Lib.hid (O9.out.rows.keptR hg2 (fun g h1 h2 => by cases h1; have := (O9.out.fresh _ h2).1; omega) (fun g h1 q hq h2 => by cases h1; have := F9.out q hq _ h2; omega))
        have HS2 := Lib.hid hs2; have G2 := Lib.hid (grown_then GA.out hg2 (row := some d) (by simp))
        clear hs2 hg2
        obtain ⟨yn, rfl⟩ : ∃ yn : Nat, y = (yn : Int) := ⟨y.toNat, by omega⟩
        have hyn : yn < ds.length := by omega
        obtain ⟨_, _, hv3, _, hc, hrow⟩ := R9.out
        simp only [Value.slice.injEq] at hv3
        obtain ⟨rfl, -, -⟩ := hv3
        obtain ⟨b, off, rfl, hx⟩ := RowsP.at hc hyn
        have R1 := Lib.hid (hrow _ (List.getElem_mem hyn))
        have HB : Hid (∀ g, (ds[yn]).1.ownBlock = some g → d < g) := Lib.hid (fun g h => by have := F9.out _ (List.getElem_mem hyn) g h; omega)
        have hmem : (ds[yn]).2 ∈ dropsP R Y := by rw [← M9.out]; exact List.mem_map_of_mem (List.getElem_mem hyn)
        have HV2 : Hid (validP R (ds[yn]).2 = true) := Lib.hid ((leqP_iff _ _ _).1 (drops_leq hmem)).1
        have hlen : (ds[yn]).2.length + 1 = Y.length := ((drops_iff hval.out).1 hmem).len
        clear hc hrow hmem hz
        generalize ds[yn] = q at *
        obtain ⟨qv, qx⟩ := q
        dsimp only at hx hlen
        obtain ⟨⟨a2, c2, hv2, hq2, -⟩, -⟩ := R1.out
        dsimp only at hv2 hq2
        subst hv2
        have HLEN := Lib.hid hlen
        clear hlen
        go_wp2_with fail
        go_roundw
        case rel => exact ⟨qx, Lib.hid ⟨R1.out, HB.out⟩, HV2, HS2, G2⟩
        case measure => have := HLEN.out; simp [lenV]; omega
  · go_enter Try.func11, Try.ntmps11
    go_wp2_with fail
    refine (awake05_any _).mono ?_
    rintro e w1 ⟨rfl, hg⟩
    have HG := Lib.hid hg
    clear hg
    go_wp2_with fail
    refine (few_any _ _ _ _).mono ?_
    rintro e w2 ⟨rfl, rfl⟩
    rw [decide_eq_false (by omega)]
    go_wp2_with fail
    refine (awake05_any _).mono ?_
    rintro e w3 ⟨rfl, hg⟩
    have HG := Lib.hid (grown_trans HG.out hg)
    clear hg
    go_wp2_with fail
    go_ret
    exact ⟨rfl, below_of HG.out⟩

/-! ### PriorityFalls: the statement, from its walk -/
set_option maxRecDepth 100000 in
theorem liftedPriorityFalls (os : Os) (started : os.Started) (H : Type) (enc : TypeId × Value → H) :
    ReturnsInHanded {} Try.checked os 11 .any (Rows.priorityFallsSpec.pre6 enc Try.prog Try.f11 Rows.priorityFallsRow.domain false) (Rows.priorityFallsSpec.post enc Try.prog Try.f11 false true false false) := by
  refine returnsInHanded_of_change (C := Try.checked) own started (by kernel_rfl) Try.func11
    (ChangeSpec.witness6 (enc := enc) (C := Try.checked) false ⟨#[], #[.slice none 0 0], []⟩ 8 (by kernel_rfl) (by kernel_rfl) (by kernel_rfl) (by kernel_rfl)) ?_
  intro W base args ds gs before hval0 hW hcnd _
  have hval : ∀ (j : Nat) t v, Try.f11.params[j]? = some t → args[j]? = some v → Value.okWide Try.prog W .any base t v := hval0
  have hW' := hW
  obtain ⟨p, q, hA0, hV, rfl, hfz, hnd⟩ := hW
  have hA : DataW.TrodAll enc Try.prog W 0 (fun _ => true) true Try.f11.params.toList args.toList ds p := hA0
  rw [Try.params11] at hA hval
  obtain ⟨v0, vs0, d0, ds0, p0, q0, hargs, rfl, rfl, h0, r0⟩ := trodAll_cons hA
  obtain ⟨rfl, rfl, rfl⟩ := trodAll_nil r0
  obtain rfl : args = #[v0] := by cases args; simp_all
  obtain ⟨rfl, rfl⟩ := trodVars_none hV
  obtain ⟨a0, len0, cap0, rfl⟩ := okWide_slice Try.underlying22 (hval 0 22 v0 rfl rfl)
  have k0 := h0
  have lt0 : ∀ x ∈ p0, x.block < W.heap.size := by obtain ⟨m, hm⟩ := k0; exact DataW.trod_lt m _ _ _ hm
  obtain ⟨z0, w0⟩ : ∃ zs, IsRow .i64 W a0 len0 cap0 zs := by
    obtain ⟨fuel, hf⟩ := h0
    rcases open_ints Try.underlying22 Try.underlying3 (by kernel_rfl) hf with ⟨hcs, _⟩ | ⟨x, l, c, zs, hcs, _, hl, hm, hz, _, hcell, hwz⟩
    · simp [Value.cells] at hcs
      obtain ⟨rfl, rfl, rfl⟩ := hcs
      exact ⟨[], .inl ⟨rfl, rfl, rfl, rfl⟩⟩
    · simp [Value.cells] at hcs
      obtain ⟨rfl, rfl, rfl⟩ := hcs
      exact ⟨zs, .inr ⟨_, rfl, hl, hm, by simpa using hz, hcell, hwz⟩⟩
  clear hA0 hval0
  refine (walkPriorityFalls a0 len0 cap0 z0 W w0).mono fun e W' ⟨he, bel⟩ => ?_
  subst he
  exact ⟨_, rfl, _, _, _, [], _, [], hW', trodAll_mk1 (shut_bool Try.underlying4 _), (trodAll_cons_mk (Below.trod laidOut (by kernel_rfl) (of_decide_eq_true (by kernel_rfl)) k0 bel lt0) trodAll_mk0), rfl, bel.frame _, fun h => by cases h⟩

theorem priorityFalls_holds : Rows.PriorityFallsSaid :=
  OpenClaim.holds_of_wide 11 Try.f11 rfl rfl rfl rfl rfl rfl rfl ⟨rfl, rfl, rfl, rfl, rfl⟩ rfl rfl rfl rfl rfl (by kernel_rfl) Try.func11 (by kernel_rfl)
    (of_decide_eq_true (by kernel_rfl)) (by unfold Func.isWrapper; first | (rw [if_pos (by decide +kernel)]; kernel_rfl) | (rw [if_neg (by decide +kernel)]; exact ⟨rfl, rfl⟩))
    (fun os started H enc _ => liftedPriorityFalls os started H enc)
#print axioms priorityFalls_holds
end Go.Proofs.Ytaenkbcclgpphaa
