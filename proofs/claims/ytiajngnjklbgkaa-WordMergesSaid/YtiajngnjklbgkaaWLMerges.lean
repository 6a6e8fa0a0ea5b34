/- WordMerges: for every input it answers true. -/
import Derived.Test.YtiajngnjklbgkaaWm
namespace Go.Proofs.Ytiajngnjklbgkaa
open Go.ChangeShapes Go.WideShapes Go.ChangeAt Go.RowKit
set_option linter.unusedVariables false

theorem anyr_snoc (P : List Int → Bool) (qs : List Row) (k : Nat) (h : k < qs.length) : (qs.take (k + 1)).any (fun q => P q.2) = ((qs.take k).any (fun q => P q.2) || P (qs[k]).2) := by
  rw [List.take_succ_eq_append_getElem h, List.any_append]; simp
theorem apart_at {qs : List Row} {rs : List (List Int)} (hq : qs.map Prod.snd = rs) (h : rs.Pairwise (fun u v => leqW u v = false ∧ leqW v u = false)) (m k : Nat) (hm : m < qs.length) (hk : k < qs.length) (hne : m ≠ k) : leqW (qs[m]).2 (qs[k]).2 = false := by
  subst hq
  rw [List.pairwise_iff_getElem] at h
  rcases Nat.lt_or_gt_of_ne hne with hlt | hlt
  · have := h m k (by simpa using hm) (by simpa using hk) hlt
    simpa using this.1
  · have := h k m (by simpa using hk) (by simpa using hm) hlt
    simpa using this.2

set_option maxRecDepth 100000 in
set_option maxHeartbeats 4000000 in
theorem walkWordMerges (a0 : Option Addr) (len0 cap0 : Nat) (z0 : List Int) (w : World) (w0 : IsRow .i64 w a0 len0 cap0 z0) :
    Calls Try.prog 6 #[.slice a0 len0 cap0] w fun e w' => e = .returned (.bool true) ∧ Below w.heap.size w w' := by
  obtain ⟨hI, hlen⟩ := w0.ints
  generalize z0.take len0 = zs at hI hlen
  subst hlen
  have HI := Lib.hid hI
  clear hI w0
  by_cases hfew : (zs.length : Int) ≤ 400
  · go_enter Try.func6, Try.ntmps6
    go_wp2_with fail
    refine (awake02_any _).mono ?_
    rintro e w1 ⟨rfl, hg⟩
    have HG := Lib.hid hg
    clear hg
    go_wp2_with fail
    refine (few_any _ _ _ _).mono ?_
    rintro e w2 ⟨rfl, rfl⟩
    rw [decide_eq_true hfew]
    go_wp2_with fail
    refine (new_st (HI.out.same HG.out) HG.out).mono ?_
    rintro e w3 ⟨p, d, rfl, hs⟩
    have HS := Lib.hid hs
    clear hs HG HI
    go_wp2_with fail
    refine (word_st HS.out 2 4 (by omega) (by omega) (by omega) (by omega)).mono ?_
    rintro e w4 ⟨va, A, rfl, hlA, hpA, hv, hs, hg⟩
    have Vva := Lib.hid hv; replace HS := Lib.hid hs; have LA := Lib.hid hlA; have PA := Lib.hid hpA
    clear hv hs hg hlA hpA
    go_wp2_with fail
    refine (word_st HS.out 2 4 (by omega) (by omega) (by omega) (by omega)).mono ?_
    rintro e w5 ⟨vb, B, rfl, hlB, hpB, hv, hs, hg⟩
    replace Vva := Lib.hid (Vva.out.deal hg)
    have Vvb := Lib.hid hv; replace HS := Lib.hid hs; have LB := Lib.hid hlB; have PB := Lib.hid hpB
    clear hv hs hg hlB hpB
    go_wp2_with fail
    refine (word_st HS.out 2 9 (by omega) (by omega) (by omega) (by omega)).mono ?_
    rintro e w6 ⟨vc, C, rfl, hlC, hpC, hv, hs, hg⟩
    replace Vva := Lib.hid (Vva.out.deal hg)
    replace Vvb := Lib.hid (Vvb.out.deal hg)
    have Vvc := Lib.hid hv; replace HS := Lib.hid hs; have LC := Lib.hid hlC; have PC := Lib.hid hpC
    clear hv hs hg hlC hpC
    have HVA : Hid (validW A = true) := Lib.hid (letters_valid LA.out PA.out (by omega) (by omega))
    have HVB : Hid (validW B = true) := Lib.hid (letters_valid LB.out PB.out (by omega) (by omega))
    have HVC : Hid (validW C = true) := Lib.hid (letters_valid LC.out PC.out (by omega) (by omega))
    have hl8 : A.length + B.length ≤ 8 := by have := LA.out; have := LB.out; omega
    have HE : Hid (mergeE A B = 0) := Lib.hid (by rw [mergeE, HVA.out, HVB.out]; simp; omega)
    have HRR : Hid (mergeR A B = keepL (ascL (mer A B))) := Lib.hid (by rw [mergeR, HE.out, if_pos rfl]; rfl)
    go_wp2_with fail
    refine (mergeW_any _ _ A B _ Vva.out.1 Vvb.out.1).mono ?_
    rintro e w7 ⟨vd, qs, rfl, ho, hq, hg⟩
    rw [HE.out]
    replace Vva := Lib.hid (Vva.out.step hg)
    replace Vvb := Lib.hid (Vvb.out.step hg)
    replace Vvc := Lib.hid (Vvc.out.step hg)
    replace HS := Lib.hid (HS.out.step hg)
    have OD := Lib.hid ho.rows; have QD : Hid (qs.map Prod.snd = keepL (ascL (mer A B))) := Lib.hid (by rw [hq, HRR.out])
    clear hg
    obtain ⟨ad, cd, rfl⟩ := ho.slice
    clear ho hq
    have hql : qs.length ≤ maxLen := by obtain ⟨_, _, _, h, _⟩ := OD.out; exact h
    unfold maxLen at hql
    obtain ⟨aa, ca, rfl, -⟩ := Vva.out.slice
    obtain ⟨ab, cb, rfl, -⟩ := Vvb.out.slice
    have h5 : IntKind.i64.wrap ((A.length : Int) + (B.length : Int)) = (A.length : Int) + (B.length : Int) := IntWalk.i64_in _ (by omega)
    go_wp2_with fail
    go_loopw [9, 39] (fun v i wr => ∃ (k : Nat) (sm : Bool), i = .int .i64 k ∧ k ≤ qs.length ∧ v = .bool sm ∧ Hid (sm = (qs.take k).any (fun q => leqW q.2 C)) ∧ Hid (w7.grownBy wr none)) (fun _ i _ => qs.length - (intOf i).toNat)
    case atStart => exact ⟨0, false, rfl, Nat.zero_le _, rfl, Lib.hid (by simp), Lib.hid (grown_refl _ _)⟩
    case round =>
      obtain ⟨k, sm, rfl, hk, rfl, hm, hg⟩ := hrel
      have Wa := Lib.hid (Vva.out.step hg.out); have Wb := Lib.hid (Vvb.out.step hg.out)
      by_cases hlt : k < qs.length
      · obtain ⟨_, _, hv, _, hc, hrow⟩ := OD.out.same hg.out
        simp only [Value.slice.injEq] at hv
        obtain ⟨rfl, -, -⟩ := hv
        obtain ⟨b, off, rfl, hx⟩ := RowsP.at hc hlt
        have hr := hrow _ (List.getElem_mem hlt)
        have HN := Lib.hid (anyr_snoc (fun x => leqW x C) qs k hlt)
        have h1 : (k : Int) < (qs.length : Int) := by omega
        have hmem : (qs[k]).2 ∈ keepL (ascL (mer A B)) := by rw [← QD.out]; exact List.mem_map_of_mem (List.getElem_mem hlt)
        obtain ⟨-, h2, h3, h4⟩ := merge_valid HVA.out HVB.out hl8 (merge_mem hmem)
        have HAP := Lib.hid (fun m (hm : m < qs.length) (hne : m ≠ k) => apart_at QD.out (merge_apart A B) m k hm hlt hne)
        clear hc hrow hmem
        generalize (qs[k]) = q at *
        obtain ⟨qv, qx⟩ := q
        have HR := Lib.hid hr
        obtain ⟨⟨aq, cq, hvq, -, -, -⟩, -, -⟩ := hr
        dsimp only at hvq hx h2 h3 h4 HN HAP
        subst hvq
        have HLA := Lib.hid h2; have HLB := Lib.hid h3
        have h6 : ¬ (A.length : Int) + (B.length : Int) < (qx.length : Int) := by omega
        clear h3 h2 h4
        go_wp2_with fail
        refine (leqW_any _ _ _ _ _ Wa.out.1.1 HR.out.1).mono ?_
        rintro e w20 ⟨rfl, hg2⟩
        rw [HLA.out]
        have HG2 := Lib.hid (grown_trans hg.out hg2)
        have HR2 := Lib.hid (HR.out.same hg2)
        replace Wb := Lib.hid (Wb.out.step hg2)
        clear hg2 hx
        go_wp2_with fail
        refine (leqW_any _ _ _ _ _ Wb.out.1.1 HR2.out.1).mono ?_
        rintro e w21 ⟨rfl, hg3⟩
        rw [HLB.out]
        have HG3 := Lib.hid (grown_trans HG2.out hg3)
        have HR3 := Lib.hid (HR2.out.same hg3)
        clear hg3
        go_wp2_with fail
        go_loopw [66] (fun i wq => ∃ m : Nat, i = .int .i64 m ∧ m ≤ qs.length ∧ Hid (w21.grownBy wq none)) (fun i _ => qs.length - (intOf i).toNat)
        case atStart => exact ⟨0, rfl, Nat.zero_le _, Lib.hid (grown_refl _ _)⟩
        case round =>
          obtain ⟨m, rfl, hmq, hg4⟩ := hrel
          have HG4 := Lib.hid (grown_trans HG3.out hg4.out)
          have HR4 := Lib.hid (HR3.out.same hg4.out)
          by_cases hlm : m < qs.length
          · have i1 : (m : Int) < (qs.length : Int) := by omega
            by_cases hmk : m = k
            · have i2 : ((m : Int) != (k : Int)) = false := by rw [bne_eq_false_iff_eq]; omega
              go_wp2_with fail
              go_roundw
              case rel => exact ⟨m + 1, by go_num, by omega, hg4⟩
              case measure => simp [intOf]; omega
            · have i2 : ((m : Int) != (k : Int)) = true := by rw [bne_iff_ne]; omega
              have HF := Lib.hid (HAP.out m hlm hmk)
              obtain ⟨_, _, hv, _, hc, hrow⟩ := OD.out.same HG4.out
              simp only [Value.slice.injEq] at hv
              obtain ⟨rfl, -, -⟩ := hv
              obtain ⟨b', off', e', hx⟩ := RowsP.at hc hlm
              simp only [Option.some.injEq, Addr.mk.injEq, and_true] at e'
              obtain ⟨rfl, rfl⟩ := e'
              have hr := hrow _ (List.getElem_mem hlm)
              clear hc hrow
              generalize (qs[m]) = q at *
              have HQ := Lib.hid hr
              clear hr
              go_wp2_with fail
              refine (leqW_any _ _ _ _ _ HQ.out.1 HR4.out.1).mono ?_
              rintro e w22 ⟨rfl, hg5⟩
              rw [HF.out]
              have HG5 := Lib.hid (grown_trans hg4.out hg5)
              clear hg5 hx
              go_wp2_with fail
              go_roundw
              case rel => exact ⟨m + 1, by go_num, by omega, HG5⟩
              case measure => simp [intOf]; omega
          · have Wc := Lib.hid (Vvc.out.step HG4.out)
            cases hsm : sm
            · go_wp2_with fail
              refine (leqW_any _ _ _ _ _ HR4.out.1 Wc.out.1.1).mono ?_
              rintro e w23 ⟨rfl, hg6⟩
              have HG6 := Lib.hid (grown_trans HG4.out hg6)
              clear hg6
              go_wp2_with fail
              go_roundw
              case rel => exact ⟨k + 1, leqW qx C, by go_num, by omega, rfl, Lib.hid (by rw [HN.out, ← hm.out, hsm]; rfl), HG6⟩
              case measure => simp [intOf]; omega
            · go_wp2_with fail
              go_roundw
              case rel => exact ⟨k + 1, true, by go_num, by omega, rfl, Lib.hid (by rw [HN.out, ← hm.out, hsm]; rfl), HG4⟩
              case measure => simp [intOf]; omega
      · have hA : sm = (leqW A C && leqW B C) := by
          rw [hm.out, List.take_of_length_le (by omega), ← merge_any HVA.out HVB.out hl8 HVC.out, ← QD.out, List.any_map]; rfl
        have HA := Lib.hid hA
        clear hA
        have Wc := Lib.hid (Vvc.out.step hg.out)
        cases hac : leqW A C
        · have h0 : sm = false := by rw [HA.out, hac]; rfl
          have HAC := Lib.hid hac
          clear hac
          subst h0
          go_wp2_with fail
          refine (leqW_any _ _ _ _ _ Wa.out.1.1 Wc.out.1.1).mono ?_
          rintro e w20 ⟨rfl, hg2⟩
          rw [HAC.out]
          have HS2 := Lib.hid ((HS.out.step hg.out).step hg2)
          clear hg2
          go_wp2_with fail
          go_ret
          exact ⟨rfl, HS2.out.below⟩
        · have h0 : sm = leqW B C := by rw [HA.out, hac]; rfl
          have HAC := Lib.hid hac
          clear hac
          subst h0
          go_wp2_with fail
          refine (leqW_any _ _ _ _ _ Wa.out.1.1 Wc.out.1.1).mono ?_
          rintro e w20 ⟨rfl, hg2⟩
          rw [HAC.out]
          have HS2 := Lib.hid ((HS.out.step hg.out).step hg2)
          replace Wb := Lib.hid (Wb.out.step hg2); replace Wc := Lib.hid (Wc.out.step hg2)
          clear hg2
          go_wp2_with fail
          refine (leqW_any _ _ _ _ _ Wb.out.1.1 Wc.out.1.1).mono ?_
          rintro e w21 ⟨rfl, hg3⟩
          replace HS2 := Lib.hid (HS2.out.step hg3)
          clear hg3
          cases leqW B C
          all_goals (go_wp2_with fail; go_ret; exact ⟨rfl, HS2.out.below⟩)
  · go_enter Try.func6, Try.ntmps6
    go_wp2_with fail
    refine (awake02_any _).mono ?_
    rintro e w1 ⟨rfl, hg⟩
    have HG := Lib.hid hg
    clear hg
    go_wp2_with fail
    refine (few_any _ _ _ _).mono ?_
    rintro e w2 ⟨rfl, rfl⟩
    rw [decide_eq_false (by omega)]
    go_wp2_with fail
    refine (awake02_any _).mono ?_
    rintro e w3 ⟨rfl, hg⟩
    have HG := Lib.hid (grown_trans HG.out hg)
    clear hg
    go_wp2_with fail
    go_ret
    exact ⟨rfl, below_of HG.out⟩

/-! ### WordMerges: the statement, from its walk -/
set_option maxRecDepth 100000 in
theorem liftedWordMerges (os : Os) (started : os.Started) (H : Type) (enc : TypeId × Value → H) :
    ReturnsInHanded {} Try.checked os 6 .any (Rows.wordMergesSpec.pre6 enc Try.prog Try.f6 Rows.wordMergesRow.domain false) (Rows.wordMergesSpec.post enc Try.prog Try.f6 false true false false) := by
  refine returnsInHanded_of_change (C := Try.checked) own started (by kernel_rfl) Try.func6
    (ChangeSpec.witness6 (enc := enc) (C := Try.checked) false ⟨#[], #[.slice none 0 0], []⟩ 8 (by kernel_rfl) (by kernel_rfl) (by kernel_rfl) (by kernel_rfl)) ?_
  intro W base args ds gs before hval0 hW hcnd _
  have hval : ∀ (j : Nat) t v, Try.f6.params[j]? = some t → args[j]? = some v → Value.okWide Try.prog W .any base t v := hval0
  have hW' := hW
  obtain ⟨p, q, hA0, hV, rfl, hfz, hnd⟩ := hW
  have hA : DataW.TrodAll enc Try.prog W 0 (fun _ => true) true Try.f6.params.toList args.toList ds p := hA0
  rw [Try.params6] at hA hval
  obtain ⟨v0, vs0, d0, ds0, p0, q0, hargs, rfl, rfl, h0, r0⟩ := trodAll_cons hA
  obtain ⟨rfl, rfl, rfl⟩ := trodAll_nil r0
  obtain rfl : args = #[v0] := by cases args; simp_all
  obtain ⟨rfl, rfl⟩ := trodVars_none hV
  obtain ⟨a0, len0, cap0, rfl⟩ := okWide_slice Try.underlying22 (hval 0 22 v0 rfl rfl)
  have k0 := h0
  have lt0 : ∀ x ∈ p0, x.block < W.heap.size := by obtain ⟨m, hm⟩ := k0; exact DataW.trod_lt m _ _ _ hm
  obtain ⟨z0, w0⟩ : ∃ zs, IsRow .i64 W a0 len0 cap0 zs := by
    obtain ⟨fuel, hf⟩ := h0
    rcases open_ints Try.underlying22 Try.underlying3 (by kernel_rfl) hf with ⟨hcs, _⟩ | ⟨x, l, c, zs, hcs, _, hl, hm, hz, _, hcell, hwz⟩
    · simp [Value.cells] at hcs
      obtain ⟨rfl, rfl, rfl⟩ := hcs
      exact ⟨[], .inl ⟨rfl, rfl, rfl, rfl⟩⟩
    · simp [Value.cells] at hcs
      obtain ⟨rfl, rfl, rfl⟩ := hcs
      exact ⟨zs, .inr ⟨_, rfl, hl, hm, by simpa using hz, hcell, hwz⟩⟩
  clear hA0 hval0
  refine (walkWordMerges a0 len0 cap0 z0 W w0).mono fun e W' ⟨he, bel⟩ => ?_
  subst he
  exact ⟨_, rfl, _, _, _, [], _, [], hW', trodAll_mk1 (shut_bool Try.underlying4 _), (trodAll_cons_mk (Below.trod laidOut (by kernel_rfl) (of_decide_eq_true (by kernel_rfl)) k0 bel lt0) trodAll_mk0), rfl, bel.frame _, fun h => by cases h⟩

theorem wordMerges_holds : Rows.WordMergesSaid :=
  OpenClaim.holds_of_wide 6 Try.f6 rfl rfl rfl rfl rfl rfl rfl ⟨rfl, rfl, rfl, rfl, rfl⟩ rfl rfl rfl rfl rfl (by kernel_rfl) Try.func6 (by kernel_rfl)
    (of_decide_eq_true (by kernel_rfl)) (by unfold Func.isWrapper; first | (rw [if_pos (by decide +kernel)]; kernel_rfl) | (rw [if_neg (by decide +kernel)]; exact ⟨rfl, rfl⟩))
    (fun os started H enc _ => liftedWordMerges os started H enc)
#print axioms wordMerges_holds
end Go.Proofs.Ytiajngnjklbgkaa
