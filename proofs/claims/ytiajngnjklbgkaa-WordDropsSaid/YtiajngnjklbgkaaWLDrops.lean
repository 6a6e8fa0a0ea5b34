/- WordDrops: for every input it answers true. -/
import Derived.Test.YtiajngnjklbgkaaWs
namespace Go.Proofs.Ytiajngnjklbgkaa
open Go.ChangeShapes Go.WideShapes Go.ChangeAt Go.RowKit
set_option linter.unusedVariables false

theorem without_cons (x : Int) (ys : List Int) (i : Nat) : withoutL (x :: ys) (i + 1) = x :: withoutL ys i := by simp [withoutL]
theorem without_len {B : List Int} {i : Nat} (h : i < B.length) : (withoutL B i).length + 1 = B.length := by
  unfold withoutL
  rw [List.length_append, List.length_take, List.length_drop]
  omega
theorem without_sub (B : List Int) (i : Nat) : (withoutL B i).Sublist B := by
  unfold withoutL
  have h := List.Sublist.append (List.Sublist.refl (B.take i)) (List.drop_sublist 1 (B.drop i))
  rw [List.drop_drop, List.take_append_drop] at h
  simpa [Nat.add_comm] using h
theorem sub_without : ∀ {A B : List Int}, A.Sublist B → A.length < B.length → ∃ i, i < B.length ∧ A.Sublist (withoutL B i)
  | _, _, .slnil, h => by simp at h
  | A, y :: ys, .cons _ h', _ => ⟨0, by simp, by simpa [withoutL] using h'⟩
  | x :: zs, _ :: ys, .cons_cons _ h', h => by
    obtain ⟨i, hi, hs⟩ := sub_without h' (by simpa using h)
    exact ⟨i + 1, by simpa using hi, by rw [without_cons]; exact hs.cons_cons x⟩
theorem valid_sub {a b : List Int} (h : a.Sublist b) (hb : validW b = true) : validW a = true := by
  unfold validW at *
  rw [Bool.and_eq_true, List.all_eq_true] at *
  have := h.length_le
  refine ⟨by simp at hb ⊢; omega, fun x hx => hb.2 x (h.subset hx)⟩
theorem drops_mem {B x : List Int} (hv : validW B = true) : x ∈ dropsL B ↔ ∃ i, i < B.length ∧ x = withoutL B i := by
  unfold dropsL
  rw [if_pos hv, ascL_mem, List.mem_map]
  constructor
  · rintro ⟨i, hi, rfl⟩; exact ⟨i, List.mem_range.1 hi, rfl⟩
  · rintro ⟨i, hi, rfl⟩; exact ⟨i, List.mem_range.2 hi, rfl⟩
theorem drops_one {B x : List Int} (hv : validW B = true) (h : x ∈ dropsL B) : x.length + 1 = B.length ∧ leqW x B = true := by
  obtain ⟨i, hi, rfl⟩ := (drops_mem hv).1 h
  exact ⟨without_len hi, (leqW_iff _ _).2 ⟨valid_sub (without_sub B i) hv, hv, without_sub B i⟩⟩
theorem drops_any_leq {A B : List Int} (hv : validW B = true) : (dropsL B).any (fun x => leqW A x) = (leqW A B && decide (A.length < B.length)) := by
  rw [Bool.eq_iff_iff, List.any_eq_true, Bool.and_eq_true, decide_eq_true_iff]
  constructor
  · rintro ⟨x, hx, hl⟩
    have h1 := drops_one hv hx
    have h2 := ((leqW_iff _ _).1 hl).2.2.length_le
    exact ⟨leqW_trans hl h1.2, by omega⟩
  · rintro ⟨hl, hlt⟩
    obtain ⟨ha, hb, hs⟩ := (leqW_iff _ _).1 hl
    obtain ⟨i, hi, hsi⟩ := sub_without hs hlt
    exact ⟨withoutL B i, (drops_mem hv).2 ⟨i, hi, rfl⟩, (leqW_iff _ _).2 ⟨ha, valid_sub (without_sub B i) hv, hsi⟩⟩
theorem anyq_snoc (P : List Int → Bool) (qs : List Row) (k : Nat) (h : k < qs.length) : (qs.take (k + 1)).any (fun q => P q.2) = ((qs.take k).any (fun q => P q.2) || P (qs[k]).2) := by
  rw [List.take_succ_eq_append_getElem h, List.any_append]; simp

set_option maxRecDepth 100000 in
set_option maxHeartbeats 4000000 in
theorem walkWordDrops (a0 : Option Addr) (len0 cap0 : Nat) (z0 : List Int) (w : World) (w0 : IsRow .i64 w a0 len0 cap0 z0) :
    Calls Try.prog 5 #[.slice a0 len0 cap0] w fun e w' => e = .returned (.bool true) ∧ Below w.heap.size w w' := by
  obtain ⟨hI, hlen⟩ := w0.ints
  generalize z0.take len0 = zs at hI hlen
  subst hlen
  have HI := Lib.hid hI
  clear hI w0
  by_cases hfew : (zs.length : Int) ≤ 400
  · go_enter Try.func5, Try.ntmps5
    go_wp2_with fail
    refine (awake02_any _).mono ?_
    rintro e w1 ⟨rfl, hg⟩
    have HG := Lib.hid hg
    clear hg
    go_wp2_with fail
    refine (few_any _ _ _ _).mono ?_
    rintro e w2 ⟨rfl, rfl⟩
    rw [decide_eq_true hfew]
    go_wp2_with fail
    refine (new_st (HI.out.same HG.out) HG.out).mono ?_
    rintro e w3 ⟨p, d, rfl, hs⟩
    have HS := Lib.hid hs
    clear hs HG HI
    go_wp2_with fail
    refine (word_st HS.out 2 4 (by omega) (by omega) (by omega) (by omega)).mono ?_
    rintro e w4 ⟨va, A, rfl, hlA, hpA, hv, hs, hg⟩
    have Vva := Lib.hid hv; replace HS := Lib.hid hs; have LA := Lib.hid hlA; have PA := Lib.hid hpA
    clear hv hs hg hlA hpA
    go_wp2_with fail
    refine (word_st HS.out 3 9 (by omega) (by omega) (by omega) (by omega)).mono ?_
    rintro e w5 ⟨vb, B, rfl, hlB, hpB, hv, hs, hg⟩
    replace Vva := Lib.hid (Vva.out.deal hg)
    have Vvb := Lib.hid hv; replace HS := Lib.hid hs; have LB := Lib.hid hlB; have PB := Lib.hid hpB
    clear hv hs hg hlB hpB
    have HV : Hid (validW B = true) := Lib.hid (letters_valid LB.out PB.out (by omega) (by omega))
    go_wp2_with fail
    refine (drops_any _ _ _ Vvb.out.1).mono ?_
    rintro e w6 ⟨vd, qs, rfl, ho, hq, hg⟩
    replace Vva := Lib.hid (Vva.out.step hg)
    replace Vvb := Lib.hid (Vvb.out.step hg)
    replace HS := Lib.hid (HS.out.step hg)
    have OD := Lib.hid ho.rows; have QD := Lib.hid hq
    clear hg
    obtain ⟨ad, cd, rfl⟩ := ho.slice
    clear ho hq
    have hql : qs.length ≤ maxLen := by obtain ⟨_, _, _, h, _⟩ := OD.out; exact h
    unfold maxLen at hql
    obtain ⟨aa, ca, rfl, -⟩ := Vva.out.slice
    obtain ⟨ab, cb, rfl, -⟩ := Vvb.out.slice
    have hlb : B.length ≤ 9 := by have := LB.out; omega
    have hla : A.length ≤ 4 := by have := LA.out; omega
    go_wp2_with fail
    go_loopw [6, 26] (fun v i wr => ∃ (k : Nat) (sm : Bool), i = .int .i64 k ∧ k ≤ qs.length ∧ v = .bool sm ∧ Hid (sm = (qs.take k).any (fun q => leqW A q.2)) ∧ Hid (w6.grownBy wr none)) (fun _ i _ => qs.length - (intOf i).toNat)
    case atStart => exact ⟨0, false, rfl, Nat.zero_le _, rfl, Lib.hid (by simp), Lib.hid (grown_refl _ _)⟩
    case round =>
      obtain ⟨k, sm, rfl, hk, rfl, hm, hg⟩ := hrel
      have Wa := Lib.hid (Vva.out.step hg.out); have Wb := Lib.hid (Vvb.out.step hg.out)
      by_cases hlt : k < qs.length
      · obtain ⟨_, _, hv, _, hc, hrow⟩ := OD.out.same hg.out
        simp only [Value.slice.injEq] at hv
        obtain ⟨rfl, -, -⟩ := hv
        obtain ⟨b, off, rfl, hx⟩ := RowsP.at hc hlt
        have hr := hrow _ (List.getElem_mem hlt)
        have HN := Lib.hid (anyq_snoc (fun x => leqW A x) qs k hlt)
        have h1 : (k : Int) < (qs.length : Int) := by omega
        have hmem : (qs[k]).2 ∈ dropsL B := by rw [← QD.out]; exact List.mem_map_of_mem (List.getElem_mem hlt)
        obtain ⟨h2, h3⟩ := drops_one HV.out hmem
        clear hc hrow hmem
        generalize (qs[k]) = q at *
        obtain ⟨qv, qx⟩ := q
        have HR := Lib.hid hr
        obtain ⟨⟨aq, cq, hvq, -, -, -⟩, -, -⟩ := hr
        dsimp only at hvq hx h2 h3 HN
        subst hvq
        have HL := Lib.hid h3
        have h4 : ((qx.length : Int) != (B.length : Int) - 1) = false := by rw [bne_eq_false_iff_eq]; omega
        have h5 : IntKind.i64.wrap ((B.length : Int) - 1) = (B.length : Int) - 1 := IntWalk.i64_in _ (by omega)
        clear h3 h2
        go_wp2_with fail
        refine (leqW_any _ _ _ _ _ HR.out.1 Wb.out.1.1).mono ?_
        rintro e w20 ⟨rfl, hg2⟩
        rw [HL.out]
        have HG2 := Lib.hid (grown_trans hg.out hg2)
        have HR2 := Lib.hid (HR.out.same hg2)
        replace Wa := Lib.hid (Wa.out.step hg2)
        clear hg2 h4
        cases hsm : sm
        · go_wp2_with fail
          refine (leqW_any _ _ _ _ _ Wa.out.1.1 HR2.out.1).mono ?_
          rintro e w21 ⟨rfl, hg3⟩
          have HG3 := Lib.hid (grown_trans HG2.out hg3)
          clear hg3
          go_wp2_with fail
          go_roundw
          case rel => exact ⟨k + 1, leqW A qx, by go_num, by omega, rfl, Lib.hid (by rw [HN.out, ← hm.out, hsm]; rfl), HG3⟩
          case measure => simp [intOf]; omega
        · go_wp2_with fail
          go_roundw
          case rel => exact ⟨k + 1, true, by go_num, by omega, rfl, Lib.hid (by rw [HN.out, ← hm.out, hsm]; rfl), HG2⟩
          case measure => simp [intOf]; omega
      · have hA : sm = (leqW A B && decide (A.length < B.length)) := by
          rw [hm.out, List.take_of_length_le (by omega), ← drops_any_leq HV.out, ← QD.out, List.any_map]; rfl
        have HA := Lib.hid hA
        clear hA
        cases hab : leqW A B
        · have h0 : sm = false := by rw [HA.out, hab]; rfl
          have HAB := Lib.hid hab
          clear hab
          subst h0
          go_wp2_with fail
          refine (leqW_any _ _ _ _ _ Wa.out.1.1 Wb.out.1.1).mono ?_
          rintro e w20 ⟨rfl, hg2⟩
          rw [HAB.out]
          have HS2 := Lib.hid ((HS.out.step hg.out).step hg2)
          clear hg2
          go_wp2_with fail
          go_ret
          exact ⟨rfl, HS2.out.below⟩
        · have h0 : sm = decide (A.length < B.length) := by rw [HA.out, hab]; rfl
          have HAB := Lib.hid hab
          clear hab
          by_cases hll : A.length < B.length
          · have h6 : (A.length : Int) < (B.length : Int) := by omega
            rw [decide_eq_true hll] at h0
            subst h0
            go_wp2_with fail
            refine (leqW_any _ _ _ _ _ Wa.out.1.1 Wb.out.1.1).mono ?_
            rintro e w20 ⟨rfl, hg2⟩
            rw [HAB.out]
            have HS2 := Lib.hid ((HS.out.step hg.out).step hg2)
            clear hg2
            go_wp2_with fail
            go_ret
            exact ⟨rfl, HS2.out.below⟩
          · have h6 : ¬ (A.length : Int) < (B.length : Int) := by omega
            rw [decide_eq_false hll] at h0
            subst h0
            go_wp2_with fail
            refine (leqW_any _ _ _ _ _ Wa.out.1.1 Wb.out.1.1).mono ?_
            rintro e w20 ⟨rfl, hg2⟩
            rw [HAB.out]
            have HS2 := Lib.hid ((HS.out.step hg.out).step hg2)
            clear hg2
            go_wp2_with fail
            go_ret
            exact ⟨rfl, HS2.out.below⟩
  · go_enter Try.func5, Try.ntmps5
    go_wp2_with fail
    refine (awake02_any _).mono ?_
    rintro e w1 ⟨rfl, hg⟩
    have HG := Lib.hid hg
    clear hg
    go_wp2_with fail
    refine (few_any _ _ _ _).mono ?_
    rintro e w2 ⟨rfl, rfl⟩
    rw [decide_eq_false (by omega)]
    go_wp2_with fail
    refine (awake02_any _).mono ?_
    rintro e w3 ⟨rfl, hg⟩
    have HG := Lib.hid (grown_trans HG.out hg)
    clear hg
    go_wp2_with fail
    go_ret
    exact ⟨rfl, below_of HG.out⟩

/-! ### WordDrops: the statement, from its walk -/
set_option maxRecDepth 100000 in
theorem liftedWordDrops (os : Os) (started : os.Started) (H : Type) (enc : TypeId × Value → H) :
    ReturnsInHanded {} Try.checked os 5 .any (Rows.wordDropsSpec.pre6 enc Try.prog Try.f5 Rows.wordDropsRow.domain false) (Rows.wordDropsSpec.post enc Try.prog Try.f5 false true false false) := by
  refine returnsInHanded_of_change (C := Try.checked) own started (by kernel_rfl) Try.func5
    (ChangeSpec.witness6 (enc := enc) (C := Try.checked) false ⟨#[], #[.slice none 0 0], []⟩ 8 (by kernel_rfl) (by kernel_rfl) (by kernel_rfl) (by kernel_rfl)) ?_
  intro W base args ds gs before hval0 hW hcnd _
  have hval : ∀ (j : Nat) t v, Try.f5.params[j]? = some t → args[j]? = some v → Value.okWide Try.prog W .any base t v := hval0
  have hW' := hW
  obtain ⟨p, q, hA0, hV, rfl, hfz, hnd⟩ := hW
  have hA : DataW.TrodAll enc Try.prog W 0 (fun _ => true) true Try.f5.params.toList args.toList ds p := hA0
  rw [Try.params5] at hA hval
  obtain ⟨v0, vs0, d0, ds0, p0, q0, hargs, rfl, rfl, h0, r0⟩ := trodAll_cons hA
  obtain ⟨rfl, rfl, rfl⟩ := trodAll_nil r0
  obtain rfl : args = #[v0] := by cases args; simp_all
  obtain ⟨rfl, rfl⟩ := trodVars_none hV
  obtain ⟨a0, len0, cap0, rfl⟩ := okWide_slice Try.underlying22 (hval 0 22 v0 rfl rfl)
  have k0 := h0
  have lt0 : ∀ x ∈ p0, x.block < W.heap.size := by obtain ⟨m, hm⟩ := k0; exact DataW.trod_lt m _ _ _ hm
  obtain ⟨z0, w0⟩ : ∃ zs, IsRow .i64 W a0 len0 cap0 zs := by
    obtain ⟨fuel, hf⟩ := h0
    rcases open_ints Try.underlying22 Try.underlying3 (by kernel_rfl) hf with ⟨hcs, _⟩ | ⟨x, l, c, zs, hcs, _, hl, hm, hz, _, hcell, hwz⟩
    · simp [Value.cells] at hcs
      obtain ⟨rfl, rfl, rfl⟩ := hcs
      exact ⟨[], .inl ⟨rfl, rfl, rfl, rfl⟩⟩
    · simp [Value.cells] at hcs
      obtain ⟨rfl, rfl, rfl⟩ := hcs
      exact ⟨zs, .inr ⟨_, rfl, hl, hm, by simpa using hz, hcell, hwz⟩⟩
  clear hA0 hval0
  refine (walkWordDrops a0 len0 cap0 z0 W w0).mono fun e W' ⟨he, bel⟩ => ?_
  subst he
  exact ⟨_, rfl, _, _, _, [], _, [], hW', trodAll_mk1 (shut_bool Try.underlying4 _), (trodAll_cons_mk (Below.trod laidOut (by kernel_rfl) (of_decide_eq_true (by kernel_rfl)) k0 bel lt0) trodAll_mk0), rfl, bel.frame _, fun h => by cases h⟩

theorem wordDrops_holds : Rows.WordDropsSaid :=
  OpenClaim.holds_of_wide 5 Try.f5 rfl rfl rfl rfl rfl rfl rfl ⟨rfl, rfl, rfl, rfl, rfl⟩ rfl rfl rfl rfl rfl (by kernel_rfl) Try.func5 (by kernel_rfl)
    (of_decide_eq_true (by kernel_rfl)) (by unfold Func.isWrapper; first | (rw [if_pos (by decide +kernel)]; kernel_rfl) | (rw [if_neg (by decide +kernel)]; exact ⟨rfl, rfl⟩))
    (fun os started H enc _ => liftedWordDrops os started H enc)
#print axioms wordDrops_holds
end Go.Proofs.Ytiajngnjklbgkaa
