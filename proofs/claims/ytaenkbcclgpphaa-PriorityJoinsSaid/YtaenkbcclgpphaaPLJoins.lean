/- PriorityJoins: for every input it answers true. -/
import Derived.Test.YtaenkbcclgpphaaPn
namespace Go.Proofs.Ytaenkbcclgpphaa
open Go.ChangeShapes Go.WideShapes Go.ChangeAt Go.RowKit
set_option linter.unusedVariables false

set_option maxRecDepth 100000 in
set_option maxHeartbeats 2000000 in
theorem walkPriorityJoins (a0 : Option Addr) (len0 cap0 : Nat) (z0 : List Int) (w : World) (w0 : IsRow .i64 w a0 len0 cap0 z0) :
    Calls Try.prog 12 #[.slice a0 len0 cap0] w fun e w' => e = .returned (.bool true) ∧ Below w.heap.size w w' := by
  obtain ⟨hI, hlen⟩ := w0.ints
  generalize z0.take len0 = zs at hI hlen
  subst hlen
  have HI := Lib.hid hI
  clear hI w0
  by_cases hfew : (zs.length : Int) ≤ 400
  · go_enter Try.func12, Try.ntmps12
    go_wp2_with fail
    refine (awake05_any _).mono ?_
    rintro e w1 ⟨rfl, hg⟩
    have HG := Lib.hid hg
    clear hg
    go_wp2_with fail
    refine (few_any _ _ _ _).mono ?_
    rintro e w2 ⟨rfl, rfl⟩
    rw [decide_eq_true hfew]
    go_wp2_with fail
    refine (new_st (HI.out.same HG.out) HG.out).mono ?_
    rintro e w3 ⟨p, d, rfl, hs⟩
    have HS := Lib.hid hs
    clear hs HG HI
    go_wp2_with fail
    refine (ranks_st HS.out 2 (by omega) (by omega)).mono ?_
    rintro e w4 ⟨vr, R, rfl, hlR, hpR, hv, hs, hg⟩
    have Vvr := Lib.hid hv; replace HS := Lib.hid hs; have LR := Lib.hid hlR; have PR := Lib.hid hpR
    have KR := Lib.hid (ranks_ok hlR (by omega) (by omega) hpR)
    clear hv hs hg hlR hpR
    go_wp2_with fail
    refine (word_st HS.out 2 3 (by omega) (by omega) (by omega) (by omega)).mono ?_
    rintro e w5 ⟨va, A, rfl, hlA, hpA, hv, hs, hg⟩
    replace Vvr := Lib.hid (Vvr.out.deal hg)
    have Vva := Lib.hid hv; replace HS := Lib.hid hs; have LA := Lib.hid hlA; have PA := Lib.hid hpA
    clear hv hs hg hlA hpA
    go_wp2_with fail
    refine (word_st HS.out 2 5 (by omega) (by omega) (by omega) (by omega)).mono ?_
    rintro e w6 ⟨vb, B, rfl, hlB, hpB, hv, hs, hg⟩
    replace Vvr := Lib.hid (Vvr.out.deal hg)
    replace Vva := Lib.hid (Vva.out.deal hg)
    have Vvb := Lib.hid hv; replace HS := Lib.hid hs; have LB := Lib.hid hlB; have PB := Lib.hid hpB
    clear hv hs hg hlB hpB
    go_wp2_with fail
    refine (word_st HS.out 2 3 (by omega) (by omega) (by omega) (by omega)).mono ?_
    rintro e w7 ⟨vx, X, rfl, hlX, hpX, hv, hs, hg⟩
    replace Vvr := Lib.hid (Vvr.out.deal hg)
    replace Vva := Lib.hid (Vva.out.deal hg)
    replace Vvb := Lib.hid (Vvb.out.deal hg)
    have Vvx := Lib.hid hv; replace HS := Lib.hid hs; have LX := Lib.hid hlX; have PX := Lib.hid hpX
    clear hv hs hg hlX hpX
    go_wp2_with fail
    refine (word_st HS.out 2 5 (by omega) (by omega) (by omega) (by omega)).mono ?_
    rintro e w8 ⟨vy, Y, rfl, hlY, hpY, hv, hs, hg⟩
    replace Vvr := Lib.hid (Vvr.out.deal hg)
    replace Vva := Lib.hid (Vva.out.deal hg)
    replace Vvb := Lib.hid (Vvb.out.deal hg)
    replace Vvx := Lib.hid (Vvx.out.deal hg)
    have Vvy := Lib.hid hv; replace HS := Lib.hid hs; have LY := Lib.hid hlY; have PY := Lib.hid hpY
    clear hv hs hg hlY hpY
    obtain ⟨ba, ca, rfl, -⟩ := Vva.out.slice
    obtain ⟨bb, cb, rfl, -⟩ := Vvb.out.slice
    obtain ⟨bx, cx, rfl, -⟩ := Vvx.out.slice
    obtain ⟨bk, cy, rfl, -⟩ := Vvy.out.slice
    have hla : A.length ≤ 3 := by have := LA.out; omega
    have hlb : B.length ≤ 5 := by have := LB.out; omega
    have hlx : X.length ≤ 3 := by have := LX.out; omega
    have hly : Y.length ≤ 5 := by have := LY.out; omega
    by_cases ha0 : A.length = 0
    · have z1 : ((A.length : Int) == 0) = true := by rw [beq_iff_eq]; omega
      clear ha0
      go_wp2_with fail
      go_ret
      exact ⟨rfl, HS.out.below⟩
    · have z1 : ((A.length : Int) == 0) = false := by rw [beq_eq_false_iff_ne]; omega
      have HA0 : Hid (A ≠ []) := Lib.hid (fun e => ha0 (by rw [e]; rfl))
      clear ha0
      cases hab : leqP R A B
      all_goals (have HAB := Lib.hid hab; clear hab)
      · go_wp2_with fail
        refine (leqP_any _ _ _ _ _ _ _ Vvr.out.1.1 Vva.out.1 Vvb.out.1).mono ?_
        rintro e w9 ⟨rfl, hg⟩
        replace Vvr := Lib.hid (Vvr.out.step hg)
        replace Vva := Lib.hid (Vva.out.step hg)
        replace Vvb := Lib.hid (Vvb.out.step hg)
        replace Vvx := Lib.hid (Vvx.out.step hg)
        replace Vvy := Lib.hid (Vvy.out.step hg)
        replace HS := Lib.hid (HS.out.step hg)
        clear hg
        rw [HAB.out]
        go_wp2_with fail
        go_ret
        exact ⟨rfl, HS.out.below⟩
      · go_wp2_with fail
        refine (leqP_any _ _ _ _ _ _ _ Vvr.out.1.1 Vva.out.1 Vvb.out.1).mono ?_
        rintro e w9 ⟨rfl, hg⟩
        replace Vvr := Lib.hid (Vvr.out.step hg)
        replace Vva := Lib.hid (Vva.out.step hg)
        replace Vvb := Lib.hid (Vvb.out.step hg)
        replace Vvx := Lib.hid (Vvx.out.step hg)
        replace Vvy := Lib.hid (Vvy.out.step hg)
        replace HS := Lib.hid (HS.out.step hg)
        clear hg
        rw [HAB.out]
        cases hxy : leqP R X Y
        all_goals (have HXY := Lib.hid hxy; clear hxy)
        · go_wp2_with fail
          refine (leqP_any _ _ _ _ _ _ _ Vvr.out.1.1 Vvx.out.1 Vvy.out.1).mono ?_
          rintro e w10 ⟨rfl, hg⟩
          replace Vvr := Lib.hid (Vvr.out.step hg)
          replace Vva := Lib.hid (Vva.out.step hg)
          replace Vvb := Lib.hid (Vvb.out.step hg)
          replace Vvx := Lib.hid (Vvx.out.step hg)
          replace Vvy := Lib.hid (Vvy.out.step hg)
          replace HS := Lib.hid (HS.out.step hg)
          clear hg
          rw [HXY.out]
          go_wp2_with fail
          go_ret
          exact ⟨rfl, HS.out.below⟩
        · go_wp2_with fail
          refine (leqP_any _ _ _ _ _ _ _ Vvr.out.1.1 Vvx.out.1 Vvy.out.1).mono ?_
          rintro e w10 ⟨rfl, hg⟩
          replace Vvr := Lib.hid (Vvr.out.step hg)
          replace Vva := Lib.hid (Vva.out.step hg)
          replace Vvb := Lib.hid (Vvb.out.step hg)
          replace Vvx := Lib.hid (Vvx.out.step hg)
          replace Vvy := Lib.hid (Vvy.out.step hg)
          replace HS := Lib.hid (HS.out.step hg)
          clear hg
          rw [HXY.out]
          have HJ : Hid (leqP R (A ++ X) (B ++ Y) = true) := Lib.hid (by
            obtain ⟨h1, h2, h3⟩ := (leqP_iff _ _ _).1 HAB.out
            obtain ⟨h4, h5, h6⟩ := (leqP_iff _ _ _).1 HXY.out
            have key : ∀ {u v : List Int}, validP R u = true → validP R v = true → u.length + v.length ≤ 12 → validP R ([] ++ u ++ v) = true := by
              intro u v hu hv hl
              have k1 := validP_le hu
              have k2 := validP_le hv
              unfold validP
              simp only [Bool.and_eq_true, decide_eq_true_eq, List.all_eq_true, List.nil_append]
              refine ⟨⟨k1.1, by rw [List.length_append]; omega⟩, fun z hz => ?_⟩
              rcases List.mem_append.1 hz with hz | hz
              · exact letB_in (k1.2.2 z hz).1 (k1.2.2 z hz).2
              · exact letB_in (k2.2.2 z hz).1 (k2.2.2 z hz).2
            exact (leqP_iff _ _ _).2 ⟨by simpa using key h1 h4 (by omega), by simpa using key h2 h5 (by omega), leP_join h6 HA0.out h3⟩)
          have n1 : ([] : List Int).length + A.length ≤ 1000000000000 := by simp; omega
          have n2 : ([] ++ A : List Int).length + X.length ≤ 1000000000000 := by simp; omega
          have n3 : ([] : List Int).length + B.length ≤ 1000000000000 := by simp; omega
          have n4 : ([] ++ B : List Int).length + Y.length ≤ 1000000000000 := by simp; omega
          go_wp2_with (at_builtin; refine app_ints rfl (.const (.slice none 0 0)) (.tmp 47) rfl w10.heap.size (.slice none 0 0) [] (by kernel_rfl) (OwnI.nil _ _) (.slice ba A.length ca) A (by kernel_rfl) Vva.out.1.1 Vva.out.1.2.1 n1 (Nat.le_refl _) ?_)
          intro v48 w48 ho hg
          have O48 := Lib.hid ho; have G48 : Hid (w10.grownBy w48 none) := Lib.hid hg
          clear ho hg
          go_wp2_with (at_builtin; refine app_ints rfl (.tmp 48) (.tmp 49) rfl w10.heap.size v48 ([] ++ A) (by kernel_rfl) O48.out (.slice bx X.length cx) X (by kernel_rfl) (Vvx.out.step G48.out).1.1 Vvx.out.1.2.1 n2 G48.out.size ?_)
          intro v50 w50 ho hg
          have O50 := Lib.hid ho; have G50 : Hid (w10.grownBy w50 none) := Lib.hid (grown_then G48.out hg (fun j hj => .inl (O48.out.fresh j hj).1))
          clear ho hg
          go_wp2_with (at_builtin; refine app_ints rfl (.const (.slice none 0 0)) (.tmp 51) rfl w50.heap.size (.slice none 0 0) [] (by kernel_rfl) (OwnI.nil _ _) (.slice bb B.length cb) B (by kernel_rfl) (Vvb.out.step G50.out).1.1 Vvb.out.1.2.1 n3 (Nat.le_refl _) ?_)
          intro v52 w52 ho hg
          have O52 := Lib.hid ho; have G52 : Hid (w50.grownBy w52 none) := Lib.hid hg
          clear ho hg
          go_wp2_with (at_builtin; refine app_ints rfl (.tmp 52) (.tmp 53) rfl w50.heap.size v52 ([] ++ B) (by kernel_rfl) O52.out (.slice bk Y.length cy) Y (by kernel_rfl) (Vvy.out.step (grown_trans G50.out G52.out)).1.1 Vvy.out.1.2.1 n4 G52.out.size ?_)
          intro v54 w54 ho hg
          have O54 := Lib.hid ho; have G54 : Hid (w50.grownBy w54 none) := Lib.hid (grown_then G52.out hg (fun j hj => .inl (O52.out.fresh j hj).1))
          clear ho hg
          have hbd : ∀ {u v : List Int}, (∀ z ∈ u, 0 ≤ z ∧ z < 2) → (∀ z ∈ v, 0 ≤ z ∧ z < 2) → ∀ z ∈ [] ++ u ++ v, -9223372036854775808 ≤ z ∧ z ≤ 9223372036854775807 := by
            intro u v hu hv z hz
            rcases List.mem_append.1 hz with hz | hz
            · have := hu z (by simpa using hz); omega
            · have := hv z hz; omega
          have R50 := Lib.hid ((O50.out.row (hbd PA.out PX.out)).same G54.out); have R54 := Lib.hid (O54.out.row (hbd PB.out PY.out))
          have GF := Lib.hid (grown_trans G50.out G54.out)
          clear hbd
          go_wp2_with fail
          refine (leqP_any _ _ _ _ _ _ _ (Vvr.out.step GF.out).1.1 R50.out R54.out).mono ?_
          rintro e w60 ⟨rfl, hg⟩
          rw [show leqP (vr, R).snd (A ++ X) (B ++ Y) = true from HJ.out]
          replace HS := Lib.hid ((HS.out.step GF.out).step hg)
          clear hg
          go_wp2_with fail
          go_ret
          exact ⟨rfl, HS.out.below⟩
  · go_enter Try.func12, Try.ntmps12
    go_wp2_with fail
    refine (awake05_any _).mono ?_
    rintro e w1 ⟨rfl, hg⟩
    have HG := Lib.hid hg
    clear hg
    go_wp2_with fail
    refine (few_any _ _ _ _).mono ?_
    rintro e w2 ⟨rfl, rfl⟩
    rw [decide_eq_false (by omega)]
    go_wp2_with fail
    refine (awake05_any _).mono ?_
    rintro e w3 ⟨rfl, hg⟩
    have HG := Lib.hid (grown_trans HG.out hg)
    clear hg
    go_wp2_with fail
    go_ret
    exact ⟨rfl, below_of HG.out⟩

/-! ### PriorityJoins: the statement, from its walk -/
set_option maxRecDepth 100000 in
theorem liftedPriorityJoins (os : Os) (started : os.Started) (H : Type) (enc : TypeId × Value → H) :
    ReturnsInHanded {} Try.checked os 12 .any (Rows.priorityJoinsSpec.pre6 enc Try.prog Try.f12 Rows.priorityJoinsRow.domain false) (Rows.priorityJoinsSpec.post enc Try.prog Try.f12 false true false false) := by
  refine returnsInHanded_of_change (C := Try.checked) own started (by kernel_rfl) Try.func12
    (ChangeSpec.witness6 (enc := enc) (C := Try.checked) false ⟨#[], #[.slice none 0 0], []⟩ 8 (by kernel_rfl) (by kernel_rfl) (by kernel_rfl) (by kernel_rfl)) ?_
  intro W base args ds gs before hval0 hW hcnd _
  have hval : ∀ (j : Nat) t v, Try.f12.params[j]? = some t → args[j]? = some v → Value.okWide Try.prog W .any base t v := hval0
  have hW' := hW
  obtain ⟨p, q, hA0, hV, rfl, hfz, hnd⟩ := hW
  have hA : DataW.TrodAll enc Try.prog W 0 (fun _ => true) true Try.f12.params.toList args.toList ds p := hA0
  rw [Try.params12] at hA hval
  obtain ⟨v0, vs0, d0, ds0, p0, q0, hargs, rfl, rfl, h0, r0⟩ := trodAll_cons hA
  obtain ⟨rfl, rfl, rfl⟩ := trodAll_nil r0
  obtain rfl : args = #[v0] := by cases args; simp_all
  obtain ⟨rfl, rfl⟩ := trodVars_none hV
  obtain ⟨a0, len0, cap0, rfl⟩ := okWide_slice Try.underlying22 (hval 0 22 v0 rfl rfl)
  have k0 := h0
  have lt0 : ∀ x ∈ p0, x.block < W.heap.size := by obtain ⟨m, hm⟩ := k0; exact DataW.trod_lt m _ _ _ hm
  obtain ⟨z0, w0⟩ : ∃ zs, IsRow .i64 W a0 len0 cap0 zs := by
    obtain ⟨fuel, hf⟩ := h0
    rcases open_ints Try.underlying22 Try.underlying3 (by kernel_rfl) hf with ⟨hcs, _⟩ | ⟨x, l, c, zs, hcs, _, hl, hm, hz, _, hcell, hwz⟩
    · simp [Value.cells] at hcs
      obtain ⟨rfl, rfl, rfl⟩ := hcs
      exact ⟨[], .inl ⟨rfl, rfl, rfl, rfl⟩⟩
    · simp [Value.cells] at hcs
      obtain ⟨rfl, rfl, rfl⟩ := hcs
      exact ⟨zs, .inr ⟨_, rfl, hl, hm, by simpa using hz, hcell, hwz⟩⟩
  clear hA0 hval0
  refine (walkPriorityJoins a0 len0 cap0 z0 W w0).mono fun e W' ⟨he, bel⟩ => ?_
  subst he
  exact ⟨_, rfl, _, _, _, [], _, [], hW', trodAll_mk1 (shut_bool Try.underlying4 _), (trodAll_cons_mk (Below.trod laidOut (by kernel_rfl) (of_decide_eq_true (by kernel_rfl)) k0 bel lt0) trodAll_mk0), rfl, bel.frame _, fun h => by cases h⟩

theorem priorityJoins_holds : Rows.PriorityJoinsSaid :=
  OpenClaim.holds_of_wide 12 Try.f12 rfl rfl rfl rfl rfl rfl rfl ⟨rfl, rfl, rfl, rfl, rfl⟩ rfl rfl rfl rfl rfl (by kernel_rfl) Try.func12 (by kernel_rfl)
    (of_decide_eq_true (by kernel_rfl)) (by unfold Func.isWrapper; first | (rw [if_pos (by decide +kernel)]; kernel_rfl) | (rw [if_neg (by decide +kernel)]; exact ⟨rfl, rfl⟩))
    (fun os started H enc _ => liftedPriorityJoins os started H enc)
#print axioms priorityJoins_holds
end Go.Proofs.Ytaenkbcclgpphaa
