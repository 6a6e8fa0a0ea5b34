/- PriorityOrder: for every input it answers true. -/
import Derived.Test.YtaenkbcclgpphaaPn
namespace Go.Proofs.Ytaenkbcclgpphaa
open Go.ChangeShapes Go.WideShapes Go.ChangeAt Go.RowKit
set_option linter.unusedVariables false

set_option maxRecDepth 100000 in
set_option maxHeartbeats 6000000 in
theorem walkPriorityOrder (a0 : Option Addr) (len0 cap0 : Nat) (z0 : List Int) (w : World) (w0 : IsRow .i64 w a0 len0 cap0 z0) :
    Calls Try.prog 10 #[.slice a0 len0 cap0] w fun e w' => e = .returned (.bool true) ∧ Below w.heap.size w w' := by
  obtain ⟨hI, hlen⟩ := w0.ints
  generalize z0.take len0 = zs at hI hlen
  subst hlen
  have HI := Lib.hid hI
  clear hI w0
  by_cases hfew : (zs.length : Int) ≤ 400
  · go_enter Try.func10, Try.ntmps10
    go_wp2_with fail
    refine (awake05_any _).mono ?_
    rintro e w1 ⟨rfl, hg⟩
    have HG := Lib.hid hg
    clear hg
    go_wp2_with fail
    refine (few_any _ _ _ _).mono ?_
    rintro e w2 ⟨rfl, rfl⟩
    rw [decide_eq_true hfew]
    go_wp2_with fail
    refine (new_st (HI.out.same HG.out) HG.out).mono ?_
    rintro e w3 ⟨p, d, rfl, hs⟩
    have HS := Lib.hid hs
    clear hs HG HI
    go_wp2_with fail
    refine (ranks_st HS.out 2 (by omega) (by omega)).mono ?_
    rintro e w4 ⟨vr, R, rfl, hlR, hpR, hv, hs, hg⟩
    have Vvr := Lib.hid hv; replace HS := Lib.hid hs; have LR := Lib.hid hlR; have PR := Lib.hid hpR
    have KR := Lib.hid (ranks_ok hlR (by omega) (by omega) hpR)
    clear hv hs hg hlR hpR
    go_wp2_with fail
    refine (word_st HS.out 2 3 (by omega) (by omega) (by omega) (by omega)).mono ?_
    rintro e w5 ⟨va, A, rfl, hlA, hpA, hv, hs, hg⟩
    replace Vvr := Lib.hid (Vvr.out.deal hg)
    have Vva := Lib.hid hv; replace HS := Lib.hid hs; have LA := Lib.hid hlA; have PA := Lib.hid hpA
    clear hv hs hg hlA hpA
    go_wp2_with fail
    refine (word_st HS.out 2 5 (by omega) (by omega) (by omega) (by omega)).mono ?_
    rintro e w6 ⟨vb, B, rfl, hlB, hpB, hv, hs, hg⟩
    replace Vvr := Lib.hid (Vvr.out.deal hg)
    replace Vva := Lib.hid (Vva.out.deal hg)
    have Vvb := Lib.hid hv; replace HS := Lib.hid hs; have LB := Lib.hid hlB; have PB := Lib.hid hpB
    clear hv hs hg hlB hpB
    go_wp2_with fail
    refine (word_st HS.out 2 8 (by omega) (by omega) (by omega) (by omega)).mono ?_
    rintro e w7 ⟨vc, C, rfl, hlC, hpC, hv, hs, hg⟩
    replace Vvr := Lib.hid (Vvr.out.deal hg)
    replace Vva := Lib.hid (Vva.out.deal hg)
    replace Vvb := Lib.hid (Vvb.out.deal hg)
    have Vvc := Lib.hid hv; replace HS := Lib.hid hs; have LC := Lib.hid hlC; have PC := Lib.hid hpC
    clear hv hs hg hlC hpC
    have VB := Lib.hid (word_ok KR.out LB.out PB.out (by omega) (by have := LR.out; omega))
    have HBB : Hid (leqP R B B = true) := Lib.hid (leqP_refl VB.out)
    obtain ⟨bb, cb, rfl, hmb⟩ := Vvb.out.slice
    obtain ⟨bc, cc, rfl, hmc⟩ := Vvc.out.slice
    have hlb : B.length ≤ 5 := by have := LB.out; omega
    have hlc : C.length ≤ 8 := by have := LC.out; omega
    clear hmb hmc
    go_wp2_with fail
    refine (leqP_any _ _ _ _ _ _ _ Vvr.out.1.1 Vvb.out.1 Vvb.out.1).mono ?_
    rintro e w8 ⟨rfl, hg⟩
    replace Vvr := Lib.hid (Vvr.out.step hg)
    replace Vva := Lib.hid (Vva.out.step hg)
    replace Vvb := Lib.hid (Vvb.out.step hg)
    replace Vvc := Lib.hid (Vvc.out.step hg)
    replace HS := Lib.hid (HS.out.step hg)
    clear hg
    rw [HBB.out]
    cases hab : leqP R A B
    all_goals (have HAB := Lib.hid hab; clear hab)
    · go_wp2_with fail
      refine (leqP_any _ _ _ _ _ _ _ Vvr.out.1.1 Vva.out.1 Vvb.out.1).mono ?_
      rintro e w9 ⟨rfl, hg⟩
      replace Vvr := Lib.hid (Vvr.out.step hg)
      replace Vva := Lib.hid (Vva.out.step hg)
      replace Vvb := Lib.hid (Vvb.out.step hg)
      replace Vvc := Lib.hid (Vvc.out.step hg)
      replace HS := Lib.hid (HS.out.step hg)
      clear hg
      rw [HAB.out]
      cases hbc : leqP R B C
      all_goals (have HBC := Lib.hid hbc; clear hbc)
      · go_wp2_with fail
        refine (leqP_any _ _ _ _ _ _ _ Vvr.out.1.1 Vvb.out.1 Vvc.out.1).mono ?_
        rintro e w10 ⟨rfl, hg⟩
        replace Vvr := Lib.hid (Vvr.out.step hg)
        replace Vva := Lib.hid (Vva.out.step hg)
        replace Vvb := Lib.hid (Vvb.out.step hg)
        replace Vvc := Lib.hid (Vvc.out.step hg)
        replace HS := Lib.hid (HS.out.step hg)
        clear hg
        rw [HBC.out]
        go_wp2_with fail
        refine (leqP_any _ _ _ _ _ _ _ Vvr.out.1.1 Vvb.out.1 Vvc.out.1).mono ?_
        rintro e w11 ⟨rfl, hg⟩
        replace Vvr := Lib.hid (Vvr.out.step hg)
        replace Vva := Lib.hid (Vva.out.step hg)
        replace Vvb := Lib.hid (Vvb.out.step hg)
        replace Vvc := Lib.hid (Vvc.out.step hg)
        replace HS := Lib.hid (HS.out.step hg)
        clear hg
        rw [HBC.out]
        go_wp2_with fail
        go_ret
        exact ⟨rfl, HS.out.below⟩
      · go_wp2_with fail
        refine (leqP_any _ _ _ _ _ _ _ Vvr.out.1.1 Vvb.out.1 Vvc.out.1).mono ?_
        rintro e w10 ⟨rfl, hg⟩
        replace Vvr := Lib.hid (Vvr.out.step hg)
        replace Vva := Lib.hid (Vva.out.step hg)
        replace Vvb := Lib.hid (Vvb.out.step hg)
        replace Vvc := Lib.hid (Vvc.out.step hg)
        replace HS := Lib.hid (HS.out.step hg)
        clear hg
        rw [HBC.out]
        cases hcb : leqP R C B
        all_goals (have HCB := Lib.hid hcb; clear hcb)
        · go_wp2_with fail
          refine (leqP_any _ _ _ _ _ _ _ Vvr.out.1.1 Vvc.out.1 Vvb.out.1).mono ?_
          rintro e w11 ⟨rfl, hg⟩
          replace Vvr := Lib.hid (Vvr.out.step hg)
          replace Vva := Lib.hid (Vva.out.step hg)
          replace Vvb := Lib.hid (Vvb.out.step hg)
          replace Vvc := Lib.hid (Vvc.out.step hg)
          replace HS := Lib.hid (HS.out.step hg)
          clear hg
          rw [HCB.out]
          go_wp2_with fail
          refine (leqP_any _ _ _ _ _ _ _ Vvr.out.1.1 Vvb.out.1 Vvc.out.1).mono ?_
          rintro e w12 ⟨rfl, hg⟩
          replace Vvr := Lib.hid (Vvr.out.step hg)
          replace Vva := Lib.hid (Vva.out.step hg)
          replace Vvb := Lib.hid (Vvb.out.step hg)
          replace Vvc := Lib.hid (Vvc.out.step hg)
          replace HS := Lib.hid (HS.out.step hg)
          clear hg
          rw [HBC.out]
          have HW := Lib.hid (leqP_word HBC.out)
          by_cases hb0 : B.length = 0
          · have hc0 : C.length = 0 := by
              have h1 := ((leqP_iff _ _ _).1 HBC.out).2.2
              have h2 := (leP_ne h1).1 (List.eq_nil_of_length_eq_zero hb0)
              rw [h2]; rfl
            have z1 : ((B.length : Int) == 0) = true := by rw [beq_iff_eq]; omega
            have z2 : ((C.length : Int) == 0) = true := by rw [beq_iff_eq]; omega
            clear hb0 hc0
            go_wp2_with fail
            have GX : Hid (w12.grownBy w12.drew none) := Lib.hid (grown_drew _ none)
            refine wp_region_any (by kernel_rfl) ?_
            change wpAny _ _ _ _ _ _ _ (World.drew _)
            refine wpAny_take (i := 0) (v := .slice bb B.length cb) rfl (by kernel_rfl) (by kernel_rfl) (by kernel_rfl) (fun _ _ _ h => h) (Or.inl ⟨by kernel_rfl, fun _ => by kernel_rfl⟩) ?_
            refine wpAny_take (i := 1) (v := .slice bc C.length cc) rfl (by kernel_rfl) (by kernel_rfl) (by kernel_rfl) (fun _ _ _ h => h) (Or.inl ⟨by kernel_rfl, fun _ => by kernel_rfl⟩) ?_
            refine wpAny_ready (rs := [2]) (by kernel_rfl) (by simp) (AllReady.cons rfl (fun K hK => ?_) AllReady.nil)
            refine step_call 75 22 _ _ _ _ _ Try.f22 _ Try.func22 (by kernel_rfl) rfl [.slice bb B.length cb, .slice bc C.length cc] (by kernel_rfl) _ (rleqW_any _ _ _ _ _ (Vvb.out.step GX.out).1.1 (Vvc.out.step GX.out).1.1) ?_
            rintro e w99 ⟨rfl, hg⟩
            rw [HW.out]
            refine ⟨_, rfl, ?_⟩
            replace GX : Hid (w12.grownBy w99 none) := Lib.hid (grown_trans GX.out hg)
            clear hg
            refine hK _ _ ?_
            clear hK K
            refine wpAny_take (i := 3) (v := .bool true) rfl (by kernel_rfl) (by kernel_rfl) (by kernel_rfl) (fun _ _ _ h => h) (Or.inl ⟨by kernel_rfl, fun _ => by kernel_rfl⟩) ?_
            refine wpAny_take (i := 4) (v := .slice bb B.length cb) rfl (by kernel_rfl) (by kernel_rfl) (by kernel_rfl) (fun _ _ _ h => h) (Or.inl ⟨by kernel_rfl, fun _ => by kernel_rfl⟩) ?_
            refine wpAny_take (i := 5) (v := .int .i64 (B.length : Int)) rfl (by kernel_rfl) (by kernel_rfl) (by kernel_rfl) (fun _ _ _ h => h) (Or.inl ⟨by kernel_rfl, fun _ => by kernel_rfl⟩) ?_
            refine wpAny_take (i := 6) (v := .bool true) rfl (by kernel_rfl) (by kernel_rfl) (by kernel_rfl) (fun _ _ _ h => h) (Or.inl ⟨by kernel_rfl, fun _ => by go_simp⟩) ?_
            refine wpAny_take (i := 7) (v := .slice bc C.length cc) rfl (by kernel_rfl) (by kernel_rfl) (by kernel_rfl) (fun _ _ _ h => h) (Or.inl ⟨by kernel_rfl, fun _ => by kernel_rfl⟩) ?_
            refine wpAny_take (i := 8) (v := .int .i64 (C.length : Int)) rfl (by kernel_rfl) (by kernel_rfl) (by kernel_rfl) (fun _ _ _ h => h) (Or.inl ⟨by kernel_rfl, fun _ => by kernel_rfl⟩) ?_
            refine wpAny_take (i := 9) (v := .bool true) rfl (by kernel_rfl) (by kernel_rfl) (by kernel_rfl) (fun _ _ _ h => h) (Or.inl ⟨by kernel_rfl, fun _ => by go_simp⟩) ?_
            refine wpAny_take (i := 10) (v := .bool true) rfl (by kernel_rfl) (by kernel_rfl) (by kernel_rfl) (fun _ _ _ h => h) (Or.inl ⟨by kernel_rfl, fun _ => by kernel_rfl⟩) ?_
            refine wpAny_take (i := 11) (v := .bool true) rfl (by kernel_rfl) (by kernel_rfl) (by kernel_rfl) (fun _ _ _ h => h) (Or.inl ⟨by kernel_rfl, fun _ => by kernel_rfl⟩) ?_
            refine wpAny_take (i := 12) (v := .bool true) rfl (by kernel_rfl) (by kernel_rfl) (by kernel_rfl) (fun _ _ _ h => h) (Or.inl ⟨by kernel_rfl, fun _ => by kernel_rfl⟩) ?_
            refine wpAny_take (i := 13) (v := .slice bb B.length cb) rfl (by kernel_rfl) (by kernel_rfl) (by kernel_rfl) (fun _ _ _ h => h) (Or.inl ⟨by kernel_rfl, fun _ => by kernel_rfl⟩) ?_
            refine wpAny_take (i := 14) (v := .int .i64 (B.length : Int)) rfl (by kernel_rfl) (by kernel_rfl) (by kernel_rfl) (fun _ _ _ h => h) (Or.inl ⟨by kernel_rfl, fun _ => by kernel_rfl⟩) ?_
            refine wpAny_take (i := 15) (v := .bool true) rfl (by kernel_rfl) (by kernel_rfl) (by kernel_rfl) (fun _ _ _ h => h) (Or.inl ⟨by kernel_rfl, fun _ => by go_simp⟩) ?_
            refine wpAny_take (i := 16) (v := .bool true) rfl (by kernel_rfl) (by kernel_rfl) (by kernel_rfl) (fun _ _ _ h => h) (Or.inl ⟨by kernel_rfl, fun _ => by kernel_rfl⟩) ?_
            refine wpAny_take (i := 17) (v := undef) rfl (by kernel_rfl) (by kernel_rfl) (by kernel_rfl) (fun _ _ _ h => h) (Or.inr ⟨by kernel_rfl, rfl⟩) ?_
            refine wpAny_take (i := 18) (v := undef) rfl (by kernel_rfl) (by kernel_rfl) (by kernel_rfl) (fun _ _ _ h => h) (Or.inr ⟨by kernel_rfl, rfl⟩) ?_
            refine wpAny_take (i := 19) (v := undef) rfl (by kernel_rfl) (by kernel_rfl) (by kernel_rfl) (fun _ _ _ h => h) (Or.inr ⟨by kernel_rfl, rfl⟩) ?_
            refine wpAny_take (i := 20) (v := undef) rfl (by kernel_rfl) (by kernel_rfl) (by kernel_rfl) (fun _ _ _ h => h) (Or.inr ⟨by kernel_rfl, rfl⟩) ?_
            refine wpAny_take (i := 21) (v := undef) rfl (by kernel_rfl) (by kernel_rfl) (by kernel_rfl) (fun _ _ _ h => h) (Or.inr ⟨by kernel_rfl, rfl⟩) ?_
            refine wpAny_take (i := 22) (v := undef) rfl (by kernel_rfl) (by kernel_rfl) (by kernel_rfl) (fun _ _ _ h => h) (Or.inr ⟨by kernel_rfl, rfl⟩) ?_
            refine wpAny_take (i := 23) (v := undef) rfl (by kernel_rfl) (by kernel_rfl) (by kernel_rfl) (fun _ _ _ h => h) (Or.inr ⟨by kernel_rfl, rfl⟩) ?_
            refine wpAny_take (i := 24) (v := undef) rfl (by kernel_rfl) (by kernel_rfl) (by kernel_rfl) (fun _ _ _ h => h) (Or.inr ⟨by kernel_rfl, rfl⟩) ?_
            refine wpAny_take (i := 25) (v := undef) rfl (by kernel_rfl) (by kernel_rfl) (by kernel_rfl) (fun _ _ _ h => h) (Or.inr ⟨by kernel_rfl, rfl⟩) ?_
            refine wpAny_take (i := 26) (v := undef) rfl (by kernel_rfl) (by kernel_rfl) (by kernel_rfl) (fun _ _ _ h => h) (Or.inr ⟨by kernel_rfl, rfl⟩) ?_
            refine wpAny_take (i := 27) (v := undef) rfl (by kernel_rfl) (by kernel_rfl) (by kernel_rfl) (fun _ _ _ h => h) (Or.inr ⟨by kernel_rfl, rfl⟩) ?_
            refine wpAny_take (i := 28) (v := undef) rfl (by kernel_rfl) (by kernel_rfl) (by kernel_rfl) (fun _ _ _ h => h) (Or.inr ⟨by kernel_rfl, rfl⟩) ?_
            refine wpAny_take (i := 29) (v := undef) rfl (by kernel_rfl) (by kernel_rfl) (by kernel_rfl) (fun _ _ _ h => h) (Or.inr ⟨by kernel_rfl, rfl⟩) ?_
            refine wpAny_take (i := 30) (v := .bool true) rfl (by kernel_rfl) (by kernel_rfl) (by kernel_rfl) (fun _ _ _ h => h) (Or.inl ⟨by kernel_rfl, fun _ => by kernel_rfl⟩) ?_
            refine wpAny_take (i := 31) (v := .bool true) rfl (by kernel_rfl) (by kernel_rfl) (by kernel_rfl) (fun _ _ _ h => h) (Or.inl ⟨by kernel_rfl, fun _ => by kernel_rfl⟩) ?_
            refine wpAny_ready (rs := [32]) (by kernel_rfl) (by simp) (AllReady.cons rfl (fun K hK => ?_) AllReady.nil)
            go_simp
            refine hK _ _ ?_
            clear hK K
            refine wpAny_done (by kernel_rfl) ?_ _
            replace HS := Lib.hid (HS.out.step GX.out)
            go_wp2_with fail
            go_ret
            exact ⟨rfl, HS.out.below⟩
          · obtain ⟨hc0, hlst⟩ := leqP_lasts HBC.out (show 0 < B.length by omega)
            have z1 : ((B.length : Int) == 0) = false := by rw [beq_eq_false_iff_ne]; omega
            have z2 : ((C.length : Int) == 0) = false := by rw [beq_eq_false_iff_ne]; omega
            obtain ⟨mb, hmb⟩ : ∃ mb, B.length = mb + 1 := ⟨B.length - 1, by omega⟩
            obtain ⟨mc, hmc⟩ : ∃ mc, C.length = mc + 1 := ⟨C.length - 1, by omega⟩
            have m1 : IntKind.i64.wrap ((B.length : Int) - 1) = (mb : Int) := by rw [IntWalk.i64_in _ (by omega)]; omega
            have m2 : IntKind.i64.wrap ((C.length : Int) - 1) = (mc : Int) := by rw [IntWalk.i64_in _ (by omega)]; omega
            have m3 : (mb : Int) < (B.length : Int) := by omega
            have m4 : (mc : Int) < (C.length : Int) := by omega
            rw [show B.length - 1 = mb by omega, show C.length - 1 = mc by omega] at hlst
            obtain ⟨_, _, hv, _, _, hcb⟩ := Vvb.out.1.1
            simp only [Value.slice.injEq] at hv
            obtain ⟨rfl, -, -⟩ := hv
            obtain ⟨b1, o1, rfl, hx⟩ := Ints.at hcb (show mb < B.length by omega)
            obtain ⟨_, _, hv, _, _, hcc⟩ := Vvc.out.1.1
            simp only [Value.slice.injEq] at hv
            obtain ⟨rfl, -, -⟩ := hv
            obtain ⟨b2, o2, rfl, hy⟩ := Ints.at hcc (show mc < C.length by omega)
            rw [← hlst] at hy
            have HX := Lib.hid hx; have HY := Lib.hid hy
            clear hcb hcc hlst hmb hmc hb0 hc0 hx hy
            generalize B[mb]?.getD 0 = z at *
            have hnn : ∀ g : Nat, some g ≠ (none : Option Nat) := by intro g; simp
            go_wp2_with fail
            have GX : Hid (w12.grownBy w12.drew none) := Lib.hid (grown_drew _ none)
            go_region_held3 (fun w' => w'.cell? ⟨b1, o1 + mb, none⟩ = some (.int .i64 z) ∧ w'.cell? ⟨b2, o2 + mc, none⟩ = some (.int .i64 z)) (first | exact ⟨GX.out.cell HX.out (hnn _), GX.out.cell HY.out (hnn _)⟩) (first
              | (refine step_call 75 22 _ _ _ _ _ Try.f22 _ Try.func22 (by kernel_rfl) rfl [.slice (some ⟨b1, o1, none⟩) B.length cb, .slice (some ⟨b2, o2, none⟩) C.length cc] (by kernel_rfl) _ (rleqW_any _ _ _ _ _ (Vvb.out.step GX.out).1.1 (Vvc.out.step GX.out).1.1) ?_; rintro e w99 ⟨rfl, hg⟩; rw [HW.out]; refine ⟨_, rfl, ?_⟩; replace GX : Hid (w12.grownBy w99 none) := Lib.hid (grown_trans GX.out hg); clear hg))
            replace HS := Lib.hid (HS.out.step GX.out)
            go_wp2_with fail
            go_ret
            exact ⟨rfl, HS.out.below⟩
        · go_wp2_with fail
          refine (leqP_any _ _ _ _ _ _ _ Vvr.out.1.1 Vvc.out.1 Vvb.out.1).mono ?_
          rintro e w11 ⟨rfl, hg⟩
          replace Vvr := Lib.hid (Vvr.out.step hg)
          replace Vva := Lib.hid (Vva.out.step hg)
          replace Vvb := Lib.hid (Vvb.out.step hg)
          replace Vvc := Lib.hid (Vvc.out.step hg)
          replace HS := Lib.hid (HS.out.step hg)
          clear hg
          rw [HCB.out]
          have HSM := Lib.hid (leqP_anti HBC.out HCB.out)
          go_wp2_with fail
          refine (same_any _ _ _ _ _ Vvb.out.1.1 Vvc.out.1.1).mono ?_
          rintro e w12 ⟨rfl, hd⟩
          replace Vvr := Lib.hid (Vvr.out.drew hd)
          replace Vva := Lib.hid (Vva.out.drew hd)
          replace Vvb := Lib.hid (Vvb.out.drew hd)
          replace Vvc := Lib.hid (Vvc.out.drew hd)
          replace HS := Lib.hid (HS.out.drew hd)
          clear hd
          rw [HSM.out]
          go_wp2_with fail
          refine (leqP_any _ _ _ _ _ _ _ Vvr.out.1.1 Vvb.out.1 Vvc.out.1).mono ?_
          rintro e w13 ⟨rfl, hg⟩
          replace Vvr := Lib.hid (Vvr.out.step hg)
          replace Vva := Lib.hid (Vva.out.step hg)
          replace Vvb := Lib.hid (Vvb.out.step hg)
          replace Vvc := Lib.hid (Vvc.out.step hg)
          replace HS := Lib.hid (HS.out.step hg)
          clear hg
          rw [HBC.out]
          have HW := Lib.hid (leqP_word HBC.out)
          by_cases hb0 : B.length = 0
          · have hc0 : C.length = 0 := by
              have h1 := ((leqP_iff _ _ _).1 HBC.out).2.2
              have h2 := (leP_ne h1).1 (List.eq_nil_of_length_eq_zero hb0)
              rw [h2]; rfl
            have z1 : ((B.length : Int) == 0) = true := by rw [beq_iff_eq]; omega
            have z2 : ((C.length : Int) == 0) = true := by rw [beq_iff_eq]; omega
            clear hb0 hc0
            go_wp2_with fail
            have GX : Hid (w13.grownBy w13.drew none) := Lib.hid (grown_drew _ none)
            refine wp_region_any (by kernel_rfl) ?_
            change wpAny _ _ _ _ _ _ _ (World.drew _)
            refine wpAny_take (i := 0) (v := .slice bb B.length cb) rfl (by kernel_rfl) (by kernel_rfl) (by kernel_rfl) (fun _ _ _ h => h) (Or.inl ⟨by kernel_rfl, fun _ => by kernel_rfl⟩) ?_
            refine wpAny_take (i := 1) (v := .slice bc C.length cc) rfl (by kernel_rfl) (by kernel_rfl) (by kernel_rfl) (fun _ _ _ h => h) (Or.inl ⟨by kernel_rfl, fun _ => by kernel_rfl⟩) ?_
            refine wpAny_ready (rs := [2]) (by kernel_rfl) (by simp) (AllReady.cons rfl (fun K hK => ?_) AllReady.nil)
            refine step_call 75 22 _ _ _ _ _ Try.f22 _ Try.func22 (by kernel_rfl) rfl [.slice bb B.length cb, .slice bc C.length cc] (by kernel_rfl) _ (rleqW_any _ _ _ _ _ (Vvb.out.step GX.out).1.1 (Vvc.out.step GX.out).1.1) ?_
            rintro e w99 ⟨rfl, hg⟩
            rw [HW.out]
            refine ⟨_, rfl, ?_⟩
            replace GX : Hid (w13.grownBy w99 none) := Lib.hid (grown_trans GX.out hg)
            clear hg
            refine hK _ _ ?_
            clear hK K
            refine wpAny_take (i := 3) (v := .bool true) rfl (by kernel_rfl) (by kernel_rfl) (by kernel_rfl) (fun _ _ _ h => h) (Or.inl ⟨by kernel_rfl, fun _ => by kernel_rfl⟩) ?_
            refine wpAny_take (i := 4) (v := .slice bb B.length cb) rfl (by kernel_rfl) (by kernel_rfl) (by kernel_rfl) (fun _ _ _ h => h) (Or.inl ⟨by kernel_rfl, fun _ => by kernel_rfl⟩) ?_
            refine wpAny_take (i := 5) (v := .int .i64 (B.length : Int)) rfl (by kernel_rfl) (by kernel_rfl) (by kernel_rfl) (fun _ _ _ h => h) (Or.inl ⟨by kernel_rfl, fun _ => by kernel_rfl⟩) ?_
            refine wpAny_take (i := 6) (v := .bool true) rfl (by kernel_rfl) (by kernel_rfl) (by kernel_rfl) (fun _ _ _ h => h) (Or.inl ⟨by kernel_rfl, fun _ => by go_simp⟩) ?_
            refine wpAny_take (i := 7) (v := .slice bc C.length cc) rfl (by kernel_rfl) (by kernel_rfl) (by kernel_rfl) (fun _ _ _ h => h) (Or.inl ⟨by kernel_rfl, fun _ => by kernel_rfl⟩) ?_
            refine wpAny_take (i := 8) (v := .int .i64 (C.length : Int)) rfl (by kernel_rfl) (by kernel_rfl) (by kernel_rfl) (fun _ _ _ h => h) (Or.inl ⟨by kernel_rfl, fun _ => by kernel_rfl⟩) ?_
            refine wpAny_take (i := 9) (v := .bool true) rfl (by kernel_rfl) (by kernel_rfl) (by kernel_rfl) (fun _ _ _ h => h) (Or.inl ⟨by kernel_rfl, fun _ => by go_simp⟩) ?_
            refine wpAny_take (i := 10) (v := .bool true) rfl (by kernel_rfl) (by kernel_rfl) (by kernel_rfl) (fun _ _ _ h => h) (Or.inl ⟨by kernel_rfl, fun _ => by kernel_rfl⟩) ?_
            refine wpAny_take (i := 11) (v := .bool true) rfl (by kernel_rfl) (by kernel_rfl) (by kernel_rfl) (fun _ _ _ h => h) (Or.inl ⟨by kernel_rfl, fun _ => by kernel_rfl⟩) ?_
            refine wpAny_take (i := 12) (v := .bool true) rfl (by kernel_rfl) (by kernel_rfl) (by kernel_rfl) (fun _ _ _ h => h) (Or.inl ⟨by kernel_rfl, fun _ => by kernel_rfl⟩) ?_
            refine wpAny_take (i := 13) (v := .slice bb B.length cb) rfl (by kernel_rfl) (by kernel_rfl) (by kernel_rfl) (fun _ _ _ h => h) (Or.inl ⟨by kernel_rfl, fun _ => by kernel_rfl⟩) ?_
            refine wpAny_take (i := 14) (v := .int .i64 (B.length : Int)) rfl (by kernel_rfl) (by kernel_rfl) (by kernel_rfl) (fun _ _ _ h => h) (Or.inl ⟨by kernel_rfl, fun _ => by kernel_rfl⟩) ?_
            refine wpAny_take (i := 15) (v := .bool true) rfl (by kernel_rfl) (by kernel_rfl) (by kernel_rfl) (fun _ _ _ h => h) (Or.inl ⟨by kernel_rfl, fun _ => by go_simp⟩) ?_
            refine wpAny_take (i := 16) (v := .bool true) rfl (by kernel_rfl) (by kernel_rfl) (by kernel_rfl) (fun _ _ _ h => h) (Or.inl ⟨by kernel_rfl, fun _ => by kernel_rfl⟩) ?_
            refine wpAny_take (i := 17) (v := undef) rfl (by kernel_rfl) (by kernel_rfl) (by kernel_rfl) (fun _ _ _ h => h) (Or.inr ⟨by kernel_rfl, rfl⟩) ?_
            refine wpAny_take (i := 18) (v := undef) rfl (by kernel_rfl) (by kernel_rfl) (by kernel_rfl) (fun _ _ _ h => h) (Or.inr ⟨by kernel_rfl, rfl⟩) ?_
            refine wpAny_take (i := 19) (v := undef) rfl (by kernel_rfl) (by kernel_rfl) (by kernel_rfl) (fun _ _ _ h => h) (Or.inr ⟨by kernel_rfl, rfl⟩) ?_
            refine wpAny_take (i := 20) (v := undef) rfl (by kernel_rfl) (by kernel_rfl) (by kernel_rfl) (fun _ _ _ h => h) (Or.inr ⟨by kernel_rfl, rfl⟩) ?_
            refine wpAny_take (i := 21) (v := undef) rfl (by kernel_rfl) (by kernel_rfl) (by kernel_rfl) (fun _ _ _ h => h) (Or.inr ⟨by kernel_rfl, rfl⟩) ?_
            refine wpAny_take (i := 22) (v := undef) rfl (by kernel_rfl) (by kernel_rfl) (by kernel_rfl) (fun _ _ _ h => h) (Or.inr ⟨by kernel_rfl, rfl⟩) ?_
            refine wpAny_take (i := 23) (v := undef) rfl (by kernel_rfl) (by kernel_rfl) (by kernel_rfl) (fun _ _ _ h => h) (Or.inr ⟨by kernel_rfl, rfl⟩) ?_
            refine wpAny_take (i := 24) (v := undef) rfl (by kernel_rfl) (by kernel_rfl) (by kernel_rfl) (fun _ _ _ h => h) (Or.inr ⟨by kernel_rfl, rfl⟩) ?_
            refine wpAny_take (i := 25) (v := undef) rfl (by kernel_rfl) (by kernel_rfl) (by kernel_rfl) (fun _ _ _ h => h) (Or.inr ⟨by kernel_rfl, rfl⟩) ?_
            refine wpAny_take (i := 26) (v := undef) rfl (by kernel_rfl) (by kernel_rfl) (by kernel_rfl) (fun _ _ _ h => h) (Or.inr ⟨by kernel_rfl, rfl⟩) ?_
            refine wpAny_take (i := 27) (v := undef) rfl (by kernel_rfl) (by kernel_rfl) (by kernel_rfl) (fun _ _ _ h => h) (Or.inr ⟨by kernel_rfl, rfl⟩) ?_
            refine wpAny_take (i := 28) (v := undef) rfl (by kernel_rfl) (by kernel_rfl) (by kernel_rfl) (fun _ _ _ h => h) (Or.inr ⟨by kernel_rfl, rfl⟩) ?_
            refine wpAny_take (i := 29) (v := undef) rfl (by kernel_rfl) (by kernel_rfl) (by kernel_rfl) (fun _ _ _ h => h) (Or.inr ⟨by kernel_rfl, rfl⟩) ?_
            refine wpAny_take (i := 30) (v := .bool true) rfl (by kernel_rfl) (by kernel_rfl) (by kernel_rfl) (fun _ _ _ h => h) (Or.inl ⟨by kernel_rfl, fun _ => by kernel_rfl⟩) ?_
            refine wpAny_take (i := 31) (v := .bool true) rfl (by kernel_rfl) (by kernel_rfl) (by kernel_rfl) (fun _ _ _ h => h) (Or.inl ⟨by kernel_rfl, fun _ => by kernel_rfl⟩) ?_
            refine wpAny_ready (rs := [32]) (by kernel_rfl) (by simp) (AllReady.cons rfl (fun K hK => ?_) AllReady.nil)
            go_simp
            refine hK _ _ ?_
            clear hK K
            refine wpAny_done (by kernel_rfl) ?_ _
            replace HS := Lib.hid (HS.out.step GX.out)
            go_wp2_with fail
            go_ret
            exact ⟨rfl, HS.out.below⟩
          · obtain ⟨hc0, hlst⟩ := leqP_lasts HBC.out (show 0 < B.length by omega)
            have z1 : ((B.length : Int) == 0) = false := by rw [beq_eq_false_iff_ne]; omega
            have z2 : ((C.length : Int) == 0) = false := by rw [beq_eq_false_iff_ne]; omega
            obtain ⟨mb, hmb⟩ : ∃ mb, B.length = mb + 1 := ⟨B.length - 1, by omega⟩
            obtain ⟨mc, hmc⟩ : ∃ mc, C.length = mc + 1 := ⟨C.length - 1, by omega⟩
            have m1 : IntKind.i64.wrap ((B.length : Int) - 1) = (mb : Int) := by rw [IntWalk.i64_in _ (by omega)]; omega
            have m2 : IntKind.i64.wrap ((C.length : Int) - 1) = (mc : Int) := by rw [IntWalk.i64_in _ (by omega)]; omega
            have m3 : (mb : Int) < (B.length : Int) := by omega
            have m4 : (mc : Int) < (C.length : Int) := by omega
            rw [show B.length - 1 = mb by omega, show C.length - 1 = mc by omega] at hlst
            obtain ⟨_, _, hv, _, _, hcb⟩ := Vvb.out.1.1
            simp only [Value.slice.injEq] at hv
            obtain ⟨rfl, -, -⟩ := hv
            obtain ⟨b1, o1, rfl, hx⟩ := Ints.at hcb (show mb < B.length by omega)
            obtain ⟨_, _, hv, _, _, hcc⟩ := Vvc.out.1.1
            simp only [Value.slice.injEq] at hv
            obtain ⟨rfl, -, -⟩ := hv
            obtain ⟨b2, o2, rfl, hy⟩ := Ints.at hcc (show mc < C.length by omega)
            rw [← hlst] at hy
            have HX := Lib.hid hx; have HY := Lib.hid hy
            clear hcb hcc hlst hmb hmc hb0 hc0 hx hy
            generalize B[mb]?.getD 0 = z at *
            have hnn : ∀ g : Nat, some g ≠ (none : Option Nat) := by intro g; simp
            go_wp2_with fail
            have GX : Hid (w13.grownBy w13.drew none) := Lib.hid (grown_drew _ none)
            go_region_held3 (fun w' => w'.cell? ⟨b1, o1 + mb, none⟩ = some (.int .i64 z) ∧ w'.cell? ⟨b2, o2 + mc, none⟩ = some (.int .i64 z)) (first | exact ⟨GX.out.cell HX.out (hnn _), GX.out.cell HY.out (hnn _)⟩) (first
              | (refine step_call 75 22 _ _ _ _ _ Try.f22 _ Try.func22 (by kernel_rfl) rfl [.slice (some ⟨b1, o1, none⟩) B.length cb, .slice (some ⟨b2, o2, none⟩) C.length cc] (by kernel_rfl) _ (rleqW_any _ _ _ _ _ (Vvb.out.step GX.out).1.1 (Vvc.out.step GX.out).1.1) ?_; rintro e w99 ⟨rfl, hg⟩; rw [HW.out]; refine ⟨_, rfl, ?_⟩; replace GX : Hid (w13.grownBy w99 none) := Lib.hid (grown_trans GX.out hg); clear hg))
            replace HS := Lib.hid (HS.out.step GX.out)
            go_wp2_with fail
            go_ret
            exact ⟨rfl, HS.out.below⟩
    · go_wp2_with fail
      refine (leqP_any _ _ _ _ _ _ _ Vvr.out.1.1 Vva.out.1 Vvb.out.1).mono ?_
      rintro e w9 ⟨rfl, hg⟩
      replace Vvr := Lib.hid (Vvr.out.step hg)
      replace Vva := Lib.hid (Vva.out.step hg)
      replace Vvb := Lib.hid (Vvb.out.step hg)
      replace Vvc := Lib.hid (Vvc.out.step hg)
      replace HS := Lib.hid (HS.out.step hg)
      clear hg
      rw [HAB.out]
      cases hbc : leqP R B C
      all_goals (have HBC := Lib.hid hbc; clear hbc)
      · go_wp2_with fail
        refine (leqP_any _ _ _ _ _ _ _ Vvr.out.1.1 Vvb.out.1 Vvc.out.1).mono ?_
        rintro e w10 ⟨rfl, hg⟩
        replace Vvr := Lib.hid (Vvr.out.step hg)
        replace Vva := Lib.hid (Vva.out.step hg)
        replace Vvb := Lib.hid (Vvb.out.step hg)
        replace Vvc := Lib.hid (Vvc.out.step hg)
        replace HS := Lib.hid (HS.out.step hg)
        clear hg
        rw [HBC.out]
        go_wp2_with fail
        refine (leqP_any _ _ _ _ _ _ _ Vvr.out.1.1 Vvb.out.1 Vvc.out.1).mono ?_
        rintro e w11 ⟨rfl, hg⟩
        replace Vvr := Lib.hid (Vvr.out.step hg)
        replace Vva := Lib.hid (Vva.out.step hg)
        replace Vvb := Lib.hid (Vvb.out.step hg)
        replace Vvc := Lib.hid (Vvc.out.step hg)
        replace HS := Lib.hid (HS.out.step hg)
        clear hg
        rw [HBC.out]
        go_wp2_with fail
        refine (leqP_any _ _ _ _ _ _ _ Vvr.out.1.1 Vvb.out.1 Vvc.out.1).mono ?_
        rintro e w12 ⟨rfl, hg⟩
        replace Vvr := Lib.hid (Vvr.out.step hg)
        replace Vva := Lib.hid (Vva.out.step hg)
        replace Vvb := Lib.hid (Vvb.out.step hg)
        replace Vvc := Lib.hid (Vvc.out.step hg)
        replace HS := Lib.hid (HS.out.step hg)
        clear hg
        rw [HBC.out]
        go_wp2_with fail
        go_ret
        exact ⟨rfl, HS.out.below⟩
      · go_wp2_with fail
        refine (leqP_any _ _ _ _ _ _ _ Vvr.out.1.1 Vvb.out.1 Vvc.out.1).mono ?_
        rintro e w10 ⟨rfl, hg⟩
        replace Vvr := Lib.hid (Vvr.out.step hg)
        replace Vva := Lib.hid (Vva.out.step hg)
        replace Vvb := Lib.hid (Vvb.out.step hg)
        replace Vvc := Lib.hid (Vvc.out.step hg)
        replace HS := Lib.hid (HS.out.step hg)
        clear hg
        rw [HBC.out]
        have HAC := Lib.hid (leqP_trans HAB.out HBC.out)
        go_wp2_with fail
        refine (leqP_any _ _ _ _ _ _ _ Vvr.out.1.1 Vva.out.1 Vvc.out.1).mono ?_
        rintro e w11 ⟨rfl, hg⟩
        replace Vvr := Lib.hid (Vvr.out.step hg)
        replace Vva := Lib.hid (Vva.out.step hg)
        replace Vvb := Lib.hid (Vvb.out.step hg)
        replace Vvc := Lib.hid (Vvc.out.step hg)
        replace HS := Lib.hid (HS.out.step hg)
        clear hg
        rw [HAC.out]
        go_wp2_with fail
        refine (leqP_any _ _ _ _ _ _ _ Vvr.out.1.1 Vvb.out.1 Vvc.out.1).mono ?_
        rintro e w12 ⟨rfl, hg⟩
        replace Vvr := Lib.hid (Vvr.out.step hg)
        replace Vva := Lib.hid (Vva.out.step hg)
        replace Vvb := Lib.hid (Vvb.out.step hg)
        replace Vvc := Lib.hid (Vvc.out.step hg)
        replace HS := Lib.hid (HS.out.step hg)
        clear hg
        rw [HBC.out]
        cases hcb : leqP R C B
        all_goals (have HCB := Lib.hid hcb; clear hcb)
        · go_wp2_with fail
          refine (leqP_any _ _ _ _ _ _ _ Vvr.out.1.1 Vvc.out.1 Vvb.out.1).mono ?_
          rintro e w13 ⟨rfl, hg⟩
          replace Vvr := Lib.hid (Vvr.out.step hg)
          replace Vva := Lib.hid (Vva.out.step hg)
          replace Vvb := Lib.hid (Vvb.out.step hg)
          replace Vvc := Lib.hid (Vvc.out.step hg)
          replace HS := Lib.hid (HS.out.step hg)
          clear hg
          rw [HCB.out]
          go_wp2_with fail
          refine (leqP_any _ _ _ _ _ _ _ Vvr.out.1.1 Vvb.out.1 Vvc.out.1).mono ?_
          rintro e w14 ⟨rfl, hg⟩
          replace Vvr := Lib.hid (Vvr.out.step hg)
          replace Vva := Lib.hid (Vva.out.step hg)
          replace Vvb := Lib.hid (Vvb.out.step hg)
          replace Vvc := Lib.hid (Vvc.out.step hg)
          replace HS := Lib.hid (HS.out.step hg)
          clear hg
          rw [HBC.out]
          have HW := Lib.hid (leqP_word HBC.out)
          by_cases hb0 : B.length = 0
          · have hc0 : C.length = 0 := by
              have h1 := ((leqP_iff _ _ _).1 HBC.out).2.2
              have h2 := (leP_ne h1).1 (List.eq_nil_of_length_eq_zero hb0)
              rw [h2]; rfl
            have z1 : ((B.length : Int) == 0) = true := by rw [beq_iff_eq]; omega
            have z2 : ((C.length : Int) == 0) = true := by rw [beq_iff_eq]; omega
            clear hb0 hc0
            go_wp2_with fail
            have GX : Hid (w14.grownBy w14.drew none) := Lib.hid (grown_drew _ none)
            refine wp_region_any (by kernel_rfl) ?_
            change wpAny _ _ _ _ _ _ _ (World.drew _)
            refine wpAny_take (i := 0) (v := .slice bb B.length cb) rfl (by kernel_rfl) (by kernel_rfl) (by kernel_rfl) (fun _ _ _ h => h) (Or.inl ⟨by kernel_rfl, fun _ => by kernel_rfl⟩) ?_
            refine wpAny_take (i := 1) (v := .slice bc C.length cc) rfl (by kernel_rfl) (by kernel_rfl) (by kernel_rfl) (fun _ _ _ h => h) (Or.inl ⟨by kernel_rfl, fun _ => by kernel_rfl⟩) ?_
            refine wpAny_ready (rs := [2]) (by kernel_rfl) (by simp) (AllReady.cons rfl (fun K hK => ?_) AllReady.nil)
            refine step_call 75 22 _ _ _ _ _ Try.f22 _ Try.func22 (by kernel_rfl) rfl [.slice bb B.length cb, .slice bc C.length cc] (by kernel_rfl) _ (rleqW_any _ _ _ _ _ (Vvb.out.step GX.out).1.1 (Vvc.out.step GX.out).1.1) ?_
            rintro e w99 ⟨rfl, hg⟩
            rw [HW.out]
            refine ⟨_, rfl, ?_⟩
            replace GX : Hid (w14.grownBy w99 none) := Lib.hid (grown_trans GX.out hg)
            clear hg
            refine hK _ _ ?_
            clear hK K
            refine wpAny_take (i := 3) (v := .bool true) rfl (by kernel_rfl) (by kernel_rfl) (by kernel_rfl) (fun _ _ _ h => h) (Or.inl ⟨by kernel_rfl, fun _ => by kernel_rfl⟩) ?_
            refine wpAny_take (i := 4) (v := .slice bb B.length cb) rfl (by kernel_rfl) (by kernel_rfl) (by kernel_rfl) (fun _ _ _ h => h) (Or.inl ⟨by kernel_rfl, fun _ => by kernel_rfl⟩) ?_
            refine wpAny_take (i := 5) (v := .int .i64 (B.length : Int)) rfl (by kernel_rfl) (by kernel_rfl) (by kernel_rfl) (fun _ _ _ h => h) (Or.inl ⟨by kernel_rfl, fun _ => by kernel_rfl⟩) ?_
            refine wpAny_take (i := 6) (v := .bool true) rfl (by kernel_rfl) (by kernel_rfl) (by kernel_rfl) (fun _ _ _ h => h) (Or.inl ⟨by kernel_rfl, fun _ => by go_simp⟩) ?_
            refine wpAny_take (i := 7) (v := .slice bc C.length cc) rfl (by kernel_rfl) (by kernel_rfl) (by kernel_rfl) (fun _ _ _ h => h) (Or.inl ⟨by kernel_rfl, fun _ => by kernel_rfl⟩) ?_
            refine wpAny_take (i := 8) (v := .int .i64 (C.length : Int)) rfl (by kernel_rfl) (by kernel_rfl) (by kernel_rfl) (fun _ _ _ h => h) (Or.inl ⟨by kernel_rfl, fun _ => by kernel_rfl⟩) ?_
            refine wpAny_take (i := 9) (v := .bool true) rfl (by kernel_rfl) (by kernel_rfl) (by kernel_rfl) (fun _ _ _ h => h) (Or.inl ⟨by kernel_rfl, fun _ => by go_simp⟩) ?_
            refine wpAny_take (i := 10) (v := .bool true) rfl (by kernel_rfl) (by kernel_rfl) (by kernel_rfl) (fun _ _ _ h => h) (Or.inl ⟨by kernel_rfl, fun _ => by kernel_rfl⟩) ?_
            refine wpAny_take (i := 11) (v := .bool true) rfl (by kernel_rfl) (by kernel_rfl) (by kernel_rfl) (fun _ _ _ h => h) (Or.inl ⟨by kernel_rfl, fun _ => by kernel_rfl⟩) ?_
            refine wpAny_take (i := 12) (v := .bool true) rfl (by kernel_rfl) (by kernel_rfl) (by kernel_rfl) (fun _ _ _ h => h) (Or.inl ⟨by kernel_rfl, fun _ => by kernel_rfl⟩) ?_
            refine wpAny_take (i := 13) (v := .slice bb B.length cb) rfl (by kernel_rfl) (by kernel_rfl) (by kernel_rfl) (fun _ _ _ h => h) (Or.inl ⟨by kernel_rfl, fun _ => by kernel_rfl⟩) ?_
            refine wpAny_take (i := 14) (v := .int .i64 (B.length : Int)) rfl (by kernel_rfl) (by kernel_rfl) (by kernel_rfl) (fun _ _ _ h => h) (Or.inl ⟨by kernel_rfl, fun _ => by kernel_rfl⟩) ?_
            refine wpAny_take (i := 15) (v := .bool true) rfl (by kernel_rfl) (by kernel_rfl) (by kernel_rfl) (fun _ _ _ h => h) (Or.inl ⟨by kernel_rfl, fun _ => by go_simp⟩) ?_
            refine wpAny_take (i := 16) (v := .bool true) rfl (by kernel_rfl) (by kernel_rfl) (by kernel_rfl) (fun _ _ _ h => h) (Or.inl ⟨by kernel_rfl, fun _ => by kernel_rfl⟩) ?_
            refine wpAny_take (i := 17) (v := undef) rfl (by kernel_rfl) (by kernel_rfl) (by kernel_rfl) (fun _ _ _ h => h) (Or.inr ⟨by kernel_rfl, rfl⟩) ?_
            refine wpAny_take (i := 18) (v := undef) rfl (by kernel_rfl) (by kernel_rfl) (by kernel_rfl) (fun _ _ _ h => h) (Or.inr ⟨by kernel_rfl, rfl⟩) ?_
            refine wpAny_take (i := 19) (v := undef) rfl (by kernel_rfl) (by kernel_rfl) (by kernel_rfl) (fun _ _ _ h => h) (Or.inr ⟨by kernel_rfl, rfl⟩) ?_
            refine wpAny_take (i := 20) (v := undef) rfl (by kernel_rfl) (by kernel_rfl) (by kernel_rfl) (fun _ _ _ h => h) (Or.inr ⟨by kernel_rfl, rfl⟩) ?_
            refine wpAny_take (i := 21) (v := undef) rfl (by kernel_rfl) (by kernel_rfl) (by kernel_rfl) (fun _ _ _ h => h) (Or.inr ⟨by kernel_rfl, rfl⟩) ?_
            refine wpAny_take (i := 22) (v := undef) rfl (by kernel_rfl) (by kernel_rfl) (by kernel_rfl) (fun _ _ _ h => h) (Or.inr ⟨by kernel_rfl, rfl⟩) ?_
            refine wpAny_take (i := 23) (v := undef) rfl (by kernel_rfl) (by kernel_rfl) (by kernel_rfl) (fun _ _ _ h => h) (Or.inr ⟨by kernel_rfl, rfl⟩) ?_
            refine wpAny_take (i := 24) (v := undef) rfl (by kernel_rfl) (by kernel_rfl) (by kernel_rfl) (fun _ _ _ h => h) (Or.inr ⟨by kernel_rfl, rfl⟩) ?_
            refine wpAny_take (i := 25) (v := undef) rfl (by kernel_rfl) (by kernel_rfl) (by kernel_rfl) (fun _ _ _ h => h) (Or.inr ⟨by kernel_rfl, rfl⟩) ?_
            refine wpAny_take (i := 26) (v := undef) rfl (by kernel_rfl) (by kernel_rfl) (by kernel_rfl) (fun _ _ _ h => h) (Or.inr ⟨by kernel_rfl, rfl⟩) ?_
            refine wpAny_take (i := 27) (v := undef) rfl (by kernel_rfl) (by kernel_rfl) (by kernel_rfl) (fun _ _ _ h => h) (Or.inr ⟨by kernel_rfl, rfl⟩) ?_
            refine wpAny_take (i := 28) (v := undef) rfl (by kernel_rfl) (by kernel_rfl) (by kernel_rfl) (fun _ _ _ h => h) (Or.inr ⟨by kernel_rfl, rfl⟩) ?_
            refine wpAny_take (i := 29) (v := undef) rfl (by kernel_rfl) (by kernel_rfl) (by kernel_rfl) (fun _ _ _ h => h) (Or.inr ⟨by kernel_rfl, rfl⟩) ?_
            refine wpAny_take (i := 30) (v := .bool true) rfl (by kernel_rfl) (by kernel_rfl) (by kernel_rfl) (fun _ _ _ h => h) (Or.inl ⟨by kernel_rfl, fun _ => by kernel_rfl⟩) ?_
            refine wpAny_take (i := 31) (v := .bool true) rfl (by kernel_rfl) (by kernel_rfl) (by kernel_rfl) (fun _ _ _ h => h) (Or.inl ⟨by kernel_rfl, fun _ => by kernel_rfl⟩) ?_
            refine wpAny_ready (rs := [32]) (by kernel_rfl) (by simp) (AllReady.cons rfl (fun K hK => ?_) AllReady.nil)
            go_simp
            refine hK _ _ ?_
            clear hK K
            refine wpAny_done (by kernel_rfl) ?_ _
            replace HS := Lib.hid (HS.out.step GX.out)
            go_wp2_with fail
            go_ret
            exact ⟨rfl, HS.out.below⟩
          · obtain ⟨hc0, hlst⟩ := leqP_lasts HBC.out (show 0 < B.length by omega)
            have z1 : ((B.length : Int) == 0) = false := by rw [beq_eq_false_iff_ne]; omega
            have z2 : ((C.length : Int) == 0) = false := by rw [beq_eq_false_iff_ne]; omega
            obtain ⟨mb, hmb⟩ : ∃ mb, B.length = mb + 1 := ⟨B.length - 1, by omega⟩
            obtain ⟨mc, hmc⟩ : ∃ mc, C.length = mc + 1 := ⟨C.length - 1, by omega⟩
            have m1 : IntKind.i64.wrap ((B.length : Int) - 1) = (mb : Int) := by rw [IntWalk.i64_in _ (by omega)]; omega
            have m2 : IntKind.i64.wrap ((C.length : Int) - 1) = (mc : Int) := by rw [IntWalk.i64_in _ (by omega)]; omega
            have m3 : (mb : Int) < (B.length : Int) := by omega
            have m4 : (mc : Int) < (C.length : Int) := by omega
            rw [show B.length - 1 = mb by omega, show C.length - 1 = mc by omega] at hlst
            obtain ⟨_, _, hv, _, _, hcb⟩ := Vvb.out.1.1
            simp only [Value.slice.injEq] at hv
            obtain ⟨rfl, -, -⟩ := hv
            obtain ⟨b1, o1, rfl, hx⟩ := Ints.at hcb (show mb < B.length by omega)
            obtain ⟨_, _, hv, _, _, hcc⟩ := Vvc.out.1.1
            simp only [Value.slice.injEq] at hv
            obtain ⟨rfl, -, -⟩ := hv
            obtain ⟨b2, o2, rfl, hy⟩ := Ints.at hcc (show mc < C.length by omega)
            rw [← hlst] at hy
            have HX := Lib.hid hx; have HY := Lib.hid hy
            clear hcb hcc hlst hmb hmc hb0 hc0 hx hy
            generalize B[mb]?.getD 0 = z at *
            have hnn : ∀ g : Nat, some g ≠ (none : Option Nat) := by intro g; simp
            go_wp2_with fail
            have GX : Hid (w14.grownBy w14.drew none) := Lib.hid (grown_drew _ none)
            go_region_held3 (fun w' => w'.cell? ⟨b1, o1 + mb, none⟩ = some (.int .i64 z) ∧ w'.cell? ⟨b2, o2 + mc, none⟩ = some (.int .i64 z)) (first | exact ⟨GX.out.cell HX.out (hnn _), GX.out.cell HY.out (hnn _)⟩) (first
              | (refine step_call 75 22 _ _ _ _ _ Try.f22 _ Try.func22 (by kernel_rfl) rfl [.slice (some ⟨b1, o1, none⟩) B.length cb, .slice (some ⟨b2, o2, none⟩) C.length cc] (by kernel_rfl) _ (rleqW_any _ _ _ _ _ (Vvb.out.step GX.out).1.1 (Vvc.out.step GX.out).1.1) ?_; rintro e w99 ⟨rfl, hg⟩; rw [HW.out]; refine ⟨_, rfl, ?_⟩; replace GX : Hid (w14.grownBy w99 none) := Lib.hid (grown_trans GX.out hg); clear hg))
            replace HS := Lib.hid (HS.out.step GX.out)
            go_wp2_with fail
            go_ret
            exact ⟨rfl, HS.out.below⟩
        · go_wp2_with fail
          refine (leqP_any _ _ _ _ _ _ _ Vvr.out.1.1 Vvc.out.1 Vvb.out.1).mono ?_
          rintro e w13 ⟨rfl, hg⟩
          replace Vvr := Lib.hid (Vvr.out.step hg)
          replace Vva := Lib.hid (Vva.out.step hg)
          replace Vvb := Lib.hid (Vvb.out.step hg)
          replace Vvc := Lib.hid (Vvc.out.step hg)
          replace HS := Lib.hid (HS.out.step hg)
          clear hg
          rw [HCB.out]
          have HSM := Lib.hid (leqP_anti HBC.out HCB.out)
          go_wp2_with fail
          refine (same_any _ _ _ _ _ Vvb.out.1.1 Vvc.out.1.1).mono ?_
          rintro e w14 ⟨rfl, hd⟩
          replace Vvr := Lib.hid (Vvr.out.drew hd)
          replace Vva := Lib.hid (Vva.out.drew hd)
          replace Vvb := Lib.hid (Vvb.out.drew hd)
          replace Vvc := Lib.hid (Vvc.out.drew hd)
          replace HS := Lib.hid (HS.out.drew hd)
          clear hd
          rw [HSM.out]
          go_wp2_with fail
          refine (leqP_any _ _ _ _ _ _ _ Vvr.out.1.1 Vvb.out.1 Vvc.out.1).mono ?_
          rintro e w15 ⟨rfl, hg⟩
          replace Vvr := Lib.hid (Vvr.out.step hg)
          replace Vva := Lib.hid (Vva.out.step hg)
          replace Vvb := Lib.hid (Vvb.out.step hg)
          replace Vvc := Lib.hid (Vvc.out.step hg)
          replace HS := Lib.hid (HS.out.step hg)
          clear hg
          rw [HBC.out]
          have HW := Lib.hid (leqP_word HBC.out)
          by_cases hb0 : B.length = 0
          · have hc0 : C.length = 0 := by
              have h1 := ((leqP_iff _ _ _).1 HBC.out).2.2
              have h2 := (leP_ne h1).1 (List.eq_nil_of_length_eq_zero hb0)
              rw [h2]; rfl
            have z1 : ((B.length : Int) == 0) = true := by rw [beq_iff_eq]; omega
            have z2 : ((C.length : Int) == 0) = true := by rw [beq_iff_eq]; omega
            clear hb0 hc0
            go_wp2_with fail
            have GX : Hid (w15.grownBy w15.drew none) := Lib.hid (grown_drew _ none)
            refine wp_region_any (by kernel_rfl) ?_
            change wpAny _ _ _ _ _ _ _ (World.drew _)
            refine wpAny_take (i := 0) (v := .slice bb B.length cb) rfl (by kernel_rfl) (by kernel_rfl) (by kernel_rfl) (fun _ _ _ h => h) (Or.inl ⟨by kernel_rfl, fun _ => by kernel_rfl⟩) ?_
            refine wpAny_take (i := 1) (v := .slice bc C.length cc) rfl (by kernel_rfl) (by kernel_rfl) (by kernel_rfl) (fun _ _ _ h => h) (Or.inl ⟨by kernel_rfl, fun _ => by kernel_rfl⟩) ?_
            refine wpAny_ready (rs := [2]) (by kernel_rfl) (by simp) (AllReady.cons rfl (fun K hK => ?_) AllReady.nil)
            refine step_call 75 22 _ _ _ _ _ Try.f22 _ Try.func22 (by kernel_rfl) rfl [.slice bb B.length cb, .slice bc C.length cc] (by kernel_rfl) _ (rleqW_any _ _ _ _ _ (Vvb.out.step GX.out).1.1 (Vvc.out.step GX.out).1.1) ?_
            rintro e w99 ⟨rfl, hg⟩
            rw [HW.out]
            refine ⟨_, rfl, ?_⟩
            replace GX : Hid (w15.grownBy w99 none) := Lib.hid (grown_trans GX.out hg)
            clear hg
            refine hK _ _ ?_
            clear hK K
            refine wpAny_take (i := 3) (v := .bool true) rfl (by kernel_rfl) (by kernel_rfl) (by kernel_rfl) (fun _ _ _ h => h) (Or.inl ⟨by kernel_rfl, fun _ => by kernel_rfl⟩) ?_
            refine wpAny_take (i := 4) (v := .slice bb B.length cb) rfl (by kernel_rfl) (by kernel_rfl) (by kernel_rfl) (fun _ _ _ h => h) (Or.inl ⟨by kernel_rfl, fun _ => by kernel_rfl⟩) ?_
            refine wpAny_take (i := 5) (v := .int .i64 (B.length : Int)) rfl (by kernel_rfl) (by kernel_rfl) (by kernel_rfl) (fun _ _ _ h => h) (Or.inl ⟨by kernel_rfl, fun _ => by kernel_rfl⟩) ?_
            refine wpAny_take (i := 6) (v := .bool true) rfl (by kernel_rfl) (by kernel_rfl) (by kernel_rfl) (fun _ _ _ h => h) (Or.inl ⟨by kernel_rfl, fun _ => by go_simp⟩) ?_
            refine wpAny_take (i := 7) (v := .slice bc C.length cc) rfl (by kernel_rfl) (by kernel_rfl) (by kernel_rfl) (fun _ _ _ h => h) (Or.inl ⟨by kernel_rfl, fun _ => by kernel_rfl⟩) ?_
            refine wpAny_take (i := 8) (v := .int .i64 (C.length : Int)) rfl (by kernel_rfl) (by kernel_rfl) (by kernel_rfl) (fun _ _ _ h => h) (Or.inl ⟨by kernel_rfl, fun _ => by kernel_rfl⟩) ?_
            refine wpAny_take (i := 9) (v := .bool true) rfl (by kernel_rfl) (by kernel_rfl) (by kernel_rfl) (fun _ _ _ h => h) (Or.inl ⟨by kernel_rfl, fun _ => by go_simp⟩) ?_
            refine wpAny_take (i := 10) (v := .bool true) rfl (by kernel_rfl) (by kernel_rfl) (by kernel_rfl) (fun _ _ _ h => h) (Or.inl ⟨by kernel_rfl, fun _ => by kernel_rfl⟩) ?_
            refine wpAny_take (i := 11) (v := .bool true) rfl (by kernel_rfl) (by kernel_rfl) (by kernel_rfl) (fun _ _ _ h => h) (Or.inl ⟨by kernel_rfl, fun _ => by kernel_rfl⟩) ?_
            refine wpAny_take (i := 12) (v := .bool true) rfl (by kernel_rfl) (by kernel_rfl) (by kernel_rfl) (fun _ _ _ h => h) (Or.inl ⟨by kernel_rfl, fun _ => by kernel_rfl⟩) ?_
            refine wpAny_take (i := 13) (v := .slice bb B.length cb) rfl (by kernel_rfl) (by kernel_rfl) (by kernel_rfl) (fun _ _ _ h => h) (Or.inl ⟨by kernel_rfl, fun _ => by kernel_rfl⟩) ?_
            refine wpAny_take (i := 14) (v := .int .i64 (B.length : Int)) rfl (by kernel_rfl) (by kernel_rfl) (by kernel_rfl) (fun _ _ _ h => h) (Or.inl ⟨by kernel_rfl, fun _ => by kernel_rfl⟩) ?_
            refine wpAny_take (i := 15) (v := .bool true) rfl (by kernel_rfl) (by kernel_rfl) (by kernel_rfl) (fun _ _ _ h => h) (Or.inl ⟨by kernel_rfl, fun _ => by go_simp⟩) ?_
            refine wpAny_take (i := 16) (v := .bool true) rfl (by kernel_rfl) (by kernel_rfl) (by kernel_rfl) (fun _ _ _ h => h) (Or.inl ⟨by kernel_rfl, fun _ => by kernel_rfl⟩) ?_
            refine wpAny_take (i := 17) (v := undef) rfl (by kernel_rfl) (by kernel_rfl) (by kernel_rfl) (fun _ _ _ h => h) (Or.inr ⟨by kernel_rfl, rfl⟩) ?_
            refine wpAny_take (i := 18) (v := undef) rfl (by kernel_rfl) (by kernel_rfl) (by kernel_rfl) (fun _ _ _ h => h) (Or.inr ⟨by kernel_rfl, rfl⟩) ?_
            refine wpAny_take (i := 19) (v := undef) rfl (by kernel_rfl) (by kernel_rfl) (by kernel_rfl) (fun _ _ _ h => h) (Or.inr ⟨by kernel_rfl, rfl⟩) ?_
            refine wpAny_take (i := 20) (v := undef) rfl (by kernel_rfl) (by kernel_rfl) (by kernel_rfl) (fun _ _ _ h => h) (Or.inr ⟨by kernel_rfl, rfl⟩) ?_
            refine wpAny_take (i := 21) (v := undef) rfl (by kernel_rfl) (by kernel_rfl) (by kernel_rfl) (fun _ _ _ h => h) (Or.inr ⟨by kernel_rfl, rfl⟩) ?_
            refine wpAny_take (i := 22) (v := undef) rfl (by kernel_rfl) (by kernel_rfl) (by kernel_rfl) (fun _ _ _ h => h) (Or.inr ⟨by kernel_rfl, rfl⟩) ?_
            refine wpAny_take (i := 23) (v := undef) rfl (by kernel_rfl) (by kernel_rfl) (by kernel_rfl) (fun _ _ _ h => h) (Or.inr ⟨by kernel_rfl, rfl⟩) ?_
            refine wpAny_take (i := 24) (v := undef) rfl (by kernel_rfl) (by kernel_rfl) (by kernel_rfl) (fun _ _ _ h => h) (Or.inr ⟨by kernel_rfl, rfl⟩) ?_
            refine wpAny_take (i := 25) (v := undef) rfl (by kernel_rfl) (by kernel_rfl) (by kernel_rfl) (fun _ _ _ h => h) (Or.inr ⟨by kernel_rfl, rfl⟩) ?_
            refine wpAny_take (i := 26) (v := undef) rfl (by kernel_rfl) (by kernel_rfl) (by kernel_rfl) (fun _ _ _ h => h) (Or.inr ⟨by kernel_rfl, rfl⟩) ?_
            refine wpAny_take (i := 27) (v := undef) rfl (by kernel_rfl) (by kernel_rfl) (by kernel_rfl) (fun _ _ _ h => h) (Or.inr ⟨by kernel_rfl, rfl⟩) ?_
            refine wpAny_take (i := 28) (v := undef) rfl (by kernel_rfl) (by kernel_rfl) (by kernel_rfl) (fun _ _ _ h => h) (Or.inr ⟨by kernel_rfl, rfl⟩) ?_
            refine wpAny_take (i := 29) (v := undef) rfl (by kernel_rfl) (by kernel_rfl) (by kernel_rfl) (fun _ _ _ h => h) (Or.inr ⟨by kernel_rfl, rfl⟩) ?_
            refine wpAny_take (i := 30) (v := .bool true) rfl (by kernel_rfl) (by kernel_rfl) (by kernel_rfl) (fun _ _ _ h => h) (Or.inl ⟨by kernel_rfl, fun _ => by kernel_rfl⟩) ?_
            refine wpAny_take (i := 31) (v := .bool true) rfl (by kernel_rfl) (by kernel_rfl) (by kernel_rfl) (fun _ _ _ h => h) (Or.inl ⟨by kernel_rfl, fun _ => by kernel_rfl⟩) ?_
            refine wpAny_ready (rs := [32]) (by kernel_rfl) (by simp) (AllReady.cons rfl (fun K hK => ?_) AllReady.nil)
            go_simp
            refine hK _ _ ?_
            clear hK K
            refine wpAny_done (by kernel_rfl) ?_ _
            replace HS := Lib.hid (HS.out.step GX.out)
            go_wp2_with fail
            go_ret
            exact ⟨rfl, HS.out.below⟩
          · obtain ⟨hc0, hlst⟩ := leqP_lasts HBC.out (show 0 < B.length by omega)
            have z1 : ((B.length : Int) == 0) = false := by rw [beq_eq_false_iff_ne]; omega
            have z2 : ((C.length : Int) == 0) = false := by rw [beq_eq_false_iff_ne]; omega
            obtain ⟨mb, hmb⟩ : ∃ mb, B.length = mb + 1 := ⟨B.length - 1, by omega⟩
            obtain ⟨mc, hmc⟩ : ∃ mc, C.length = mc + 1 := ⟨C.length - 1, by omega⟩
            have m1 : IntKind.i64.wrap ((B.length : Int) - 1) = (mb : Int) := by rw [IntWalk.i64_in _ (by omega)]; omega
            have m2 : IntKind.i64.wrap ((C.length : Int) - 1) = (mc : Int) := by rw [IntWalk.i64_in _ (by omega)]; omega
            have m3 : (mb : Int) < (B.length : Int) := by omega
            have m4 : (mc : Int) < (C.length : Int) := by omega
            rw [show B.length - 1 = mb by omega, show C.length - 1 = mc by omega] at hlst
            obtain ⟨_, _, hv, _, _, hcb⟩ := Vvb.out.1.1
            simp only [Value.slice.injEq] at hv
            obtain ⟨rfl, -, -⟩ := hv
            obtain ⟨b1, o1, rfl, hx⟩ := Ints.at hcb (show mb < B.length by omega)
            obtain ⟨_, _, hv, _, _, hcc⟩ := Vvc.out.1.1
            simp only [Value.slice.injEq] at hv
            obtain ⟨rfl, -, -⟩ := hv
            obtain ⟨b2, o2, rfl, hy⟩ := Ints.at hcc (show mc < C.length by omega)
            rw [← hlst] at hy
            have HX := Lib.hid hx; have HY := Lib.hid hy
            clear hcb hcc hlst hmb hmc hb0 hc0 hx hy
            generalize B[mb]?.getD 0 = z at *
            have hnn : ∀ g : Nat, some g ≠ (none : Option Nat) := by intro g; simp
            go_wp2_with fail
            have GX : Hid (w15.grownBy w15.drew none) := Lib.hid (grown_drew _ none)
            go_region_held3 (fun w' => w'.cell? ⟨b1, o1 + mb, none⟩ = some (.int .i64 z) ∧ w'.cell? ⟨b2, o2 + mc, none⟩ = some (.int .i64 z)) (first | exact ⟨GX.out.cell HX.out (hnn _), GX.out.cell HY.out (hnn _)⟩) (first
              | (refine step_call 75 22 _ _ _ _ _ Try.f22 _ Try.func22 (by kernel_rfl) rfl [.slice (some ⟨b1, o1, none⟩) B.length cb, .slice (some ⟨b2, o2, none⟩) C.length cc] (by kernel_rfl) _ (rleqW_any _ _ _ _ _ (Vvb.out.step GX.out).1.1 (Vvc.out.step GX.out).1.1) ?_; rintro e w99 ⟨rfl, hg⟩; rw [HW.out]; refine ⟨_, rfl, ?_⟩; replace GX : Hid (w15.grownBy w99 none) := Lib.hid (grown_trans GX.out hg); clear hg))
            replace HS := Lib.hid (HS.out.step GX.out)
            go_wp2_with fail
            go_ret
            exact ⟨rfl, HS.out.below⟩
  · go_enter Try.func10, Try.ntmps10
    go_wp2_with fail
    refine (awake05_any _).mono ?_
    rintro e w1 ⟨rfl, hg⟩
    have HG := Lib.hid hg
    clear hg
    go_wp2_with fail
    refine (few_any _ _ _ _).mono ?_
    rintro e w2 ⟨rfl, rfl⟩
    rw [decide_eq_false (by omega)]
    go_wp2_with fail
    refine (awake05_any _).mono ?_
    rintro e w3 ⟨rfl, hg⟩
    have HG := Lib.hid (grown_trans HG.out hg)
    clear hg
    go_wp2_with fail
    go_ret
    exact ⟨rfl, below_of HG.out⟩

/-! ### PriorityOrder: the statement, from its walk -/
set_option maxRecDepth 100000 in
theorem liftedPriorityOrder (os : Os) (started : os.Started) (H : Type) (enc : TypeId × Value → H) :
    ReturnsInHanded {} Try.checked os 10 .any (Rows.priorityOrderSpec.pre6 enc Try.prog Try.f10 Rows.priorityOrderRow.domain false) (Rows.priorityOrderSpec.post enc Try.prog Try.f10 false true false false) := by
  refine returnsInHanded_of_change (C := Try.checked) own started (by kernel_rfl) Try.func10
    (ChangeSpec.witness6 (enc := enc) (C := Try.checked) false ⟨#[], #[.slice none 0 0], []⟩ 8 (by kernel_rfl) (by kernel_rfl) (by kernel_rfl) (by kernel_rfl)) ?_
  intro W base args ds gs before hval0 hW hcnd _
  have hval : ∀ (j : Nat) t v, Try.f10.params[j]? = some t → args[j]? = some v → Value.okWide Try.prog W .any base t v := hval0
  have hW' := hW
  obtain ⟨p, q, hA0, hV, rfl, hfz, hnd⟩ := hW
  have hA : DataW.TrodAll enc Try.prog W 0 (fun _ => true) true Try.f10.params.toList args.toList ds p := hA0
  rw [Try.params10] at hA hval
  obtain ⟨v0, vs0, d0, ds0, p0, q0, hargs, rfl, rfl, h0, r0⟩ := trodAll_cons hA
  obtain ⟨rfl, rfl, rfl⟩ := trodAll_nil r0
  obtain rfl : args = #[v0] := by cases args; simp_all
  obtain ⟨rfl, rfl⟩ := trodVars_none hV
  obtain ⟨a0, len0, cap0, rfl⟩ := okWide_slice Try.underlying22 (hval 0 22 v0 rfl rfl)
  have k0 := h0
  have lt0 : ∀ x ∈ p0, x.block < W.heap.size := by obtain ⟨m, hm⟩ := k0; exact DataW.trod_lt m _ _ _ hm
  obtain ⟨z0, w0⟩ : ∃ zs, IsRow .i64 W a0 len0 cap0 zs := by
    obtain ⟨fuel, hf⟩ := h0
    rcases open_ints Try.underlying22 Try.underlying3 (by kernel_rfl) hf with ⟨hcs, _⟩ | ⟨x, l, c, zs, hcs, _, hl, hm, hz, _, hcell, hwz⟩
    · simp [Value.cells] at hcs
      obtain ⟨rfl, rfl, rfl⟩ := hcs
      exact ⟨[], .inl ⟨rfl, rfl, rfl, rfl⟩⟩
    · simp [Value.cells] at hcs
      obtain ⟨rfl, rfl, rfl⟩ := hcs
      exact ⟨zs, .inr ⟨_, rfl, hl, hm, by simpa using hz, hcell, hwz⟩⟩
  clear hA0 hval0
  refine (walkPriorityOrder a0 len0 cap0 z0 W w0).mono fun e W' ⟨he, bel⟩ => ?_
  subst he
  exact ⟨_, rfl, _, _, _, [], _, [], hW', trodAll_mk1 (shut_bool Try.underlying4 _), (trodAll_cons_mk (Below.trod laidOut (by kernel_rfl) (of_decide_eq_true (by kernel_rfl)) k0 bel lt0) trodAll_mk0), rfl, bel.frame _, fun h => by cases h⟩

theorem priorityOrder_holds : Rows.PriorityOrderSaid :=
  OpenClaim.holds_of_wide 10 Try.f10 rfl rfl rfl rfl rfl rfl rfl ⟨rfl, rfl, rfl, rfl, rfl⟩ rfl rfl rfl rfl rfl (by kernel_rfl) Try.func10 (by kernel_rfl)
    (of_decide_eq_true (by kernel_rfl)) (by unfold Func.isWrapper; first | (rw [if_pos (by decide +kernel)]; kernel_rfl) | (rw [if_neg (by decide +kernel)]; exact ⟨rfl, rfl⟩))
    (fun os started H enc _ => liftedPriorityOrder os started H enc)
#print axioms priorityOrder_holds
end Go.Proofs.Ytaenkbcclgpphaa
