/- WordOrder: for every input it answers true. -/
import Derived.Test.YtiajngnjklbgkaaWs
import Derived.Test.YtiajngnjklbgkaaGr
namespace Go.Proofs.Ytiajngnjklbgkaa
open Go.ChangeShapes Go.WideShapes Go.ChangeAt Go.RowKit
set_option linter.unusedVariables false

set_option maxRecDepth 100000 in
set_option maxHeartbeats 4000000 in
theorem walkWordOrder (a0 : Option Addr) (len0 cap0 : Nat) (z0 : List Int) (w : World) (w0 : IsRow .i64 w a0 len0 cap0 z0) :
    Calls Try.prog 4 #[.slice a0 len0 cap0] w fun e w' => e = .returned (.bool true) ∧ Below w.heap.size w w' := by
  obtain ⟨hI, hlen⟩ := w0.ints
  generalize z0.take len0 = zs at hI hlen
  subst hlen
  have HI := Lib.hid hI
  clear hI w0
  by_cases hfew : (zs.length : Int) ≤ 400
  · go_enter Try.func4, Try.ntmps4
    go_wp2_with fail
    refine (awake02_any _).mono ?_
    rintro e w1 ⟨rfl, hg⟩
    have HG := Lib.hid hg
    clear hg
    go_wp2_with fail
    refine (few_any _ _ _ _).mono ?_
    rintro e w2 ⟨rfl, rfl⟩
    rw [decide_eq_true hfew]
    go_wp2_with fail
    refine (new_st (HI.out.same HG.out) HG.out).mono ?_
    rintro e w3 ⟨p, d, rfl, hs⟩
    have HS := Lib.hid hs
    clear hs HG HI
    go_wp2_with fail
    refine (word_st HS.out 2 3 (by omega) (by omega) (by omega) (by omega)).mono ?_
    rintro e w4 ⟨va, A, rfl, hlA, hpA, hv, hs, hg⟩
    have Vva := Lib.hid hv; replace HS := Lib.hid hs; have LA := Lib.hid hlA; have PA := Lib.hid hpA
    clear hv hs hg hlA hpA
    go_wp2_with fail
    refine (word_st HS.out 2 6 (by omega) (by omega) (by omega) (by omega)).mono ?_
    rintro e w5 ⟨vb, B, rfl, hlB, hpB, hv, hs, hg⟩
    replace Vva := Lib.hid (Vva.out.deal hg)
    have Vvb := Lib.hid hv; replace HS := Lib.hid hs; have LB := Lib.hid hlB; have PB := Lib.hid hpB
    clear hv hs hg hlB hpB
    go_wp2_with fail
    refine (word_st HS.out 2 9 (by omega) (by omega) (by omega) (by omega)).mono ?_
    rintro e w6 ⟨vc, C, rfl, hlC, hpC, hv, hs, hg⟩
    replace Vva := Lib.hid (Vva.out.deal hg)
    replace Vvb := Lib.hid (Vvb.out.deal hg)
    have Vvc := Lib.hid hv; replace HS := Lib.hid hs; have LC := Lib.hid hlC; have PC := Lib.hid hpC
    clear hv hs hg hlC hpC
    have HBB : Hid (leqW B B = true) := Lib.hid (leqW_refl (letters_valid LB.out PB.out (by omega) (by omega)))
    cases hab : leqW A B
    all_goals (have HAB := Lib.hid hab; clear hab)
    · go_wp2_with fail
      refine (leqW_any _ _ _ _ _ Vva.out.1.1 Vvb.out.1.1).mono ?_
      rintro e w7 ⟨rfl, hg⟩
      replace Vva := Lib.hid (Vva.out.step hg)
      replace Vvb := Lib.hid (Vvb.out.step hg)
      replace Vvc := Lib.hid (Vvc.out.step hg)
      replace HS := Lib.hid (HS.out.step hg)
      clear hg
      rw [HAB.out]
      go_wp2_with fail
      refine (leqW_any _ _ _ _ _ Vva.out.1.1 Vvb.out.1.1).mono ?_
      rintro e w8 ⟨rfl, hg⟩
      replace Vva := Lib.hid (Vva.out.step hg)
      replace Vvb := Lib.hid (Vvb.out.step hg)
      replace Vvc := Lib.hid (Vvc.out.step hg)
      replace HS := Lib.hid (HS.out.step hg)
      clear hg
      rw [HAB.out]
      go_wp2_with fail
      refine (leqW_any _ _ _ _ _ Vvb.out.1.1 Vvb.out.1.1).mono ?_
      rintro e w9 ⟨rfl, hg⟩
      replace Vva := Lib.hid (Vva.out.step hg)
      replace Vvb := Lib.hid (Vvb.out.step hg)
      replace Vvc := Lib.hid (Vvc.out.step hg)
      replace HS := Lib.hid (HS.out.step hg)
      clear hg
      rw [HBB.out]
      go_wp2_with fail
      refine (embedW_any _ _ _ _ _ Vva.out.1.1 Vvc.out.1.1).mono ?_
      rintro e w10 ⟨vq, rfl, ho, hg⟩
      have VQ := Lib.hid (ho.ints embed_bd)
      replace Vva := Lib.hid (Vva.out.step hg)
      replace Vvb := Lib.hid (Vvb.out.step hg)
      replace Vvc := Lib.hid (Vvc.out.step hg)
      replace HS := Lib.hid (HS.out.step hg)
      clear ho hg
      cases he : embedR A C with
      | none =>
        have HE : Hid (leqW A C = false) := Lib.hid (by rw [leqW, he]; rfl)
        rw [he] at VQ
        dsimp only [Option.isSome_none]
        clear he
        go_wp2_with fail
        refine (leqW_any _ _ _ _ _ Vva.out.1.1 Vvc.out.1.1).mono ?_
        rintro e w11 ⟨rfl, hg⟩
        replace Vva := Lib.hid (Vva.out.step hg)
        replace Vvb := Lib.hid (Vvb.out.step hg)
        replace Vvc := Lib.hid (Vvc.out.step hg)
        replace HS := Lib.hid (HS.out.step hg)
        clear hg
        rw [HE.out]
        go_wp2_with fail
        go_ret
        exact ⟨rfl, HS.out.below⟩
      | some ps =>
        have HE : Hid (leqW A C = true) := Lib.hid (by rw [leqW, he]; rfl)
        have HP := Lib.hid (embed_proves he)
        rw [he] at VQ
        dsimp only [Option.isSome_some, Option.getD_some] at VQ ⊢
        clear he
        go_wp2_with fail
        refine (leqW_any _ _ _ _ _ Vva.out.1.1 Vvc.out.1.1).mono ?_
        rintro e w11 ⟨rfl, hg⟩
        replace VQ := Lib.hid (VQ.out.same hg)
        replace Vva := Lib.hid (Vva.out.step hg)
        replace Vvb := Lib.hid (Vvb.out.step hg)
        replace Vvc := Lib.hid (Vvc.out.step hg)
        replace HS := Lib.hid (HS.out.step hg)
        clear hg
        rw [HE.out]
        go_wp2_with fail
        refine (provesW_any _ _ _ _ _ _ _ Vva.out.1.1 Vvc.out.1.1 VQ.out).mono ?_
        rintro e w12 ⟨rfl, hd⟩
        replace Vva := Lib.hid (Vva.out.drew hd)
        replace Vvb := Lib.hid (Vvb.out.drew hd)
        replace Vvc := Lib.hid (Vvc.out.drew hd)
        replace HS := Lib.hid (HS.out.drew hd)
        clear hd
        rw [HP.out]
        go_wp2_with fail
        go_ret
        exact ⟨rfl, HS.out.below⟩
    · go_wp2_with fail
      refine (leqW_any _ _ _ _ _ Vva.out.1.1 Vvb.out.1.1).mono ?_
      rintro e w7 ⟨rfl, hg⟩
      replace Vva := Lib.hid (Vva.out.step hg)
      replace Vvb := Lib.hid (Vvb.out.step hg)
      replace Vvc := Lib.hid (Vvc.out.step hg)
      replace HS := Lib.hid (HS.out.step hg)
      clear hg
      rw [HAB.out]
      cases hbc : leqW B C
      all_goals (have HBC := Lib.hid hbc; clear hbc)
      · go_wp2_with fail
        refine (leqW_any _ _ _ _ _ Vvb.out.1.1 Vvc.out.1.1).mono ?_
        rintro e w8 ⟨rfl, hg⟩
        replace Vva := Lib.hid (Vva.out.step hg)
        replace Vvb := Lib.hid (Vvb.out.step hg)
        replace Vvc := Lib.hid (Vvc.out.step hg)
        replace HS := Lib.hid (HS.out.step hg)
        clear hg
        rw [HBC.out]
        go_wp2_with fail
        refine (leqW_any _ _ _ _ _ Vva.out.1.1 Vvb.out.1.1).mono ?_
        rintro e w9 ⟨rfl, hg⟩
        replace Vva := Lib.hid (Vva.out.step hg)
        replace Vvb := Lib.hid (Vvb.out.step hg)
        replace Vvc := Lib.hid (Vvc.out.step hg)
        replace HS := Lib.hid (HS.out.step hg)
        clear hg
        rw [HAB.out]
        cases hba : leqW B A
        all_goals (have HBA := Lib.hid hba; clear hba)
        · go_wp2_with fail
          refine (leqW_any _ _ _ _ _ Vvb.out.1.1 Vva.out.1.1).mono ?_
          rintro e w10 ⟨rfl, hg⟩
          replace Vva := Lib.hid (Vva.out.step hg)
          replace Vvb := Lib.hid (Vvb.out.step hg)
          replace Vvc := Lib.hid (Vvc.out.step hg)
          replace HS := Lib.hid (HS.out.step hg)
          clear hg
          rw [HBA.out]
          go_wp2_with fail
          refine (leqW_any _ _ _ _ _ Vvb.out.1.1 Vvb.out.1.1).mono ?_
          rintro e w11 ⟨rfl, hg⟩
          replace Vva := Lib.hid (Vva.out.step hg)
          replace Vvb := Lib.hid (Vvb.out.step hg)
          replace Vvc := Lib.hid (Vvc.out.step hg)
          replace HS := Lib.hid (HS.out.step hg)
          clear hg
          rw [HBB.out]
          go_wp2_with fail
          refine (embedW_any _ _ _ _ _ Vva.out.1.1 Vvc.out.1.1).mono ?_
          rintro e w12 ⟨vq, rfl, ho, hg⟩
          have VQ := Lib.hid (ho.ints embed_bd)
          replace Vva := Lib.hid (Vva.out.step hg)
          replace Vvb := Lib.hid (Vvb.out.step hg)
          replace Vvc := Lib.hid (Vvc.out.step hg)
          replace HS := Lib.hid (HS.out.step hg)
          clear ho hg
          cases he : embedR A C with
          | none =>
            have HE : Hid (leqW A C = false) := Lib.hid (by rw [leqW, he]; rfl)
            rw [he] at VQ
            dsimp only [Option.isSome_none]
            clear he
            go_wp2_with fail
            refine (leqW_any _ _ _ _ _ Vva.out.1.1 Vvc.out.1.1).mono ?_
            rintro e w13 ⟨rfl, hg⟩
            replace Vva := Lib.hid (Vva.out.step hg)
            replace Vvb := Lib.hid (Vvb.out.step hg)
            replace Vvc := Lib.hid (Vvc.out.step hg)
            replace HS := Lib.hid (HS.out.step hg)
            clear hg
            rw [HE.out]
            go_wp2_with fail
            go_ret
            exact ⟨rfl, HS.out.below⟩
          | some ps =>
            have HE : Hid (leqW A C = true) := Lib.hid (by rw [leqW, he]; rfl)
            have HP := Lib.hid (embed_proves he)
            rw [he] at VQ
            dsimp only [Option.isSome_some, Option.getD_some] at VQ ⊢
            clear he
            go_wp2_with fail
            refine (leqW_any _ _ _ _ _ Vva.out.1.1 Vvc.out.1.1).mono ?_
            rintro e w13 ⟨rfl, hg⟩
            replace VQ := Lib.hid (VQ.out.same hg)
            replace Vva := Lib.hid (Vva.out.step hg)
            replace Vvb := Lib.hid (Vvb.out.step hg)
            replace Vvc := Lib.hid (Vvc.out.step hg)
            replace HS := Lib.hid (HS.out.step hg)
            clear hg
            rw [HE.out]
            go_wp2_with fail
            refine (provesW_any _ _ _ _ _ _ _ Vva.out.1.1 Vvc.out.1.1 VQ.out).mono ?_
            rintro e w14 ⟨rfl, hd⟩
            replace Vva := Lib.hid (Vva.out.drew hd)
            replace Vvb := Lib.hid (Vvb.out.drew hd)
            replace Vvc := Lib.hid (Vvc.out.drew hd)
            replace HS := Lib.hid (HS.out.drew hd)
            clear hd
            rw [HP.out]
            go_wp2_with fail
            go_ret
            exact ⟨rfl, HS.out.below⟩
        · go_wp2_with fail
          refine (leqW_any _ _ _ _ _ Vvb.out.1.1 Vva.out.1.1).mono ?_
          rintro e w10 ⟨rfl, hg⟩
          replace Vva := Lib.hid (Vva.out.step hg)
          replace Vvb := Lib.hid (Vvb.out.step hg)
          replace Vvc := Lib.hid (Vvc.out.step hg)
          replace HS := Lib.hid (HS.out.step hg)
          clear hg
          rw [HBA.out]
          have HSM := Lib.hid (leqW_anti HAB.out HBA.out)
          go_wp2_with fail
          refine (same_any _ _ _ _ _ Vva.out.1.1 Vvb.out.1.1).mono ?_
          rintro e w11 ⟨rfl, hd⟩
          replace Vva := Lib.hid (Vva.out.drew hd)
          replace Vvb := Lib.hid (Vvb.out.drew hd)
          replace Vvc := Lib.hid (Vvc.out.drew hd)
          replace HS := Lib.hid (HS.out.drew hd)
          clear hd
          rw [HSM.out]
          go_wp2_with fail
          refine (leqW_any _ _ _ _ _ Vvb.out.1.1 Vvb.out.1.1).mono ?_
          rintro e w12 ⟨rfl, hg⟩
          replace Vva := Lib.hid (Vva.out.step hg)
          replace Vvb := Lib.hid (Vvb.out.step hg)
          replace Vvc := Lib.hid (Vvc.out.step hg)
          replace HS := Lib.hid (HS.out.step hg)
          clear hg
          rw [HBB.out]
          go_wp2_with fail
          refine (embedW_any _ _ _ _ _ Vva.out.1.1 Vvc.out.1.1).mono ?_
          rintro e w13 ⟨vq, rfl, ho, hg⟩
          have VQ := Lib.hid (ho.ints embed_bd)
          replace Vva := Lib.hid (Vva.out.step hg)
          replace Vvb := Lib.hid (Vvb.out.step hg)
          replace Vvc := Lib.hid (Vvc.out.step hg)
          replace HS := Lib.hid (HS.out.step hg)
          clear ho hg
          cases he : embedR A C with
          | none =>
            have HE : Hid (leqW A C = false) := Lib.hid (by rw [leqW, he]; rfl)
            rw [he] at VQ
            dsimp only [Option.isSome_none]
            clear he
            go_wp2_with fail
            refine (leqW_any _ _ _ _ _ Vva.out.1.1 Vvc.out.1.1).mono ?_
            rintro e w14 ⟨rfl, hg⟩
            replace Vva := Lib.hid (Vva.out.step hg)
            replace Vvb := Lib.hid (Vvb.out.step hg)
            replace Vvc := Lib.hid (Vvc.out.step hg)
            replace HS := Lib.hid (HS.out.step hg)
            clear hg
            rw [HE.out]
            go_wp2_with fail
            go_ret
            exact ⟨rfl, HS.out.below⟩
          | some ps =>
            have HE : Hid (leqW A C = true) := Lib.hid (by rw [leqW, he]; rfl)
            have HP := Lib.hid (embed_proves he)
            rw [he] at VQ
            dsimp only [Option.isSome_some, Option.getD_some] at VQ ⊢
            clear he
            go_wp2_with fail
            refine (leqW_any _ _ _ _ _ Vva.out.1.1 Vvc.out.1.1).mono ?_
            rintro e w14 ⟨rfl, hg⟩
            replace VQ := Lib.hid (VQ.out.same hg)
            replace Vva := Lib.hid (Vva.out.step hg)
            replace Vvb := Lib.hid (Vvb.out.step hg)
            replace Vvc := Lib.hid (Vvc.out.step hg)
            replace HS := Lib.hid (HS.out.step hg)
            clear hg
            rw [HE.out]
            go_wp2_with fail
            refine (provesW_any _ _ _ _ _ _ _ Vva.out.1.1 Vvc.out.1.1 VQ.out).mono ?_
            rintro e w15 ⟨rfl, hd⟩
            replace Vva := Lib.hid (Vva.out.drew hd)
            replace Vvb := Lib.hid (Vvb.out.drew hd)
            replace Vvc := Lib.hid (Vvc.out.drew hd)
            replace HS := Lib.hid (HS.out.drew hd)
            clear hd
            rw [HP.out]
            go_wp2_with fail
            go_ret
            exact ⟨rfl, HS.out.below⟩
      · go_wp2_with fail
        refine (leqW_any _ _ _ _ _ Vvb.out.1.1 Vvc.out.1.1).mono ?_
        rintro e w8 ⟨rfl, hg⟩
        replace Vva := Lib.hid (Vva.out.step hg)
        replace Vvb := Lib.hid (Vvb.out.step hg)
        replace Vvc := Lib.hid (Vvc.out.step hg)
        replace HS := Lib.hid (HS.out.step hg)
        clear hg
        rw [HBC.out]
        have HAC := Lib.hid (leqW_trans HAB.out HBC.out)
        go_wp2_with fail
        refine (leqW_any _ _ _ _ _ Vva.out.1.1 Vvc.out.1.1).mono ?_
        rintro e w9 ⟨rfl, hg⟩
        replace Vva := Lib.hid (Vva.out.step hg)
        replace Vvb := Lib.hid (Vvb.out.step hg)
        replace Vvc := Lib.hid (Vvc.out.step hg)
        replace HS := Lib.hid (HS.out.step hg)
        clear hg
        rw [HAC.out]
        go_wp2_with fail
        refine (leqW_any _ _ _ _ _ Vva.out.1.1 Vvb.out.1.1).mono ?_
        rintro e w10 ⟨rfl, hg⟩
        replace Vva := Lib.hid (Vva.out.step hg)
        replace Vvb := Lib.hid (Vvb.out.step hg)
        replace Vvc := Lib.hid (Vvc.out.step hg)
        replace HS := Lib.hid (HS.out.step hg)
        clear hg
        rw [HAB.out]
        cases hba : leqW B A
        all_goals (have HBA := Lib.hid hba; clear hba)
        · go_wp2_with fail
          refine (leqW_any _ _ _ _ _ Vvb.out.1.1 Vva.out.1.1).mono ?_
          rintro e w11 ⟨rfl, hg⟩
          replace Vva := Lib.hid (Vva.out.step hg)
          replace Vvb := Lib.hid (Vvb.out.step hg)
          replace Vvc := Lib.hid (Vvc.out.step hg)
          replace HS := Lib.hid (HS.out.step hg)
          clear hg
          rw [HBA.out]
          go_wp2_with fail
          refine (leqW_any _ _ _ _ _ Vvb.out.1.1 Vvb.out.1.1).mono ?_
          rintro e w12 ⟨rfl, hg⟩
          replace Vva := Lib.hid (Vva.out.step hg)
          replace Vvb := Lib.hid (Vvb.out.step hg)
          replace Vvc := Lib.hid (Vvc.out.step hg)
          replace HS := Lib.hid (HS.out.step hg)
          clear hg
          rw [HBB.out]
          go_wp2_with fail
          refine (embedW_any _ _ _ _ _ Vva.out.1.1 Vvc.out.1.1).mono ?_
          rintro e w13 ⟨vq, rfl, ho, hg⟩
          have VQ := Lib.hid (ho.ints embed_bd)
          replace Vva := Lib.hid (Vva.out.step hg)
          replace Vvb := Lib.hid (Vvb.out.step hg)
          replace Vvc := Lib.hid (Vvc.out.step hg)
          replace HS := Lib.hid (HS.out.step hg)
          clear ho hg
          cases he : embedR A C with
          | none =>
            have HE : Hid (leqW A C = false) := Lib.hid (by rw [leqW, he]; rfl)
            rw [he] at VQ
            dsimp only [Option.isSome_none]
            clear he
            go_wp2_with fail
            refine (leqW_any _ _ _ _ _ Vva.out.1.1 Vvc.out.1.1).mono ?_
            rintro e w14 ⟨rfl, hg⟩
            replace Vva := Lib.hid (Vva.out.step hg)
            replace Vvb := Lib.hid (Vvb.out.step hg)
            replace Vvc := Lib.hid (Vvc.out.step hg)
            replace HS := Lib.hid (HS.out.step hg)
            clear hg
            rw [HE.out]
            go_wp2_with fail
            go_ret
            exact ⟨rfl, HS.out.below⟩
          | some ps =>
            have HE : Hid (leqW A C = true) := Lib.hid (by rw [leqW, he]; rfl)
            have HP := Lib.hid (embed_proves he)
            rw [he] at VQ
            dsimp only [Option.isSome_some, Option.getD_some] at VQ ⊢
            clear he
            go_wp2_with fail
            refine (leqW_any _ _ _ _ _ Vva.out.1.1 Vvc.out.1.1).mono ?_
            rintro e w14 ⟨rfl, hg⟩
            replace VQ := Lib.hid (VQ.out.same hg)
            replace Vva := Lib.hid (Vva.out.step hg)
            replace Vvb := Lib.hid (Vvb.out.step hg)
            replace Vvc := Lib.hid (Vvc.out.step hg)
            replace HS := Lib.hid (HS.out.step hg)
            clear hg
            rw [HE.out]
            go_wp2_with fail
            refine (provesW_any _ _ _ _ _ _ _ Vva.out.1.1 Vvc.out.1.1 VQ.out).mono ?_
            rintro e w15 ⟨rfl, hd⟩
            replace Vva := Lib.hid (Vva.out.drew hd)
            replace Vvb := Lib.hid (Vvb.out.drew hd)
            replace Vvc := Lib.hid (Vvc.out.drew hd)
            replace HS := Lib.hid (HS.out.drew hd)
            clear hd
            rw [HP.out]
            go_wp2_with fail
            go_ret
            exact ⟨rfl, HS.out.below⟩
        · go_wp2_with fail
          refine (leqW_any _ _ _ _ _ Vvb.out.1.1 Vva.out.1.1).mono ?_
          rintro e w11 ⟨rfl, hg⟩
          replace Vva := Lib.hid (Vva.out.step hg)
          replace Vvb := Lib.hid (Vvb.out.step hg)
          replace Vvc := Lib.hid (Vvc.out.step hg)
          replace HS := Lib.hid (HS.out.step hg)
          clear hg
          rw [HBA.out]
          have HSM := Lib.hid (leqW_anti HAB.out HBA.out)
          go_wp2_with fail
          refine (same_any _ _ _ _ _ Vva.out.1.1 Vvb.out.1.1).mono ?_
          rintro e w12 ⟨rfl, hd⟩
          replace Vva := Lib.hid (Vva.out.drew hd)
          replace Vvb := Lib.hid (Vvb.out.drew hd)
          replace Vvc := Lib.hid (Vvc.out.drew hd)
          replace HS := Lib.hid (HS.out.drew hd)
          clear hd
          rw [HSM.out]
          go_wp2_with fail
          refine (leqW_any _ _ _ _ _ Vvb.out.1.1 Vvb.out.1.1).mono ?_
          rintro e w13 ⟨rfl, hg⟩
          replace Vva := Lib.hid (Vva.out.step hg)
          replace Vvb := Lib.hid (Vvb.out.step hg)
          replace Vvc := Lib.hid (Vvc.out.step hg)
          replace HS := Lib.hid (HS.out.step hg)
          clear hg
          rw [HBB.out]
          go_wp2_with fail
          refine (embedW_any _ _ _ _ _ Vva.out.1.1 Vvc.out.1.1).mono ?_
          rintro e w14 ⟨vq, rfl, ho, hg⟩
          have VQ := Lib.hid (ho.ints embed_bd)
          replace Vva := Lib.hid (Vva.out.step hg)
          replace Vvb := Lib.hid (Vvb.out.step hg)
          replace Vvc := Lib.hid (Vvc.out.step hg)
          replace HS := Lib.hid (HS.out.step hg)
          clear ho hg
          cases he : embedR A C with
          | none =>
            have HE : Hid (leqW A C = false) := Lib.hid (by rw [leqW, he]; rfl)
            rw [he] at VQ
            dsimp only [Option.isSome_none]
            clear he
            go_wp2_with fail
            refine (leqW_any _ _ _ _ _ Vva.out.1.1 Vvc.out.1.1).mono ?_
            rintro e w15 ⟨rfl, hg⟩
            replace Vva := Lib.hid (Vva.out.step hg)
            replace Vvb := Lib.hid (Vvb.out.step hg)
            replace Vvc := Lib.hid (Vvc.out.step hg)
            replace HS := Lib.hid (HS.out.step hg)
            clear hg
            rw [HE.out]
            go_wp2_with fail
            go_ret
            exact ⟨rfl, HS.out.below⟩
          | some ps =>
            have HE : Hid (leqW A C = true) := Lib.hid (by rw [leqW, he]; rfl)
            have HP := Lib.hid (embed_proves he)
            rw [he] at VQ
            dsimp only [Option.isSome_some, Option.getD_some] at VQ ⊢
            clear he
            go_wp2_with fail
            refine (leqW_any _ _ _ _ _ Vva.out.1.1 Vvc.out.1.1).mono ?_
            rintro e w15 ⟨rfl, hg⟩
            replace VQ := Lib.hid (VQ.out.same hg)
            replace Vva := Lib.hid (Vva.out.step hg)
            replace Vvb := Lib.hid (Vvb.out.step hg)
            replace Vvc := Lib.hid (Vvc.out.step hg)
            replace HS := Lib.hid (HS.out.step hg)
            clear hg
            rw [HE.out]
            go_wp2_with fail
            refine (provesW_any _ _ _ _ _ _ _ Vva.out.1.1 Vvc.out.1.1 VQ.out).mono ?_
            rintro e w16 ⟨rfl, hd⟩
            replace Vva := Lib.hid (Vva.out.drew hd)
            replace Vvb := Lib.hid (Vvb.out.drew hd)
            replace Vvc := Lib.hid (Vvc.out.drew hd)
            replace HS := Lib.hid (HS.out.drew hd)
            clear hd
            rw [HP.out]
            go_wp2_with fail
            go_ret
            exact ⟨rfl, HS.out.below⟩
  · go_enter Try.func4, Try.ntmps4
    go_wp2_with fail
    refine (awake02_any _).mono ?_
    rintro e w1 ⟨rfl, hg⟩
    have HG := Lib.hid hg
    clear hg
    go_wp2_with fail
    refine (few_any _ _ _ _).mono ?_
    rintro e w2 ⟨rfl, rfl⟩
    rw [decide_eq_false (by omega)]
    go_wp2_with fail
    refine (awake02_any _).mono ?_
    rintro e w3 ⟨rfl, hg⟩
    have HG := Lib.hid (grown_trans HG.out hg)
    clear hg
    go_wp2_with fail
    go_ret
    exact ⟨rfl, below_of HG.out⟩

/-! ### WordOrder: the statement, from its walk -/
set_option maxRecDepth 100000 in
theorem liftedWordOrder (os : Os) (started : os.Started) (H : Type) (enc : TypeId × Value → H) :
    ReturnsInHanded {} Try.checked os 4 .any (Rows.wordOrderSpec.pre6 enc Try.prog Try.f4 Rows.wordOrderRow.domain false) (Rows.wordOrderSpec.post enc Try.prog Try.f4 false true false false) := by
  refine returnsInHanded_of_change (C := Try.checked) own started (by kernel_rfl) Try.func4
    (ChangeSpec.witness6 (enc := enc) (C := Try.checked) false ⟨#[], #[.slice none 0 0], []⟩ 8 (by kernel_rfl) (by kernel_rfl) (by kernel_rfl) (by kernel_rfl)) ?_
  intro W base args ds gs before hval0 hW hcnd _
  have hval : ∀ (j : Nat) t v, Try.f4.params[j]? = some t → args[j]? = some v → Value.okWide Try.prog W .any base t v := hval0
  have hW' := hW
  obtain ⟨p, q, hA0, hV, rfl, hfz, hnd⟩ := hW
  have hA : DataW.TrodAll enc Try.prog W 0 (fun _ => true) true Try.f4.params.toList args.toList ds p := hA0
  rw [Try.params4] at hA hval
  obtain ⟨v0, vs0, d0, ds0, p0, q0, hargs, rfl, rfl, h0, r0⟩ := trodAll_cons hA
  obtain ⟨rfl, rfl, rfl⟩ := trodAll_nil r0
  obtain rfl : args = #[v0] := by cases args; simp_all
  obtain ⟨rfl, rfl⟩ := trodVars_none hV
  obtain ⟨a0, len0, cap0, rfl⟩ := okWide_slice Try.underlying22 (hval 0 22 v0 rfl rfl)
  have k0 := h0
  have lt0 : ∀ x ∈ p0, x.block < W.heap.size := by obtain ⟨m, hm⟩ := k0; exact DataW.trod_lt m _ _ _ hm
  obtain ⟨z0, w0⟩ : ∃ zs, IsRow .i64 W a0 len0 cap0 zs := by
    obtain ⟨fuel, hf⟩ := h0
    rcases open_ints Try.underlying22 Try.underlying3 (by kernel_rfl) hf with ⟨hcs, _⟩ | ⟨x, l, c, zs, hcs, _, hl, hm, hz, _, hcell, hwz⟩
    · simp [Value.cells] at hcs
      obtain ⟨rfl, rfl, rfl⟩ := hcs
      exact ⟨[], .inl ⟨rfl, rfl, rfl, rfl⟩⟩
    · simp [Value.cells] at hcs
      obtain ⟨rfl, rfl, rfl⟩ := hcs
      exact ⟨zs, .inr ⟨_, rfl, hl, hm, by simpa using hz, hcell, hwz⟩⟩
  clear hA0 hval0
  refine (walkWordOrder a0 len0 cap0 z0 W w0).mono fun e W' ⟨he, bel⟩ => ?_
  subst he
  exact ⟨_, rfl, _, _, _, [], _, [], hW', trodAll_mk1 (shut_bool Try.underlying4 _), (trodAll_cons_mk (Below.trod laidOut (by kernel_rfl) (of_decide_eq_true (by kernel_rfl)) k0 bel lt0) trodAll_mk0), rfl, bel.frame _, fun h => by cases h⟩

theorem wordOrder_holds : Rows.WordOrderSaid :=
  OpenClaim.holds_of_wide 4 Try.f4 rfl rfl rfl rfl rfl rfl rfl ⟨rfl, rfl, rfl, rfl, rfl⟩ rfl rfl rfl rfl rfl (by kernel_rfl) Try.func4 (by kernel_rfl)
    (of_decide_eq_true (by kernel_rfl)) (by unfold Func.isWrapper; first | (rw [if_pos (by decide +kernel)]; kernel_rfl) | (rw [if_neg (by decide +kernel)]; exact ⟨rfl, rfl⟩))
    (fun os started H enc _ => liftedWordOrder os started H enc)
#print axioms wordOrder_holds
end Go.Proofs.Ytiajngnjklbgkaa
