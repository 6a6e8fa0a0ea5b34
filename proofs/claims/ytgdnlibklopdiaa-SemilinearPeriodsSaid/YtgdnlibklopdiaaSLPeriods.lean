/- SemilinearPeriods: for every input it answers true. -/
import Derived.Test.YtgdnlibklopdiaaTl
namespace Go.Proofs.Ytgdnlibklopdiaa
open Go.ChangeShapes Go.WideShapes Go.ChangeAt Go.RowKit
set_option linter.unusedVariables false

set_option maxRecDepth 100000 in
set_option maxHeartbeats 6000000 in
theorem walkSemilinearPeriods (a0 : Option Addr) (len0 cap0 : Nat) (z0 : List Int) (w : World) (w0 : IsRow .i64 w a0 len0 cap0 z0) :
    Calls Try.prog 12 #[.slice a0 len0 cap0] w fun e w' => e = .returned (.bool true) ∧ Below w.heap.size w w' := by
  obtain ⟨hI, hlen⟩ := w0.ints
  generalize z0.take len0 = zs at hI hlen
  subst hlen
  have HI := Lib.hid hI
  clear hI w0
  by_cases hfew : (zs.length : Int) ≤ 400
  · go_enter Try.func12, Try.ntmps12
    go_wp2_with fail
    refine (awake13_any _).mono ?_
    rintro e w1 ⟨rfl, hg⟩
    have HG := Lib.hid hg
    clear hg
    go_wp2_with fail
    refine (few_any _ _ _ _).mono ?_
    rintro e w2 ⟨rfl, rfl⟩
    rw [decide_eq_true hfew]
    go_wp2_with fail
    refine (new_st (HI.out.same HG.out) HG.out).mono ?_
    rintro e w3 ⟨p, d, rfl, hs⟩
    have HS := Lib.hid hs
    clear hs HG HI
    go_wp2_with fail
    refine (next_st HS.out _ (by omega) (by omega)).mono ?_
    rintro e w4 ⟨y, rfl, hy0, hy1, hs, hg⟩
    replace HS := Lib.hid hs
    clear hs hg
    obtain ⟨n, hn⟩ : ∃ n : Nat, 1 + y = (n : Int) := ⟨(1 + y).toNat, by omega⟩
    have hn1 : 1 ≤ n := by omega
    have hn4 : n ≤ 4 := by omega
    go_wp2_with fail
    refine (linear_st HS.out n hn1 (by omega)).mono ?_
    rintro e w5 ⟨u, B, P, rfl, hlin, hs, hg⟩
    obtain ⟨au, cu, pu, qu, rfl⟩ := hlin.open
    replace HS := Lib.hid hs; have Vu := Lib.hid hlin
    clear hs hg hlin
    go_wp2_with fail
    refine (linear_st HS.out n hn1 (by omega)).mono ?_
    rintro e w6 ⟨v, C, Q, rfl, hlin, hs, hg⟩
    obtain ⟨av, cv, pv, qv, rfl⟩ := hlin.open
    replace Vu := Lib.hid (Vu.out.deal hg)
    replace HS := Lib.hid hs; have Vv := Lib.hid hlin
    clear hs hg hlin
    clear hn hy0 hy1
    go_wp2_with fail
    obtain ⟨hx, hz⟩ := BoxD.two (x := .slice au B.length cu) (y := .slice pu P.length qu) (x' := .slice av C.length cv) (y' := .slice pv Q.length qv) (e := 49) HS.out.lt
    have hg : w6.grownBy ((w6.alloc (.cells #[.slice au B.length cu, .slice pu P.length qu] 49)).alloc (.cells #[.slice av C.length cv, .slice pv Q.length qv] 49)) none := grown_after (grown_after (grown_refl _ _))
    generalize ((w6.alloc (.cells #[.slice au B.length cu, .slice pu P.length qu] 49)).alloc (.cells #[.slice av C.length cv, .slice pv Q.length qv] 49)) = wb at *
    replace Vu := Lib.hid (Vu.out.step hg)
    replace Vv := Lib.hid (Vv.out.step hg)
    replace HS := Lib.hid (HS.out.step hg); have Vx := Lib.hid hx; have Vz := Lib.hid hz
    clear hg hx hz
    generalize w6.heap.size = gx at *
    have hP3 : P.length ≤ 3 := Vu.out.valid.2.2.2.2.2.1
    go_wp2_with fail
    refine (small_rv HS.out n 9 (by omega) (by omega) (by omega)).mono ?_
    rintro e w7 ⟨r, R, rfl, hlR, hpR, hv, hs, hg⟩
    replace Vu := Lib.hid (Vu.out.deal hg)
    replace Vv := Lib.hid (Vv.out.deal hg)
    replace Vx := Lib.hid (Vx.out.deal hg)
    replace Vz := Lib.hid (Vz.out.deal hg)
    have Vr := Lib.hid hv; replace HS := Lib.hid hs; have LR := Lib.hid hlR; have PR := Lib.hid hpR
    clear hv hs hg hlR hpR
    obtain ⟨⟨⟨ar, cr, hr, -⟩, -⟩, -⟩ := Vr.out
    dsimp only at hr
    subst hr
    have R64 : Hid (withB 64 R = true) := Lib.hid (withB_iff.2 fun x hx => by have := PR.out x hx; omega)
    have RL : Hid (R.length = n) := Lib.hid LR.out
    clear LR
    have x0 := Vx.out.1; have x1 := Vx.out.2.1; have z0 := Vz.out.1; have z1 := Vz.out.2.1
    go_wp2_with fail
    generalize hW : World.alloc _ (.cells #[.slice au B.length cu, .slice pu P.length qu, .slice av C.length cv, .slice pv Q.length qv] 49) = W
    have hgW : w7.grownBy W none := hW ▸ World.grownBy_alloc _ _ none
    have hcs : CellsS W w7.heap.size 0 [(.slice au B.length cu, .slice pu P.length qu), (.slice av C.length cv, .slice pv Q.length qv)] := by rw [← hW]; exact cells_two (heap_new _ rfl)
    clear hW x0 x1 z0 z1
    replace Vu := Lib.hid (Vu.out.step hgW)
    replace Vv := Lib.hid (Vv.out.step hgW)
    replace Vx := Lib.hid (Vx.out.step hgW)
    replace Vz := Lib.hid (Vz.out.step hgW)
    replace Vr := Lib.hid (Vr.out.step hgW)
    have HS0 := HS
    replace HS := Lib.hid (HS.out.step hgW)
    have HGB : Hid (d ≠ w7.heap.size) := Lib.hid (Nat.ne_of_lt HS0.out.lt)
    generalize w7.heap.size = gb at *
    have HCS := Lib.hid hcs
    clear hgW hcs HS0
    by_cases hA : AnyS [((.slice au B.length cu, .slice pu P.length qu), (B, P))] R
    · have HA := Lib.hid hA
      clear hA
      have G : Hid (W.grownBy W.drew none) := Lib.hid (grown_drew _ none)
      refine wp_region_any (by kernel_rfl) ?_
      change wpAny _ _ _ _ _ _ _ (World.drew _)
      refine wpAny_take (i := 0) (v := .int .i64 (n : Int)) rfl (by kernel_rfl) (by kernel_rfl) (by kernel_rfl) (fun _ _ _ h => h) (Or.inl ⟨by kernel_rfl, fun _ => by kernel_rfl⟩) ?_
      refine wpAny_take (i := 1) (v := .slice (some ⟨gb, 0, none⟩) 2 2) rfl (by kernel_rfl) (by kernel_rfl) (by kernel_rfl) (fun _ _ _ h => h) (Or.inl ⟨by kernel_rfl, fun _ => by kernel_rfl⟩) ?_
      refine wpAny_take (i := 2) (v := .slice ar R.length cr) rfl (by kernel_rfl) (by kernel_rfl) (by kernel_rfl) (fun _ _ _ h => h) (Or.inl ⟨by kernel_rfl, fun _ => by kernel_rfl⟩) ?_
      refine wpAny_take (i := 4) (v := .int .i64 (n : Int)) rfl (by kernel_rfl) (by kernel_rfl) (by kernel_rfl) (fun _ _ _ h => h) (Or.inl ⟨by kernel_rfl, fun _ => by kernel_rfl⟩) ?_
      refine wpAny_take (i := 5) (v := .slice (some ⟨gb, 0, none⟩) 2 2) rfl (by kernel_rfl) (by kernel_rfl) (by kernel_rfl) (fun _ _ _ h => h) (Or.inl ⟨by kernel_rfl, fun _ => by kernel_rfl⟩) ?_
      refine wpAny_take (i := 6) (v := .slice (some ⟨gb, 0, none⟩) 1 2) rfl (by kernel_rfl) (by kernel_rfl) (by kernel_rfl) (fun _ _ _ h => h) (Or.inl ⟨by kernel_rfl, fun _ => by go_simp⟩) ?_
      refine wpAny_take (i := 7) (v := .slice ar R.length cr) rfl (by kernel_rfl) (by kernel_rfl) (by kernel_rfl) (fun _ _ _ h => h) (Or.inl ⟨by kernel_rfl, fun _ => by kernel_rfl⟩) ?_
      refine wpAny_ready (rs := [3]) (by kernel_rfl) (by simp) (AllReady.cons rfl (fun K hK => ?_) AllReady.nil)
      refine step_call 40 44 _ _ _ _ _ Try.f44 _ Try.func44 (by kernel_rfl) rfl [.int .i64 (n : Int), .slice (some ⟨gb, 0, none⟩) 2 2, .slice ar R.length cr] (by kernel_rfl) _ (has_any n gb 0 2 [((.slice au B.length cu, .slice pu P.length qu), (B, P)), ((.slice av C.length cv, .slice pv Q.length qv), (C, Q))] _ R _ hn1 hn4 (HCS.out.same G.out) (by intro u hu; simp only [List.mem_cons, List.not_mem_nil, or_false] at hu; rcases hu with rfl | rfl; exact Vu.out.ok.same G.out; exact Vv.out.ok.same G.out) (by simp) (Vr.out.1.same G.out) RL.out R64.out) ?_
      rintro e w40 ⟨Bo, rfl, hB, hg⟩
      obtain rfl : Bo = true := hB.2 (anyS_two.2 (.inl HA.out))
      refine ⟨_, rfl, ?_⟩
      replace G : Hid (W.grownBy w40 none) := Lib.hid (grown_trans G.out hg)
      clear hB hg
      refine hK _ _ ?_
      clear hK K
      refine wpAny_ready (rs := [8]) (by kernel_rfl) (by simp) (AllReady.cons rfl (fun K hK => ?_) AllReady.nil)
      refine step_call 45 44 _ _ _ _ _ Try.f44 _ Try.func44 (by kernel_rfl) rfl [.int .i64 (n : Int), .slice (some ⟨gb, 0, none⟩) 1 2, .slice ar R.length cr] (by kernel_rfl) _ (has_any n gb 0 2 [((.slice au B.length cu, .slice pu P.length qu), (B, P))] _ R _ hn1 hn4 (HCS.out.head.same G.out) (by intro u hu; simp only [List.mem_cons, List.not_mem_nil, or_false] at hu; subst hu; exact Vu.out.ok.same G.out) (by simp) (Vr.out.1.same G.out) RL.out R64.out) ?_
      rintro e w45 ⟨Bo, rfl, hB, hg⟩
      obtain rfl : Bo = true := hB.2 (HA.out)
      refine ⟨_, rfl, ?_⟩
      replace G : Hid (W.grownBy w45 none) := Lib.hid (grown_trans G.out hg)
      clear hB hg
      refine hK _ _ ?_
      clear hK K
      refine wpAny_take (i := 9) (v := .bool true) rfl (by kernel_rfl) (by kernel_rfl) (by kernel_rfl) (fun _ _ _ h => h) (Or.inl ⟨by kernel_rfl, fun _ => by kernel_rfl⟩) ?_
      refine wpAny_take (i := 10) (v := undef) rfl (by kernel_rfl) (by kernel_rfl) (by kernel_rfl) (fun _ _ _ h => h) (Or.inr ⟨by kernel_rfl, rfl⟩) ?_
      refine wpAny_take (i := 11) (v := undef) rfl (by kernel_rfl) (by kernel_rfl) (by kernel_rfl) (fun _ _ _ h => h) (Or.inr ⟨by kernel_rfl, rfl⟩) ?_
      refine wpAny_take (i := 12) (v := undef) rfl (by kernel_rfl) (by kernel_rfl) (by kernel_rfl) (fun _ _ _ h => h) (Or.inr ⟨by kernel_rfl, rfl⟩) ?_
      refine wpAny_take (i := 13) (v := undef) rfl (by kernel_rfl) (by kernel_rfl) (by kernel_rfl) (fun _ _ _ h => h) (Or.inr ⟨by kernel_rfl, rfl⟩) ?_
      refine wpAny_take (i := 14) (v := undef) rfl (by kernel_rfl) (by kernel_rfl) (by kernel_rfl) (fun _ _ _ h => h) (Or.inr ⟨by kernel_rfl, rfl⟩) ?_
      refine wpAny_take (i := 15) (v := .bool true) rfl (by kernel_rfl) (by kernel_rfl) (by kernel_rfl) (fun _ _ _ h => h) (Or.inl ⟨by kernel_rfl, fun _ => by kernel_rfl⟩) ?_
      refine wpAny_ready (rs := [16]) (by kernel_rfl) (by simp) (AllReady.cons rfl (fun K hK => ?_) AllReady.nil)
      go_simp
      refine hK _ _ ?_
      clear hK K
      refine wpAny_done (by kernel_rfl) ?_ _
      replace Vu := Lib.hid (Vu.out.step G.out)
      replace Vv := Lib.hid (Vv.out.step G.out)
      replace Vx := Lib.hid (Vx.out.step G.out)
      replace Vz := Lib.hid (Vz.out.step G.out)
      replace Vr := Lib.hid (Vr.out.step G.out)
      replace HS := Lib.hid (HS.out.step G.out); replace HCS := Lib.hid (HCS.out.same G.out)
      clear G
      have x0 := Vx.out.1; have x1 := Vx.out.2.1
      by_cases h0 : P.length = 0
      · have h0i : (P.length : Int) = 0 := by omega
        clear h0
        go_wp2_with fail
        have HBA := Lib.hid Vu.out.base
        refine (has_any n gb 0 2 [((.slice au B.length cu, .slice pu P.length qu), (B, P)), ((.slice av C.length cv, .slice pv Q.length qv), (C, Q))] _ B _ hn1 hn4 HCS.out (by intro u hu; simp only [List.mem_cons, List.not_mem_nil, or_false] at hu; rcases hu with rfl | rfl; exact Vu.out.ok; exact Vv.out.ok) (by simp) HBA.out.1 Vu.out.valid.2.2.1 Vu.out.valid.w64).mono ?_
        rintro e w8 ⟨Bo, rfl, hB, hg⟩
        obtain rfl : Bo = true := hB.2 (anyS_two.2 (.inl (anyS_one.2 (sol_self Vu.out.valid))))
        replace HS := Lib.hid (HS.out.step hg)
        clear hB hg x0 x1
        go_wp2_with fail
        go_ret
        exact ⟨rfl, HS.out.below⟩
      · have h0i : ¬ (P.length : Int) = 0 := by omega
        have HP1 : Hid (1 ≤ P.length ∧ P.length ≤ 3) := Lib.hid ⟨by omega, hP3⟩
        go_wp2_with fail
        have G : Hid (w45.grownBy w45.drew none) := Lib.hid (grown_drew _ none)
        clear x0 x1
        go_region_held3 (fun w' => w'.cell? ⟨gx, 0, none⟩ = some (.slice au B.length cu) ∧ w'.cell? ⟨gx, 1, none⟩ = some (.slice pu P.length qu)) (first | exact ⟨Vx.out.1, Vx.out.2.1⟩ | exact ⟨(Vx.out.step G.out).1, (Vx.out.step G.out).2.1⟩) (first
          | (refine step_call 68 30 _ _ _ _ _ Try.f30 _ Try.func30 (by kernel_rfl) rfl [p, .int .i64 (P.length : Int), .int .i64 1] (by kernel_rfl) _ (small_rv (HS.out.step G.out) P.length 1 (by omega) (by omega) (by omega)) ?_; rintro e w68 ⟨vt, T, rfl, hlT, hpT, hvT, hsT, hgT⟩; replace Vu := Lib.hid ((Vu.out.step G.out).deal hgT); replace Vv := Lib.hid ((Vv.out.step G.out).deal hgT); replace Vx := Lib.hid ((Vx.out.step G.out).deal hgT); replace Vz := Lib.hid ((Vz.out.step G.out).deal hgT); replace Vr := Lib.hid ((Vr.out.step G.out).deal hgT); replace HCS := Lib.hid ((HCS.out.same G.out).far HGB.out hgT); replace HS := Lib.hid hsT; have Vt := Lib.hid hvT; have LT : Hid (T.length = P.length) := Lib.hid hlT; have PT := Lib.hid hpT; clear G hlT hpT hvT hsT hgT; refine ⟨_, rfl, ?_⟩)
          | (refine step_call 69 53 _ _ _ _ _ Try.f53 _ Try.func53 (by kernel_rfl) rfl [.agg #[.slice au B.length cu, .slice pu P.length qu], vt] (by kernel_rfl) _ (made_any n _ _ B T P _ Vu.out.lin Vu.out.valid Vt.out.1 LT.out (fun t ht => by have := PT.out t ht; omega)) ?_; rintro e w69 ⟨m, rfl, ho, hg⟩; have HMM := Lib.hid (Vu.out.made (ts := T) (fun t ht => by have := PT.out t ht; omega)); obtain ⟨gm, cm, rfl, hbg, hbc⟩ := ownI_own ho (by rw [HMM.out.1]; exact hn1); have VU8 := Vu; have HGB8 : Hid (gb < w68.heap.size) := Lib.hid (World.block_lt_of_cell? _ _ (HCS.out 0 (by simp)).1); have G69 := Lib.hid hg; have HGM8 := Lib.hid hbg; replace Vu := Lib.hid (Vu.out.step hg); replace Vv := Lib.hid (Vv.out.step hg); replace Vx := Lib.hid (Vx.out.step hg); replace Vz := Lib.hid (Vz.out.step hg); replace Vr := Lib.hid (Vr.out.step hg); replace HCS := Lib.hid (HCS.out.same hg); have HS0 := HS; have HGM : Hid (d < gm) := Lib.hid (Nat.lt_of_lt_of_le HS.out.lt hbg); replace HS := Lib.hid (HS.out.step hg); have OM := Lib.hid ho; have HSL : Hid (d < w68.heap.size) := Lib.hid HS0.out.lt; clear ho hg hbg hbc Vt HS0; refine ⟨_, rfl, ?_⟩))
        generalize hMM : madeL B P T = M at *
        have HM := Lib.hid hMM
        clear hMM
        have x0 := Vx.out.1; have x1 := Vx.out.2.1
        go_wp2_with fail
        have hP1 := HP1.out.1
        have hP3' := HP1.out.2
        obtain ⟨-, -, pe, po, rfl, -⟩ := Vu.out.at (show 0 < P.length by omega)
        have G : Hid (w69.grownBy w69.drew none) := Lib.hid (grown_drew _ none)
        clear x0
        go_region_law (first
          | (refine step_call 76 17 _ _ _ _ _ Try.f17 _ Try.func17 (by kernel_rfl) rfl [p, .int .i64 (P.length : Int)] (by kernel_rfl) _ (next_st (HS.out.step G.out) (P.length : Int) (by omega) (by omega)) ?_; rintro e w76 ⟨y2, rfl, hy0, hy1, hs, hg⟩; obtain ⟨k, rfl⟩ : ∃ k : Nat, y2 = k := ⟨y2.toNat, by omega⟩; have hkP : k < P.length := (by omega); replace Vu := Lib.hid ((Vu.out.step G.out).deal hg); replace Vv := Lib.hid ((Vv.out.step G.out).deal hg); replace Vx := Lib.hid ((Vx.out.step G.out).deal hg); replace Vz := Lib.hid ((Vz.out.step G.out).deal hg); replace Vr := Lib.hid ((Vr.out.step G.out).deal hg); replace HCS := Lib.hid ((HCS.out.same G.out).far HGB.out hg); replace HS := Lib.hid hs; replace OM := Lib.hid ((OM.out.same1 G.out).deal HSL.out hg); obtain ⟨pk, pc, pe', po', hpe, hpc8, hrv, -, hde⟩ := VU8.out.at hkP; simp only [Option.some.injEq, Addr.mk.injEq, and_true] at hpe; obtain ⟨rfl, rfl⟩ := hpe; have G76 : Hid (w68.grownBy w76 (some d)) := Lib.hid (grown_deal (grown_wide (grown_trans G69.out G.out)) hg); have hpc := G76.out.cell hpc8 (ne_some hde); have HRV := Lib.hid hrv; clear hpc8 hrv hde; clear hs hg; have x1q := Vx.out.2.1; refine ⟨_, rfl, ?_⟩))
        all_goals
          have HPK := Lib.hid (Vu.out.per _ (List.getElem_mem hkP))
          have HMORE : Hid (madeL B P (T.set k (T[k]?.getD 0 + 1)) = sumL M P[k]) := Lib.hid (by rw [madeL_more P T B k hkP LT.out, HM.out])
          have HT1 : Hid (∀ t ∈ T.set k (T[k]?.getD 0 + 1), 0 ≤ t) := Lib.hid (fun t ht => by
            rcases List.mem_or_eq_of_mem_set ht with h | rfl
            · exact (PT.out t h).1
            · have := (mem_at PT.out (show k < T.length by rw [LT.out]; exact hkP)).1; omega)
          have HTS : Hid ((T.set k (T[k]?.getD 0 + 1)).length = P.length) := Lib.hid (by rw [List.length_set]; exact LT.out)
          have HSUML : Hid ((sumL M P[k]).length = n) := Lib.hid (sumL_len HMM.out.1 HPK.out.1.1.1)
          have HSUM : Hid (∀ x ∈ sumL M P[k], 0 ≤ x ∧ x ≤ 64) := Lib.hid (fun z hz => by
            obtain ⟨x, hx, y, hy, rfl⟩ := mem_zipWith _ M P[k] z hz
            have h1 := HMM.out.2 x hx
            have h2 := HPK.out.1.1.2 y hy
            have h3 := HPK.out.2 y hy
            omega)
          have HSOL : Hid (SolE P (lessL (sumL M P[k]) B)) := Lib.hid ⟨_, (sol_made HSUML.out P _ B (fun p hp => (Vu.out.per p hp).1.1.1) Vu.out.valid.2.2.1).2 ⟨HTS.out, HT1.out, HMORE.out⟩⟩
          have HQL : Hid (P[k].length = n) := Lib.hid HPK.out.1.1.1
          have HML : Hid (M.length = n) := Lib.hid HMM.out.1
          have hmb : M.length ≤ 4 := by rw [HML.out]; exact hn4
          clear HMORE HT1 HTS hy0 hy1 hpc
          generalize P[k] = q at *
          go_wp2_with fail
          go_loopw [81] (fun i wr => ∃ (j : Nat) (zz : List Int), i = .int .i64 j ∧ j ≤ M.length ∧ Hid (zz.length = n ∧ zz.take j = (sumL M q).take j ∧ zz.drop j = M.drop j) ∧ Hid (OwnI wr w68.heap.size (.slice (some ⟨gm, 0, none⟩) M.length cm) zz) ∧ Hid (w68.grownBy wr (some d)) ∧ Hid (w76.grownBy wr (some gm))) (fun i _ => M.length - (intOf i).toNat)
          case atStart => exact ⟨0, _, rfl, Nat.zero_le _, Lib.hid ⟨HML.out, by simp, rfl⟩, OM, G76, Lib.hid (grown_refl _ _)⟩
          case round =>
            obtain ⟨j, zz, rfl, hj, hz, hoz, hg8, hg7⟩ := hrel
            rename World => wj
            by_cases hjb : j < M.length
            · have hjn : j < n := by rw [← HML.out]; exact hjb
              have hjq : j < q.length := by rw [HQL.out]; exact hjn
              have ST := Lib.hid (sum_step HQL.out HML.out hz.out.1 hjn hz.out.2.1 hz.out.2.2)
              obtain ⟨bq, oq, rfl, hqc⟩ := at_cell (HRV.out.deal hg8.out).1 hjq
              have cq := hqc _ (grown_refl _ _)
              obtain ⟨hcell, hfr⟩ := hoz.out.cell j (by rw [hz.out.1]; exact hjn)
              have hyy := mem_at HPK.out.1.1.2 hjq
              have hyz := mem_at HPK.out.2 hjq
              have hxx := mem_at HMM.out.2 hjb
              rw [← ST.out.1] at hxx
              have h2 : (j : Int) < (q.length : Int) := by omega
              have h3 : (j : Int) < (M.length : Int) := by omega
              clear hqc
              generalize hX : zz[j]?.getD 0 = x at *
              generalize hY : q[j]?.getD 0 = y at *
              clear hX hY
              have g1 : IntKind.i64.wrap (x + y) = x + y := IntWalk.i64_in _ (by omega)
              clear hyy hyz hxx
              go_wp2_with fail
              go_region
              all_goals
                go_wp2_with fail
                go_roundw
                case rel => exact ⟨j + 1, zz.set j (x + y), by go_num, by omega, Lib.hid ⟨by rw [List.length_set]; exact hz.out.1, ST.out.2.1, ST.out.2.2⟩, Lib.hid ((hoz.out.stored j _).kept (grown_drew _ none) (by simp)), Lib.hid (grown_trans (grown_then hg8.out (grown_set _ _ _) (by rintro j ⟨⟩; exact .inl HGM8.out)) (grown_drew _ _)), Lib.hid (grown_trans (grown_trans hg7.out (grown_set _ _ _)) (grown_drew _ _))⟩
                case measure => simp [intOf]; omega
            · have hq : zz = sumL M q := by
                have h2 := hz.out.1
                have h1 := hz.out.2.1
                have h4 := HML.out
                rwa [List.take_of_length_le (by omega), List.take_of_length_le (by rw [HSUML.out]; omega)] at h1
              subst hq
              have h2 : ¬ (j : Int) < (M.length : Int) := by omega
              have HSJ := Lib.hid (HS.out.set hg7.out HGM.out)
              have HCJ := Lib.hid (HCS.out.far (by have := HGB8.out; have := HGM8.out; omega) hg7.out)
              have VJ := Lib.hid (VU8.out.deal hg8.out)
              have RJ := Lib.hid (hoz.out.row (fun x hx => by have := HSUM.out x hx; omega))
              go_wp2_with fail
              refine (has_any n gb 0 2 [((.slice au B.length cu, .slice (some ⟨pe, po, none⟩) P.length qu), (B, P))] _ (sumL M q) _ hn1 hn4 HCJ.out.head (by intro u hu; rw [List.mem_singleton.1 hu]; exact VJ.out.ok) (by simp) RJ.out HSUML.out (withB_iff.2 HSUM.out)).mono ?_
              rintro e w99 ⟨Bo, rfl, hB, hg⟩
              obtain rfl : Bo = true := hB.2 (anyS_one.2 HSOL.out)
              have HSK := Lib.hid (HSJ.out.step hg)
              clear hB hg
              go_wp2_with fail
              go_ret
              exact ⟨rfl, HSK.out.below⟩
    · have HA := Lib.hid hA
      clear hA
      by_cases hB2 : AnyS [((.slice av C.length cv, .slice pv Q.length qv), (C, Q))] R
      · have HB2 := Lib.hid hB2
        clear hB2
        have G : Hid (W.grownBy W.drew none) := Lib.hid (grown_drew _ none)
        refine wp_region_any (by kernel_rfl) ?_
        change wpAny _ _ _ _ _ _ _ (World.drew _)
        refine wpAny_take (i := 0) (v := .int .i64 (n : Int)) rfl (by kernel_rfl) (by kernel_rfl) (by kernel_rfl) (fun _ _ _ h => h) (Or.inl ⟨by kernel_rfl, fun _ => by kernel_rfl⟩) ?_
        refine wpAny_take (i := 1) (v := .slice (some ⟨gb, 0, none⟩) 2 2) rfl (by kernel_rfl) (by kernel_rfl) (by kernel_rfl) (fun _ _ _ h => h) (Or.inl ⟨by kernel_rfl, fun _ => by kernel_rfl⟩) ?_
        refine wpAny_take (i := 2) (v := .slice ar R.length cr) rfl (by kernel_rfl) (by kernel_rfl) (by kernel_rfl) (fun _ _ _ h => h) (Or.inl ⟨by kernel_rfl, fun _ => by kernel_rfl⟩) ?_
        refine wpAny_take (i := 4) (v := .int .i64 (n : Int)) rfl (by kernel_rfl) (by kernel_rfl) (by kernel_rfl) (fun _ _ _ h => h) (Or.inl ⟨by kernel_rfl, fun _ => by kernel_rfl⟩) ?_
        refine wpAny_take (i := 5) (v := .slice (some ⟨gb, 0, none⟩) 2 2) rfl (by kernel_rfl) (by kernel_rfl) (by kernel_rfl) (fun _ _ _ h => h) (Or.inl ⟨by kernel_rfl, fun _ => by kernel_rfl⟩) ?_
        refine wpAny_take (i := 6) (v := .slice (some ⟨gb, 0, none⟩) 1 2) rfl (by kernel_rfl) (by kernel_rfl) (by kernel_rfl) (fun _ _ _ h => h) (Or.inl ⟨by kernel_rfl, fun _ => by go_simp⟩) ?_
        refine wpAny_take (i := 7) (v := .slice ar R.length cr) rfl (by kernel_rfl) (by kernel_rfl) (by kernel_rfl) (fun _ _ _ h => h) (Or.inl ⟨by kernel_rfl, fun _ => by kernel_rfl⟩) ?_
        refine wpAny_ready (rs := [3]) (by kernel_rfl) (by simp) (AllReady.cons rfl (fun K hK => ?_) AllReady.nil)
        refine step_call 40 44 _ _ _ _ _ Try.f44 _ Try.func44 (by kernel_rfl) rfl [.int .i64 (n : Int), .slice (some ⟨gb, 0, none⟩) 2 2, .slice ar R.length cr] (by kernel_rfl) _ (has_any n gb 0 2 [((.slice au B.length cu, .slice pu P.length qu), (B, P)), ((.slice av C.length cv, .slice pv Q.length qv), (C, Q))] _ R _ hn1 hn4 (HCS.out.same G.out) (by intro u hu; simp only [List.mem_cons, List.not_mem_nil, or_false] at hu; rcases hu with rfl | rfl; exact Vu.out.ok.same G.out; exact Vv.out.ok.same G.out) (by simp) (Vr.out.1.same G.out) RL.out R64.out) ?_
        rintro e w40 ⟨Bo, rfl, hB, hg⟩
        obtain rfl : Bo = true := hB.2 (anyS_two.2 (.inr HB2.out))
        refine ⟨_, rfl, ?_⟩
        replace G : Hid (W.grownBy w40 none) := Lib.hid (grown_trans G.out hg)
        clear hB hg
        refine hK _ _ ?_
        clear hK K
        refine wpAny_ready (rs := [8]) (by kernel_rfl) (by simp) (AllReady.cons rfl (fun K hK => ?_) AllReady.nil)
        refine step_call 45 44 _ _ _ _ _ Try.f44 _ Try.func44 (by kernel_rfl) rfl [.int .i64 (n : Int), .slice (some ⟨gb, 0, none⟩) 1 2, .slice ar R.length cr] (by kernel_rfl) _ (has_any n gb 0 2 [((.slice au B.length cu, .slice pu P.length qu), (B, P))] _ R _ hn1 hn4 (HCS.out.head.same G.out) (by intro u hu; simp only [List.mem_cons, List.not_mem_nil, or_false] at hu; subst hu; exact Vu.out.ok.same G.out) (by simp) (Vr.out.1.same G.out) RL.out R64.out) ?_
        rintro e w45 ⟨Bo, rfl, hB, hg⟩
        obtain rfl : Bo = false := by cases Bo; rfl; exact absurd (hB.1 rfl) (HA.out)
        refine ⟨_, rfl, ?_⟩
        replace G : Hid (W.grownBy w45 none) := Lib.hid (grown_trans G.out hg)
        clear hB hg
        refine hK _ _ ?_
        clear hK K
        refine wpAny_take (i := 9) (v := .bool false) rfl (by kernel_rfl) (by kernel_rfl) (by kernel_rfl) (fun _ _ _ h => h) (Or.inl ⟨by kernel_rfl, fun _ => by kernel_rfl⟩) ?_
        refine wpAny_take (i := 10) (v := .int .i64 (n : Int)) rfl (by kernel_rfl) (by kernel_rfl) (by kernel_rfl) (fun _ _ _ h => h) (Or.inl ⟨by kernel_rfl, fun _ => by kernel_rfl⟩) ?_
        refine wpAny_take (i := 11) (v := .slice (some ⟨gb, 0, none⟩) 2 2) rfl (by kernel_rfl) (by kernel_rfl) (by kernel_rfl) (fun _ _ _ h => h) (Or.inl ⟨by kernel_rfl, fun _ => by kernel_rfl⟩) ?_
        refine wpAny_take (i := 12) (v := .slice (some ⟨gb, 2, none⟩) 1 1) rfl (by kernel_rfl) (by kernel_rfl) (by kernel_rfl) (fun _ _ _ h => h) (Or.inl ⟨by kernel_rfl, fun _ => by go_simp⟩) ?_
        refine wpAny_take (i := 13) (v := .slice ar R.length cr) rfl (by kernel_rfl) (by kernel_rfl) (by kernel_rfl) (fun _ _ _ h => h) (Or.inl ⟨by kernel_rfl, fun _ => by kernel_rfl⟩) ?_
        refine wpAny_ready (rs := [14]) (by kernel_rfl) (by simp) (AllReady.cons rfl ?_ AllReady.nil)
        intro K hK
        with_reducible refine wanted_step ?_ ?_
        · kernel_rfl
        refine oper_call 51 44 _ _ _ _ _ _ Try.f44 _ Try.func44 (by kernel_rfl) rfl [.int .i64 (n : Int), .slice (some ⟨gb, 2, none⟩) 1 1, .slice ar R.length cr] (by kernel_rfl) _ (has_any n gb 2 1 [((.slice av C.length cv, .slice pv Q.length qv), (C, Q))] _ R _ hn1 hn4 (HCS.out.last.same G.out) (by intro u hu; simp only [List.mem_cons, List.not_mem_nil, or_false] at hu; subst hu; exact Vv.out.ok.same G.out) (by simp) (Vr.out.1.same G.out) RL.out R64.out) ?_
        rintro e w51 ⟨Bo, rfl, hB, hg⟩
        obtain rfl : Bo = true := hB.2 (HB2.out)
        refine ⟨_, rfl, ?_⟩
        replace G : Hid (W.grownBy w51 none) := Lib.hid (grown_trans G.out hg)
        clear hB hg
        refine hK _ _ ?_
        clear hK K
        refine wpAny_take (i := 15) (v := .bool true) rfl (by kernel_rfl) (by kernel_rfl) (by kernel_rfl) (fun _ _ _ h => h) (Or.inl ⟨by kernel_rfl, fun _ => by kernel_rfl⟩) ?_
        refine wpAny_ready (rs := [16]) (by kernel_rfl) (by simp) (AllReady.cons rfl (fun K hK => ?_) AllReady.nil)
        go_simp
        refine hK _ _ ?_
        clear hK K
        refine wpAny_done (by kernel_rfl) ?_ _
        replace Vu := Lib.hid (Vu.out.step G.out)
        replace Vv := Lib.hid (Vv.out.step G.out)
        replace Vx := Lib.hid (Vx.out.step G.out)
        replace Vz := Lib.hid (Vz.out.step G.out)
        replace Vr := Lib.hid (Vr.out.step G.out)
        replace HS := Lib.hid (HS.out.step G.out); replace HCS := Lib.hid (HCS.out.same G.out)
        clear G
        have x0 := Vx.out.1; have x1 := Vx.out.2.1
        by_cases h0 : P.length = 0
        · have h0i : (P.length : Int) = 0 := by omega
          clear h0
          go_wp2_with fail
          have HBA := Lib.hid Vu.out.base
          refine (has_any n gb 0 2 [((.slice au B.length cu, .slice pu P.length qu), (B, P)), ((.slice av C.length cv, .slice pv Q.length qv), (C, Q))] _ B _ hn1 hn4 HCS.out (by intro u hu; simp only [List.mem_cons, List.not_mem_nil, or_false] at hu; rcases hu with rfl | rfl; exact Vu.out.ok; exact Vv.out.ok) (by simp) HBA.out.1 Vu.out.valid.2.2.1 Vu.out.valid.w64).mono ?_
          rintro e w8 ⟨Bo, rfl, hB, hg⟩
          obtain rfl : Bo = true := hB.2 (anyS_two.2 (.inl (anyS_one.2 (sol_self Vu.out.valid))))
          replace HS := Lib.hid (HS.out.step hg)
          clear hB hg x0 x1
          go_wp2_with fail
          go_ret
          exact ⟨rfl, HS.out.below⟩
        · have h0i : ¬ (P.length : Int) = 0 := by omega
          have HP1 : Hid (1 ≤ P.length ∧ P.length ≤ 3) := Lib.hid ⟨by omega, hP3⟩
          go_wp2_with fail
          have G : Hid (w51.grownBy w51.drew none) := Lib.hid (grown_drew _ none)
          clear x0 x1
          go_region_held3 (fun w' => w'.cell? ⟨gx, 0, none⟩ = some (.slice au B.length cu) ∧ w'.cell? ⟨gx, 1, none⟩ = some (.slice pu P.length qu)) (first | exact ⟨Vx.out.1, Vx.out.2.1⟩ | exact ⟨(Vx.out.step G.out).1, (Vx.out.step G.out).2.1⟩) (first
            | (refine step_call 68 30 _ _ _ _ _ Try.f30 _ Try.func30 (by kernel_rfl) rfl [p, .int .i64 (P.length : Int), .int .i64 1] (by kernel_rfl) _ (small_rv (HS.out.step G.out) P.length 1 (by omega) (by omega) (by omega)) ?_; rintro e w68 ⟨vt, T, rfl, hlT, hpT, hvT, hsT, hgT⟩; replace Vu := Lib.hid ((Vu.out.step G.out).deal hgT); replace Vv := Lib.hid ((Vv.out.step G.out).deal hgT); replace Vx := Lib.hid ((Vx.out.step G.out).deal hgT); replace Vz := Lib.hid ((Vz.out.step G.out).deal hgT); replace Vr := Lib.hid ((Vr.out.step G.out).deal hgT); replace HCS := Lib.hid ((HCS.out.same G.out).far HGB.out hgT); replace HS := Lib.hid hsT; have Vt := Lib.hid hvT; have LT : Hid (T.length = P.length) := Lib.hid hlT; have PT := Lib.hid hpT; clear G hlT hpT hvT hsT hgT; refine ⟨_, rfl, ?_⟩)
            | (refine step_call 69 53 _ _ _ _ _ Try.f53 _ Try.func53 (by kernel_rfl) rfl [.agg #[.slice au B.length cu, .slice pu P.length qu], vt] (by kernel_rfl) _ (made_any n _ _ B T P _ Vu.out.lin Vu.out.valid Vt.out.1 LT.out (fun t ht => by have := PT.out t ht; omega)) ?_; rintro e w69 ⟨m, rfl, ho, hg⟩; have HMM := Lib.hid (Vu.out.made (ts := T) (fun t ht => by have := PT.out t ht; omega)); obtain ⟨gm, cm, rfl, hbg, hbc⟩ := ownI_own ho (by rw [HMM.out.1]; exact hn1); have VU8 := Vu; have HGB8 : Hid (gb < w68.heap.size) := Lib.hid (World.block_lt_of_cell? _ _ (HCS.out 0 (by simp)).1); have G69 := Lib.hid hg; have HGM8 := Lib.hid hbg; replace Vu := Lib.hid (Vu.out.step hg); replace Vv := Lib.hid (Vv.out.step hg); replace Vx := Lib.hid (Vx.out.step hg); replace Vz := Lib.hid (Vz.out.step hg); replace Vr := Lib.hid (Vr.out.step hg); replace HCS := Lib.hid (HCS.out.same hg); have HS0 := HS; have HGM : Hid (d < gm) := Lib.hid (Nat.lt_of_lt_of_le HS.out.lt hbg); replace HS := Lib.hid (HS.out.step hg); have OM := Lib.hid ho; have HSL : Hid (d < w68.heap.size) := Lib.hid HS0.out.lt; clear ho hg hbg hbc Vt HS0; refine ⟨_, rfl, ?_⟩))
          generalize hMM : madeL B P T = M at *
          have HM := Lib.hid hMM
          clear hMM
          have x0 := Vx.out.1; have x1 := Vx.out.2.1
          go_wp2_with fail
          have hP1 := HP1.out.1
          have hP3' := HP1.out.2
          obtain ⟨-, -, pe, po, rfl, -⟩ := Vu.out.at (show 0 < P.length by omega)
          have G : Hid (w69.grownBy w69.drew none) := Lib.hid (grown_drew _ none)
          clear x0
          go_region_law (first
            | (refine step_call 76 17 _ _ _ _ _ Try.f17 _ Try.func17 (by kernel_rfl) rfl [p, .int .i64 (P.length : Int)] (by kernel_rfl) _ (next_st (HS.out.step G.out) (P.length : Int) (by omega) (by omega)) ?_; rintro e w76 ⟨y2, rfl, hy0, hy1, hs, hg⟩; obtain ⟨k, rfl⟩ : ∃ k : Nat, y2 = k := ⟨y2.toNat, by omega⟩; have hkP : k < P.length := (by omega); replace Vu := Lib.hid ((Vu.out.step G.out).deal hg); replace Vv := Lib.hid ((Vv.out.step G.out).deal hg); replace Vx := Lib.hid ((Vx.out.step G.out).deal hg); replace Vz := Lib.hid ((Vz.out.step G.out).deal hg); replace Vr := Lib.hid ((Vr.out.step G.out).deal hg); replace HCS := Lib.hid ((HCS.out.same G.out).far HGB.out hg); replace HS := Lib.hid hs; replace OM := Lib.hid ((OM.out.same1 G.out).deal HSL.out hg); obtain ⟨pk, pc, pe', po', hpe, hpc8, hrv, -, hde⟩ := VU8.out.at hkP; simp only [Option.some.injEq, Addr.mk.injEq, and_true] at hpe; obtain ⟨rfl, rfl⟩ := hpe; have G76 : Hid (w68.grownBy w76 (some d)) := Lib.hid (grown_deal (grown_wide (grown_trans G69.out G.out)) hg); have hpc := G76.out.cell hpc8 (ne_some hde); have HRV := Lib.hid hrv; clear hpc8 hrv hde; clear hs hg; have x1q := Vx.out.2.1; refine ⟨_, rfl, ?_⟩))
          all_goals
            have HPK := Lib.hid (Vu.out.per _ (List.getElem_mem hkP))
            have HMORE : Hid (madeL B P (T.set k (T[k]?.getD 0 + 1)) = sumL M P[k]) := Lib.hid (by rw [madeL_more P T B k hkP LT.out, HM.out])
            have HT1 : Hid (∀ t ∈ T.set k (T[k]?.getD 0 + 1), 0 ≤ t) := Lib.hid (fun t ht => by
              rcases List.mem_or_eq_of_mem_set ht with h | rfl
              · exact (PT.out t h).1
              · have := (mem_at PT.out (show k < T.length by rw [LT.out]; exact hkP)).1; omega)
            have HTS : Hid ((T.set k (T[k]?.getD 0 + 1)).length = P.length) := Lib.hid (by rw [List.length_set]; exact LT.out)
            have HSUML : Hid ((sumL M P[k]).length = n) := Lib.hid (sumL_len HMM.out.1 HPK.out.1.1.1)
            have HSUM : Hid (∀ x ∈ sumL M P[k], 0 ≤ x ∧ x ≤ 64) := Lib.hid (fun z hz => by
              obtain ⟨x, hx, y, hy, rfl⟩ := mem_zipWith _ M P[k] z hz
              have h1 := HMM.out.2 x hx
              have h2 := HPK.out.1.1.2 y hy
              have h3 := HPK.out.2 y hy
              omega)
            have HSOL : Hid (SolE P (lessL (sumL M P[k]) B)) := Lib.hid ⟨_, (sol_made HSUML.out P _ B (fun p hp => (Vu.out.per p hp).1.1.1) Vu.out.valid.2.2.1).2 ⟨HTS.out, HT1.out, HMORE.out⟩⟩
            have HQL : Hid (P[k].length = n) := Lib.hid HPK.out.1.1.1
            have HML : Hid (M.length = n) := Lib.hid HMM.out.1
            have hmb : M.length ≤ 4 := by rw [HML.out]; exact hn4
            clear HMORE HT1 HTS hy0 hy1 hpc
            generalize P[k] = q at *
            go_wp2_with fail
            go_loopw [81] (fun i wr => ∃ (j : Nat) (zz : List Int), i = .int .i64 j ∧ j ≤ M.length ∧ Hid (zz.length = n ∧ zz.take j = (sumL M q).take j ∧ zz.drop j = M.drop j) ∧ Hid (OwnI wr w68.heap.size (.slice (some ⟨gm, 0, none⟩) M.length cm) zz) ∧ Hid (w68.grownBy wr (some d)) ∧ Hid (w76.grownBy wr (some gm))) (fun i _ => M.length - (intOf i).toNat)
            case atStart => exact ⟨0, _, rfl, Nat.zero_le _, Lib.hid ⟨HML.out, by simp, rfl⟩, OM, G76, Lib.hid (grown_refl _ _)⟩
            case round =>
              obtain ⟨j, zz, rfl, hj, hz, hoz, hg8, hg7⟩ := hrel
              rename World => wj
              by_cases hjb : j < M.length
              · have hjn : j < n := by rw [← HML.out]; exact hjb
                have hjq : j < q.length := by rw [HQL.out]; exact hjn
                have ST := Lib.hid (sum_step HQL.out HML.out hz.out.1 hjn hz.out.2.1 hz.out.2.2)
                obtain ⟨bq, oq, rfl, hqc⟩ := at_cell (HRV.out.deal hg8.out).1 hjq
                have cq := hqc _ (grown_refl _ _)
                obtain ⟨hcell, hfr⟩ := hoz.out.cell j (by rw [hz.out.1]; exact hjn)
                have hyy := mem_at HPK.out.1.1.2 hjq
                have hyz := mem_at HPK.out.2 hjq
                have hxx := mem_at HMM.out.2 hjb
                rw [← ST.out.1] at hxx
                have h2 : (j : Int) < (q.length : Int) := by omega
                have h3 : (j : Int) < (M.length : Int) := by omega
                clear hqc
                generalize hX : zz[j]?.getD 0 = x at *
                generalize hY : q[j]?.getD 0 = y at *
                clear hX hY
                have g1 : IntKind.i64.wrap (x + y) = x + y := IntWalk.i64_in _ (by omega)
                clear hyy hyz hxx
                go_wp2_with fail
                go_region
                all_goals
                  go_wp2_with fail
                  go_roundw
                  case rel => exact ⟨j + 1, zz.set j (x + y), by go_num, by omega, Lib.hid ⟨by rw [List.length_set]; exact hz.out.1, ST.out.2.1, ST.out.2.2⟩, Lib.hid ((hoz.out.stored j _).kept (grown_drew _ none) (by simp)), Lib.hid (grown_trans (grown_then hg8.out (grown_set _ _ _) (by rintro j ⟨⟩; exact .inl HGM8.out)) (grown_drew _ _)), Lib.hid (grown_trans (grown_trans hg7.out (grown_set _ _ _)) (grown_drew _ _))⟩
                  case measure => simp [intOf]; omega
              · have hq : zz = sumL M q := by
                  have h2 := hz.out.1
                  have h1 := hz.out.2.1
                  have h4 := HML.out
                  rwa [List.take_of_length_le (by omega), List.take_of_length_le (by rw [HSUML.out]; omega)] at h1
                subst hq
                have h2 : ¬ (j : Int) < (M.length : Int) := by omega
                have HSJ := Lib.hid (HS.out.set hg7.out HGM.out)
                have HCJ := Lib.hid (HCS.out.far (by have := HGB8.out; have := HGM8.out; omega) hg7.out)
                have VJ := Lib.hid (VU8.out.deal hg8.out)
                have RJ := Lib.hid (hoz.out.row (fun x hx => by have := HSUM.out x hx; omega))
                go_wp2_with fail
                refine (has_any n gb 0 2 [((.slice au B.length cu, .slice (some ⟨pe, po, none⟩) P.length qu), (B, P))] _ (sumL M q) _ hn1 hn4 HCJ.out.head (by intro u hu; rw [List.mem_singleton.1 hu]; exact VJ.out.ok) (by simp) RJ.out HSUML.out (withB_iff.2 HSUM.out)).mono ?_
                rintro e w99 ⟨Bo, rfl, hB, hg⟩
                obtain rfl : Bo = true := hB.2 (anyS_one.2 HSOL.out)
                have HSK := Lib.hid (HSJ.out.step hg)
                clear hB hg
                go_wp2_with fail
                go_ret
                exact ⟨rfl, HSK.out.below⟩
      · have HB2 := Lib.hid hB2
        clear hB2
        have G : Hid (W.grownBy W.drew none) := Lib.hid (grown_drew _ none)
        refine wp_region_any (by kernel_rfl) ?_
        change wpAny _ _ _ _ _ _ _ (World.drew _)
        refine wpAny_take (i := 0) (v := .int .i64 (n : Int)) rfl (by kernel_rfl) (by kernel_rfl) (by kernel_rfl) (fun _ _ _ h => h) (Or.inl ⟨by kernel_rfl, fun _ => by kernel_rfl⟩) ?_
        refine wpAny_take (i := 1) (v := .slice (some ⟨gb, 0, none⟩) 2 2) rfl (by kernel_rfl) (by kernel_rfl) (by kernel_rfl) (fun _ _ _ h => h) (Or.inl ⟨by kernel_rfl, fun _ => by kernel_rfl⟩) ?_
        refine wpAny_take (i := 2) (v := .slice ar R.length cr) rfl (by kernel_rfl) (by kernel_rfl) (by kernel_rfl) (fun _ _ _ h => h) (Or.inl ⟨by kernel_rfl, fun _ => by kernel_rfl⟩) ?_
        refine wpAny_take (i := 4) (v := .int .i64 (n : Int)) rfl (by kernel_rfl) (by kernel_rfl) (by kernel_rfl) (fun _ _ _ h => h) (Or.inl ⟨by kernel_rfl, fun _ => by kernel_rfl⟩) ?_
        refine wpAny_take (i := 5) (v := .slice (some ⟨gb, 0, none⟩) 2 2) rfl (by kernel_rfl) (by kernel_rfl) (by kernel_rfl) (fun _ _ _ h => h) (Or.inl ⟨by kernel_rfl, fun _ => by kernel_rfl⟩) ?_
        refine wpAny_take (i := 6) (v := .slice (some ⟨gb, 0, none⟩) 1 2) rfl (by kernel_rfl) (by kernel_rfl) (by kernel_rfl) (fun _ _ _ h => h) (Or.inl ⟨by kernel_rfl, fun _ => by go_simp⟩) ?_
        refine wpAny_take (i := 7) (v := .slice ar R.length cr) rfl (by kernel_rfl) (by kernel_rfl) (by kernel_rfl) (fun _ _ _ h => h) (Or.inl ⟨by kernel_rfl, fun _ => by kernel_rfl⟩) ?_
        refine wpAny_ready (rs := [3]) (by kernel_rfl) (by simp) (AllReady.cons rfl (fun K hK => ?_) AllReady.nil)
        refine step_call 40 44 _ _ _ _ _ Try.f44 _ Try.func44 (by kernel_rfl) rfl [.int .i64 (n : Int), .slice (some ⟨gb, 0, none⟩) 2 2, .slice ar R.length cr] (by kernel_rfl) _ (has_any n gb 0 2 [((.slice au B.length cu, .slice pu P.length qu), (B, P)), ((.slice av C.length cv, .slice pv Q.length qv), (C, Q))] _ R _ hn1 hn4 (HCS.out.same G.out) (by intro u hu; simp only [List.mem_cons, List.not_mem_nil, or_false] at hu; rcases hu with rfl | rfl; exact Vu.out.ok.same G.out; exact Vv.out.ok.same G.out) (by simp) (Vr.out.1.same G.out) RL.out R64.out) ?_
        rintro e w40 ⟨Bo, rfl, hB, hg⟩
        obtain rfl : Bo = false := by cases Bo; rfl; exact absurd (hB.1 rfl) (fun h => (anyS_two.1 h).elim HA.out HB2.out)
        refine ⟨_, rfl, ?_⟩
        replace G : Hid (W.grownBy w40 none) := Lib.hid (grown_trans G.out hg)
        clear hB hg
        refine hK _ _ ?_
        clear hK K
        refine wpAny_ready (rs := [8]) (by kernel_rfl) (by simp) (AllReady.cons rfl (fun K hK => ?_) AllReady.nil)
        refine step_call 45 44 _ _ _ _ _ Try.f44 _ Try.func44 (by kernel_rfl) rfl [.int .i64 (n : Int), .slice (some ⟨gb, 0, none⟩) 1 2, .slice ar R.length cr] (by kernel_rfl) _ (has_any n gb 0 2 [((.slice au B.length cu, .slice pu P.length qu), (B, P))] _ R _ hn1 hn4 (HCS.out.head.same G.out) (by intro u hu; simp only [List.mem_cons, List.not_mem_nil, or_false] at hu; subst hu; exact Vu.out.ok.same G.out) (by simp) (Vr.out.1.same G.out) RL.out R64.out) ?_
        rintro e w45 ⟨Bo, rfl, hB, hg⟩
        obtain rfl : Bo = false := by cases Bo; rfl; exact absurd (hB.1 rfl) (HA.out)
        refine ⟨_, rfl, ?_⟩
        replace G : Hid (W.grownBy w45 none) := Lib.hid (grown_trans G.out hg)
        clear hB hg
        refine hK _ _ ?_
        clear hK K
        refine wpAny_take (i := 9) (v := .bool false) rfl (by kernel_rfl) (by kernel_rfl) (by kernel_rfl) (fun _ _ _ h => h) (Or.inl ⟨by kernel_rfl, fun _ => by kernel_rfl⟩) ?_
        refine wpAny_take (i := 10) (v := .int .i64 (n : Int)) rfl (by kernel_rfl) (by kernel_rfl) (by kernel_rfl) (fun _ _ _ h => h) (Or.inl ⟨by kernel_rfl, fun _ => by kernel_rfl⟩) ?_
        refine wpAny_take (i := 11) (v := .slice (some ⟨gb, 0, none⟩) 2 2) rfl (by kernel_rfl) (by kernel_rfl) (by kernel_rfl) (fun _ _ _ h => h) (Or.inl ⟨by kernel_rfl, fun _ => by kernel_rfl⟩) ?_
        refine wpAny_take (i := 12) (v := .slice (some ⟨gb, 2, none⟩) 1 1) rfl (by kernel_rfl) (by kernel_rfl) (by kernel_rfl) (fun _ _ _ h => h) (Or.inl ⟨by kernel_rfl, fun _ => by go_simp⟩) ?_
        refine wpAny_take (i := 13) (v := .slice ar R.length cr) rfl (by kernel_rfl) (by kernel_rfl) (by kernel_rfl) (fun _ _ _ h => h) (Or.inl ⟨by kernel_rfl, fun _ => by kernel_rfl⟩) ?_
        refine wpAny_ready (rs := [14]) (by kernel_rfl) (by simp) (AllReady.cons rfl ?_ AllReady.nil)
        intro K hK
        with_reducible refine wanted_step ?_ ?_
        · kernel_rfl
        refine oper_call 51 44 _ _ _ _ _ _ Try.f44 _ Try.func44 (by kernel_rfl) rfl [.int .i64 (n : Int), .slice (some ⟨gb, 2, none⟩) 1 1, .slice ar R.length cr] (by kernel_rfl) _ (has_any n gb 2 1 [((.slice av C.length cv, .slice pv Q.length qv), (C, Q))] _ R _ hn1 hn4 (HCS.out.last.same G.out) (by intro u hu; simp only [List.mem_cons, List.not_mem_nil, or_false] at hu; subst hu; exact Vv.out.ok.same G.out) (by simp) (Vr.out.1.same G.out) RL.out R64.out) ?_
        rintro e w51 ⟨Bo, rfl, hB, hg⟩
        obtain rfl : Bo = false := by cases Bo; rfl; exact absurd (hB.1 rfl) (HB2.out)
        refine ⟨_, rfl, ?_⟩
        replace G : Hid (W.grownBy w51 none) := Lib.hid (grown_trans G.out hg)
        clear hB hg
        refine hK _ _ ?_
        clear hK K
        refine wpAny_take (i := 15) (v := .bool false) rfl (by kernel_rfl) (by kernel_rfl) (by kernel_rfl) (fun _ _ _ h => h) (Or.inl ⟨by kernel_rfl, fun _ => by kernel_rfl⟩) ?_
        refine wpAny_ready (rs := [16]) (by kernel_rfl) (by simp) (AllReady.cons rfl (fun K hK => ?_) AllReady.nil)
        go_simp
        refine hK _ _ ?_
        clear hK K
        refine wpAny_done (by kernel_rfl) ?_ _
        replace Vu := Lib.hid (Vu.out.step G.out)
        replace Vv := Lib.hid (Vv.out.step G.out)
        replace Vx := Lib.hid (Vx.out.step G.out)
        replace Vz := Lib.hid (Vz.out.step G.out)
        replace Vr := Lib.hid (Vr.out.step G.out)
        replace HS := Lib.hid (HS.out.step G.out); replace HCS := Lib.hid (HCS.out.same G.out)
        clear G
        have x0 := Vx.out.1; have x1 := Vx.out.2.1
        by_cases h0 : P.length = 0
        · have h0i : (P.length : Int) = 0 := by omega
          clear h0
          go_wp2_with fail
          have HBA := Lib.hid Vu.out.base
          refine (has_any n gb 0 2 [((.slice au B.length cu, .slice pu P.length qu), (B, P)), ((.slice av C.length cv, .slice pv Q.length qv), (C, Q))] _ B _ hn1 hn4 HCS.out (by intro u hu; simp only [List.mem_cons, List.not_mem_nil, or_false] at hu; rcases hu with rfl | rfl; exact Vu.out.ok; exact Vv.out.ok) (by simp) HBA.out.1 Vu.out.valid.2.2.1 Vu.out.valid.w64).mono ?_
          rintro e w8 ⟨Bo, rfl, hB, hg⟩
          obtain rfl : Bo = true := hB.2 (anyS_two.2 (.inl (anyS_one.2 (sol_self Vu.out.valid))))
          replace HS := Lib.hid (HS.out.step hg)
          clear hB hg x0 x1
          go_wp2_with fail
          go_ret
          exact ⟨rfl, HS.out.below⟩
        · have h0i : ¬ (P.length : Int) = 0 := by omega
          have HP1 : Hid (1 ≤ P.length ∧ P.length ≤ 3) := Lib.hid ⟨by omega, hP3⟩
          go_wp2_with fail
          have G : Hid (w51.grownBy w51.drew none) := Lib.hid (grown_drew _ none)
          clear x0 x1
          go_region_held3 (fun w' => w'.cell? ⟨gx, 0, none⟩ = some (.slice au B.length cu) ∧ w'.cell? ⟨gx, 1, none⟩ = some (.slice pu P.length qu)) (first | exact ⟨Vx.out.1, Vx.out.2.1⟩ | exact ⟨(Vx.out.step G.out).1, (Vx.out.step G.out).2.1⟩) (first
            | (refine step_call 68 30 _ _ _ _ _ Try.f30 _ Try.func30 (by kernel_rfl) rfl [p, .int .i64 (P.length : Int), .int .i64 1] (by kernel_rfl) _ (small_rv (HS.out.step G.out) P.length 1 (by omega) (by omega) (by omega)) ?_; rintro e w68 ⟨vt, T, rfl, hlT, hpT, hvT, hsT, hgT⟩; replace Vu := Lib.hid ((Vu.out.step G.out).deal hgT); replace Vv := Lib.hid ((Vv.out.step G.out).deal hgT); replace Vx := Lib.hid ((Vx.out.step G.out).deal hgT); replace Vz := Lib.hid ((Vz.out.step G.out).deal hgT); replace Vr := Lib.hid ((Vr.out.step G.out).deal hgT); replace HCS := Lib.hid ((HCS.out.same G.out).far HGB.out hgT); replace HS := Lib.hid hsT; have Vt := Lib.hid hvT; have LT : Hid (T.length = P.length) := Lib.hid hlT; have PT := Lib.hid hpT; clear G hlT hpT hvT hsT hgT; refine ⟨_, rfl, ?_⟩)
            | (refine step_call 69 53 _ _ _ _ _ Try.f53 _ Try.func53 (by kernel_rfl) rfl [.agg #[.slice au B.length cu, .slice pu P.length qu], vt] (by kernel_rfl) _ (made_any n _ _ B T P _ Vu.out.lin Vu.out.valid Vt.out.1 LT.out (fun t ht => by have := PT.out t ht; omega)) ?_; rintro e w69 ⟨m, rfl, ho, hg⟩; have HMM := Lib.hid (Vu.out.made (ts := T) (fun t ht => by have := PT.out t ht; omega)); obtain ⟨gm, cm, rfl, hbg, hbc⟩ := ownI_own ho (by rw [HMM.out.1]; exact hn1); have VU8 := Vu; have HGB8 : Hid (gb < w68.heap.size) := Lib.hid (World.block_lt_of_cell? _ _ (HCS.out 0 (by simp)).1); have G69 := Lib.hid hg; have HGM8 := Lib.hid hbg; replace Vu := Lib.hid (Vu.out.step hg); replace Vv := Lib.hid (Vv.out.step hg); replace Vx := Lib.hid (Vx.out.step hg); replace Vz := Lib.hid (Vz.out.step hg); replace Vr := Lib.hid (Vr.out.step hg); replace HCS := Lib.hid (HCS.out.same hg); have HS0 := HS; have HGM : Hid (d < gm) := Lib.hid (Nat.lt_of_lt_of_le HS.out.lt hbg); replace HS := Lib.hid (HS.out.step hg); have OM := Lib.hid ho; have HSL : Hid (d < w68.heap.size) := Lib.hid HS0.out.lt; clear ho hg hbg hbc Vt HS0; refine ⟨_, rfl, ?_⟩))
          generalize hMM : madeL B P T = M at *
          have HM := Lib.hid hMM
          clear hMM
          have x0 := Vx.out.1; have x1 := Vx.out.2.1
          go_wp2_with fail
          have hP1 := HP1.out.1
          have hP3' := HP1.out.2
          obtain ⟨-, -, pe, po, rfl, -⟩ := Vu.out.at (show 0 < P.length by omega)
          have G : Hid (w69.grownBy w69.drew none) := Lib.hid (grown_drew _ none)
          clear x0
          go_region_law (first
            | (refine step_call 76 17 _ _ _ _ _ Try.f17 _ Try.func17 (by kernel_rfl) rfl [p, .int .i64 (P.length : Int)] (by kernel_rfl) _ (next_st (HS.out.step G.out) (P.length : Int) (by omega) (by omega)) ?_; rintro e w76 ⟨y2, rfl, hy0, hy1, hs, hg⟩; obtain ⟨k, rfl⟩ : ∃ k : Nat, y2 = k := ⟨y2.toNat, by omega⟩; have hkP : k < P.length := (by omega); replace Vu := Lib.hid ((Vu.out.step G.out).deal hg); replace Vv := Lib.hid ((Vv.out.step G.out).deal hg); replace Vx := Lib.hid ((Vx.out.step G.out).deal hg); replace Vz := Lib.hid ((Vz.out.step G.out).deal hg); replace Vr := Lib.hid ((Vr.out.step G.out).deal hg); replace HCS := Lib.hid ((HCS.out.same G.out).far HGB.out hg); replace HS := Lib.hid hs; replace OM := Lib.hid ((OM.out.same1 G.out).deal HSL.out hg); obtain ⟨pk, pc, pe', po', hpe, hpc8, hrv, -, hde⟩ := VU8.out.at hkP; simp only [Option.some.injEq, Addr.mk.injEq, and_true] at hpe; obtain ⟨rfl, rfl⟩ := hpe; have G76 : Hid (w68.grownBy w76 (some d)) := Lib.hid (grown_deal (grown_wide (grown_trans G69.out G.out)) hg); have hpc := G76.out.cell hpc8 (ne_some hde); have HRV := Lib.hid hrv; clear hpc8 hrv hde; clear hs hg; have x1q := Vx.out.2.1; refine ⟨_, rfl, ?_⟩))
          all_goals
            have HPK := Lib.hid (Vu.out.per _ (List.getElem_mem hkP))
            have HMORE : Hid (madeL B P (T.set k (T[k]?.getD 0 + 1)) = sumL M P[k]) := Lib.hid (by rw [madeL_more P T B k hkP LT.out, HM.out])
            have HT1 : Hid (∀ t ∈ T.set k (T[k]?.getD 0 + 1), 0 ≤ t) := Lib.hid (fun t ht => by
              rcases List.mem_or_eq_of_mem_set ht with h | rfl
              · exact (PT.out t h).1
              · have := (mem_at PT.out (show k < T.length by rw [LT.out]; exact hkP)).1; omega)
            have HTS : Hid ((T.set k (T[k]?.getD 0 + 1)).length = P.length) := Lib.hid (by rw [List.length_set]; exact LT.out)
            have HSUML : Hid ((sumL M P[k]).length = n) := Lib.hid (sumL_len HMM.out.1 HPK.out.1.1.1)
            have HSUM : Hid (∀ x ∈ sumL M P[k], 0 ≤ x ∧ x ≤ 64) := Lib.hid (fun z hz => by
              obtain ⟨x, hx, y, hy, rfl⟩ := mem_zipWith _ M P[k] z hz
              have h1 := HMM.out.2 x hx
              have h2 := HPK.out.1.1.2 y hy
              have h3 := HPK.out.2 y hy
              omega)
            have HSOL : Hid (SolE P (lessL (sumL M P[k]) B)) := Lib.hid ⟨_, (sol_made HSUML.out P _ B (fun p hp => (Vu.out.per p hp).1.1.1) Vu.out.valid.2.2.1).2 ⟨HTS.out, HT1.out, HMORE.out⟩⟩
            have HQL : Hid (P[k].length = n) := Lib.hid HPK.out.1.1.1
            have HML : Hid (M.length = n) := Lib.hid HMM.out.1
            have hmb : M.length ≤ 4 := by rw [HML.out]; exact hn4
            clear HMORE HT1 HTS hy0 hy1 hpc
            generalize P[k] = q at *
            go_wp2_with fail
            go_loopw [81] (fun i wr => ∃ (j : Nat) (zz : List Int), i = .int .i64 j ∧ j ≤ M.length ∧ Hid (zz.length = n ∧ zz.take j = (sumL M q).take j ∧ zz.drop j = M.drop j) ∧ Hid (OwnI wr w68.heap.size (.slice (some ⟨gm, 0, none⟩) M.length cm) zz) ∧ Hid (w68.grownBy wr (some d)) ∧ Hid (w76.grownBy wr (some gm))) (fun i _ => M.length - (intOf i).toNat)
            case atStart => exact ⟨0, _, rfl, Nat.zero_le _, Lib.hid ⟨HML.out, by simp, rfl⟩, OM, G76, Lib.hid (grown_refl _ _)⟩
            case round =>
              obtain ⟨j, zz, rfl, hj, hz, hoz, hg8, hg7⟩ := hrel
              rename World => wj
              by_cases hjb : j < M.length
              · have hjn : j < n := by rw [← HML.out]; exact hjb
                have hjq : j < q.length := by rw [HQL.out]; exact hjn
                have ST := Lib.hid (sum_step HQL.out HML.out hz.out.1 hjn hz.out.2.1 hz.out.2.2)
                obtain ⟨bq, oq, rfl, hqc⟩ := at_cell (HRV.out.deal hg8.out).1 hjq
                have cq := hqc _ (grown_refl _ _)
                obtain ⟨hcell, hfr⟩ := hoz.out.cell j (by rw [hz.out.1]; exact hjn)
                have hyy := mem_at HPK.out.1.1.2 hjq
                have hyz := mem_at HPK.out.2 hjq
                have hxx := mem_at HMM.out.2 hjb
                rw [← ST.out.1] at hxx
                have h2 : (j : Int) < (q.length : Int) := by omega
                have h3 : (j : Int) < (M.length : Int) := by omega
                clear hqc
                generalize hX : zz[j]?.getD 0 = x at *
                generalize hY : q[j]?.getD 0 = y at *
                clear hX hY
                have g1 : IntKind.i64.wrap (x + y) = x + y := IntWalk.i64_in _ (by omega)
                clear hyy hyz hxx
                go_wp2_with fail
                go_region
                all_goals
                  go_wp2_with fail
                  go_roundw
                  case rel => exact ⟨j + 1, zz.set j (x + y), by go_num, by omega, Lib.hid ⟨by rw [List.length_set]; exact hz.out.1, ST.out.2.1, ST.out.2.2⟩, Lib.hid ((hoz.out.stored j _).kept (grown_drew _ none) (by simp)), Lib.hid (grown_trans (grown_then hg8.out (grown_set _ _ _) (by rintro j ⟨⟩; exact .inl HGM8.out)) (grown_drew _ _)), Lib.hid (grown_trans (grown_trans hg7.out (grown_set _ _ _)) (grown_drew _ _))⟩
                  case measure => simp [intOf]; omega
              · have hq : zz = sumL M q := by
                  have h2 := hz.out.1
                  have h1 := hz.out.2.1
                  have h4 := HML.out
                  rwa [List.take_of_length_le (by omega), List.take_of_length_le (by rw [HSUML.out]; omega)] at h1
                subst hq
                have h2 : ¬ (j : Int) < (M.length : Int) := by omega
                have HSJ := Lib.hid (HS.out.set hg7.out HGM.out)
                have HCJ := Lib.hid (HCS.out.far (by have := HGB8.out; have := HGM8.out; omega) hg7.out)
                have VJ := Lib.hid (VU8.out.deal hg8.out)
                have RJ := Lib.hid (hoz.out.row (fun x hx => by have := HSUM.out x hx; omega))
                go_wp2_with fail
                refine (has_any n gb 0 2 [((.slice au B.length cu, .slice (some ⟨pe, po, none⟩) P.length qu), (B, P))] _ (sumL M q) _ hn1 hn4 HCJ.out.head (by intro u hu; rw [List.mem_singleton.1 hu]; exact VJ.out.ok) (by simp) RJ.out HSUML.out (withB_iff.2 HSUM.out)).mono ?_
                rintro e w99 ⟨Bo, rfl, hB, hg⟩
                obtain rfl : Bo = true := hB.2 (anyS_one.2 HSOL.out)
                have HSK := Lib.hid (HSJ.out.step hg)
                clear hB hg
                go_wp2_with fail
                go_ret
                exact ⟨rfl, HSK.out.below⟩
  · go_enter Try.func12, Try.ntmps12
    go_wp2_with fail
    refine (awake13_any _).mono ?_
    rintro e w1 ⟨rfl, hg⟩
    have HG := Lib.hid hg
    clear hg
    go_wp2_with fail
    refine (few_any _ _ _ _).mono ?_
    rintro e w2 ⟨rfl, rfl⟩
    rw [decide_eq_false (by omega)]
    go_wp2_with fail
    refine (awake13_any _).mono ?_
    rintro e w3 ⟨rfl, hg⟩
    have HG := Lib.hid (grown_trans HG.out hg)
    clear hg
    go_wp2_with fail
    go_ret
    exact ⟨rfl, below_of HG.out⟩

/-! ### SemilinearPeriods: the statement, from its walk -/
set_option maxRecDepth 100000 in
theorem liftedSemilinearPeriods (os : Os) (started : os.Started) (H : Type) (enc : TypeId × Value → H) :
    ReturnsInHanded {} Try.checked os 12 .any (Rows.semilinearPeriodsSpec.pre6 enc Try.prog Try.f12 Rows.semilinearPeriodsRow.domain false) (Rows.semilinearPeriodsSpec.post enc Try.prog Try.f12 false true false false) := by
  refine returnsInHanded_of_change (C := Try.checked) own started (by kernel_rfl) Try.func12
    (ChangeSpec.witness6 (enc := enc) (C := Try.checked) false ⟨#[], #[.slice none 0 0], []⟩ 8 (by kernel_rfl) (by kernel_rfl) (by kernel_rfl) (by kernel_rfl)) ?_
  intro W base args ds gs before hval0 hW hcnd _
  have hval : ∀ (j : Nat) t v, Try.f12.params[j]? = some t → args[j]? = some v → Value.okWide Try.prog W .any base t v := hval0
  have hW' := hW
  obtain ⟨p, q, hA0, hV, rfl, hfz, hnd⟩ := hW
  have hA : DataW.TrodAll enc Try.prog W 0 (fun _ => true) true Try.f12.params.toList args.toList ds p := hA0
  rw [Try.params12] at hA hval
  obtain ⟨v0, vs0, d0, ds0, p0, q0, hargs, rfl, rfl, h0, r0⟩ := trodAll_cons hA
  obtain ⟨rfl, rfl, rfl⟩ := trodAll_nil r0
  obtain rfl : args = #[v0] := by cases args; simp_all
  obtain ⟨rfl, rfl⟩ := trodVars_none hV
  obtain ⟨a0, len0, cap0, rfl⟩ := okWide_slice Try.underlying22 (hval 0 22 v0 rfl rfl)
  have k0 := h0
  have lt0 : ∀ x ∈ p0, x.block < W.heap.size := by obtain ⟨m, hm⟩ := k0; exact DataW.trod_lt m _ _ _ hm
  obtain ⟨z0, w0⟩ : ∃ zs, IsRow .i64 W a0 len0 cap0 zs := by
    obtain ⟨fuel, hf⟩ := h0
    rcases open_ints Try.underlying22 Try.underlying3 (by kernel_rfl) hf with ⟨hcs, _⟩ | ⟨x, l, c, zs, hcs, _, hl, hm, hz, _, hcell, hwz⟩
    · simp [Value.cells] at hcs
      obtain ⟨rfl, rfl, rfl⟩ := hcs
      exact ⟨[], .inl ⟨rfl, rfl, rfl, rfl⟩⟩
    · simp [Value.cells] at hcs
      obtain ⟨rfl, rfl, rfl⟩ := hcs
      exact ⟨zs, .inr ⟨_, rfl, hl, hm, by simpa using hz, hcell, hwz⟩⟩
  clear hA0 hval0
  refine (walkSemilinearPeriods a0 len0 cap0 z0 W w0).mono fun e W' ⟨he, bel⟩ => ?_
  subst he
  exact ⟨_, rfl, _, _, _, [], _, [], hW', trodAll_mk1 (shut_bool Try.underlying4 _), (trodAll_cons_mk (Below.trod laidOut (by kernel_rfl) (of_decide_eq_true (by kernel_rfl)) k0 bel lt0) trodAll_mk0), rfl, bel.frame _, fun h => by cases h⟩

theorem semilinearPeriods_holds : Rows.SemilinearPeriodsSaid :=
  OpenClaim.holds_of_wide 12 Try.f12 rfl rfl rfl rfl rfl rfl rfl ⟨rfl, rfl, rfl, rfl, rfl⟩ rfl rfl rfl rfl rfl (by kernel_rfl) Try.func12 (by kernel_rfl)
    (of_decide_eq_true (by kernel_rfl)) (by unfold Func.isWrapper; first | (rw [if_pos (by decide +kernel)]; kernel_rfl) | (rw [if_neg (by decide +kernel)]; exact ⟨rfl, rfl⟩))
    (fun os started H enc _ => liftedSemilinearPeriods os started H enc)
#print axioms semilinearPeriods_holds
end Go.Proofs.Ytgdnlibklopdiaa
