/- SemilinearWithin: for every input it answers true. -/
import Derived.Test.YtgdnlibklopdiaaTn
namespace Go.Proofs.Ytgdnlibklopdiaa
open Go.ChangeShapes Go.WideShapes Go.ChangeAt Go.RowKit
set_option linter.unusedVariables false

theorem bool_no {B : Bool} {p : Prop} (h : B = true ↔ p) (hn : ¬ p) : B = false := by cases B; rfl; exact absurd (h.1 rfl) hn

set_option maxRecDepth 100000 in
set_option maxHeartbeats 6000000 in
theorem walkSemilinearWithin (a0 : Option Addr) (len0 cap0 : Nat) (z0 : List Int) (w : World) (w0 : IsRow .i64 w a0 len0 cap0 z0) :
    Calls Try.prog 11 #[.slice a0 len0 cap0] w fun e w' => e = .returned (.bool true) ∧ Below w.heap.size w w' := by
  obtain ⟨hI, hlen⟩ := w0.ints
  generalize z0.take len0 = zs at hI hlen
  subst hlen
  have HI := Lib.hid hI
  clear hI w0
  by_cases hfew : (zs.length : Int) ≤ 400
  · go_enter Try.func11, Try.ntmps11
    go_wp2_with fail
    refine (awake13_any _).mono ?_
    rintro e w1 ⟨rfl, hg⟩
    have HG := Lib.hid hg
    clear hg
    go_wp2_with fail
    refine (few_any _ _ _ _).mono ?_
    rintro e w2 ⟨rfl, rfl⟩
    rw [decide_eq_true hfew]
    go_wp2_with fail
    refine (new_st (HI.out.same HG.out) HG.out).mono ?_
    rintro e w3 ⟨p, d, rfl, hs⟩
    have HS := Lib.hid hs
    clear hs HG HI
    go_wp2_with fail
    refine (next_st HS.out _ (by omega) (by omega)).mono ?_
    rintro e w4 ⟨y, rfl, hy0, hy1, hs, hg⟩
    replace HS := Lib.hid hs
    clear hs hg
    obtain ⟨n, hn⟩ : ∃ n : Nat, 1 + y = (n : Int) := ⟨(1 + y).toNat, by omega⟩
    have hn1 : 1 ≤ n := by omega
    have hn4 : n ≤ 3 := by omega
    go_wp2_with fail
    refine (linear_st HS.out n hn1 (by omega)).mono ?_
    rintro e w5 ⟨u, B, P, rfl, hlin, hs, hg⟩
    obtain ⟨au, cu, pu, qu, rfl⟩ := hlin.open
    replace HS := Lib.hid hs; have Vu := Lib.hid hlin
    clear hs hg hlin
    go_wp2_with fail
    refine (linear_st HS.out n hn1 (by omega)).mono ?_
    rintro e w6 ⟨v, C, Q, rfl, hlin, hs, hg⟩
    obtain ⟨av, cv, pv, qv, rfl⟩ := hlin.open
    replace Vu := Lib.hid (Vu.out.deal hg)
    replace HS := Lib.hid hs; have Vv := Lib.hid hlin
    clear hs hg hlin
    clear hn hy0 hy1
    go_wp2_with fail
    obtain ⟨hx, hz⟩ := BoxD.two (x := .slice au B.length cu) (y := .slice pu P.length qu) (x' := .slice av C.length cv) (y' := .slice pv Q.length qv) (e := 49) HS.out.lt
    have hg : w6.grownBy ((w6.alloc (.cells #[.slice au B.length cu, .slice pu P.length qu] 49)).alloc (.cells #[.slice av C.length cv, .slice pv Q.length qv] 49)) none := grown_after (grown_after (grown_refl _ _))
    generalize ((w6.alloc (.cells #[.slice au B.length cu, .slice pu P.length qu] 49)).alloc (.cells #[.slice av C.length cv, .slice pv Q.length qv] 49)) = wb at *
    replace Vu := Lib.hid (Vu.out.step hg)
    replace Vv := Lib.hid (Vv.out.step hg)
    replace HS := Lib.hid (HS.out.step hg); have Vx := Lib.hid hx; have Vz := Lib.hid hz
    clear hg hx hz
    generalize w6.heap.size = gx at *
    have hP3 : P.length ≤ 3 := Vu.out.valid.2.2.2.2.2.1
    go_wp2_with fail
    rename World => wb
    have HVU : Hid (∀ W', wb.grownBy W' (some d) → LinD W' d n (.agg #[.slice au B.length cu, .slice pu P.length qu]) B P) := Lib.hid (fun W' g => Vu.out.deal g)
    have HVV : Hid (∀ W', wb.grownBy W' (some d) → LinD W' d n (.agg #[.slice av C.length cv, .slice pv Q.length qv]) C Q) := Lib.hid (fun W' g => Vv.out.deal g)
    have HVX : Hid (∀ W', wb.grownBy W' (some d) → BoxD W' d gx (.slice au B.length cu) (.slice pu P.length qu)) := Lib.hid (fun W' g => Vx.out.deal g)
    have HVZ : Hid (∀ W', wb.grownBy W' (some d) → BoxD W' d (gx + 1) (.slice av C.length cv) (.slice pv Q.length qv)) := Lib.hid (fun W' g => Vz.out.deal g)
    have HPL : Hid (∀ p ∈ P, p.length = n) := Lib.hid (fun p hp => (Vu.out.per p hp).1.1.1)
    have HQL : Hid (∀ p ∈ Q, p.length = n) := Lib.hid (fun p hp => (Vv.out.per p hp).1.1.1)
    have HVB := Lib.hid Vu.out.valid; have HVC := Lib.hid Vv.out.valid
    have G : Hid (wb.grownBy wb.drew (some d)) := Lib.hid (grown_drew _ _)
    replace HS := Lib.hid (HS.out.step (grown_drew wb none))
    by_cases hW : WithinP B P C Q
    · have HW := Lib.hid hW
      clear hW
      go_region_held3 (fun w' => w'.cell? ⟨gx, 0, none⟩ = some (.slice au B.length cu) ∧ w'.cell? ⟨gx, 1, none⟩ = some (.slice pu P.length qu) ∧ w'.cell? ⟨gx + 1, 0, none⟩ = some (.slice av C.length cv) ∧ w'.cell? ⟨gx + 1, 1, none⟩ = some (.slice pv Q.length qv)) (first | exact ⟨(HVX.out _ G.out).1, (HVX.out _ G.out).2.1, (HVZ.out _ G.out).1, (HVZ.out _ G.out).2.1⟩ | exact ⟨(HVX.out _ (grown_after G.out)).1, (HVX.out _ (grown_after G.out)).2.1, (HVZ.out _ (grown_after G.out)).1, (HVZ.out _ (grown_after G.out)).2.1⟩) (first
        | (go_at_call 51; refine (Within_any n ((.slice au B.length cu, .slice pu P.length qu), (B, P)) ((.slice av C.length cv, .slice pv Q.length qv), (C, Q)) _ (HVU.out _ G.out).ok (HVV.out _ G.out).ok).mono ?_; rintro e w31 ⟨Bo, rfl, hB, hg⟩; obtain rfl : Bo = true := hB.2 HW.out; replace G : Hid (wb.grownBy w31 (some d)) := Lib.hid (grown_deal G.out (grown_wide hg)); replace HS := Lib.hid (HS.out.step hg); have HD31 : Hid (d < w31.heap.size) := Lib.hid HS.out.lt; clear hB hg)
        | (go_at_call 30; refine (small_rv (show St w _ p d from (by first | exact HS.out | exact HS.out.step (World.grownBy_alloc _ _ none))) P.length 3 (by omega) (by omega) (by omega)).mono ?_; rintro e w41 ⟨vt, T, rfl, hlT, hpT, hvT, hsT, hg41⟩; have HG41 := Lib.hid hg41; have Vt := Lib.hid hvT; have LT : Hid (T.length = P.length) := Lib.hid hlT; have PT := Lib.hid hpT; replace G : Hid (wb.grownBy w41 (some d)) := Lib.hid (grown_deal (by first | exact G.out | exact grown_after G.out) hg41); replace HS := Lib.hid hsT; clear hlT hpT hvT hsT hg41)
        | (go_at_call 53; refine (made_any n _ _ B T P _ (HVU.out _ (by first | exact G.out | exact grown_after G.out)).lin HVB.out (show RowOk _ (vt, T) from (by first | exact Vt.out.1 | exact (Vt.out.step (World.grownBy_alloc _ _ none)).1)) LT.out (fun t ht => by have := PT.out t ht; omega)).mono ?_; rintro e w42 ⟨m, rfl, ho, hg42⟩; have HG42 := Lib.hid hg42; have HMM := Lib.hid ((HVU.out _ G.out).made (ts := T) (fun t ht => by have := PT.out t ht; omega)); obtain ⟨gm, cm, rfl, hbg, hbc⟩ := ownI_own ho (by rw [HMM.out.1]; exact hn1); have RM := Lib.hid (ho.row (fun x hx => by have := HMM.out.2 x hx; omega)); replace G : Hid (wb.grownBy w42 (some d)) := Lib.hid (grown_deal (by first | exact G.out | exact grown_after G.out) (grown_wide hg42)); replace HS := Lib.hid (show St w _ p d from (by first | exact HS.out.step hg42 | exact (HS.out.step (World.grownBy_alloc _ _ none)).step hg42)); clear ho hg42 hbg hbc)
        | (go_at_call 44; refine (has_any n w31.heap.size 0 1 [((.slice av C.length cv, .slice pv Q.length qv), (C, Q))] _ (madeL B P T) _ hn1 (by omega) (((show CellsS (w31.alloc (.cells #[.slice av C.length cv, .slice pv Q.length qv] 49)) w31.heap.size 0 [(.slice av C.length cv, .slice pv Q.length qv)] from cells_one (heap_new _ rfl)).far (Nat.ne_of_lt HD31.out) HG41.out).same HG42.out) (by intro u hu; rw [List.mem_singleton.1 hu]; exact (HVV.out _ (by first | exact G.out | exact grown_after G.out)).ok) (by simp) (show RowOk _ (_, madeL B P T) from (by first | exact RM.out | exact RM.out.same (World.grownBy_alloc _ _ none))) HMM.out.1 (withB_iff.2 (fun x hx => by have := HMM.out.2 x hx; omega))).mono ?_; rintro e w43 ⟨Bo, rfl, hB, hg43⟩; obtain rfl : Bo = true := hB.2 (anyS_one.2 (within_made HQL.out HVC.out.2.2.1 P T B HVB.out.2.2.1 HPL.out (fun t ht => (PT.out t ht).1) HW.out.1 HW.out.2)); replace G : Hid (wb.grownBy w43 (some d)) := Lib.hid (grown_deal (by first | exact G.out | exact grown_after G.out) (grown_wide hg43)); replace HS := Lib.hid (show St w _ p d from (by first | exact HS.out.step hg43 | exact (HS.out.step (World.grownBy_alloc _ _ none)).step hg43)); clear hB hg43)
        | (go_at_call 44; refine (has_any n w41.heap.size 0 1 [((.slice av C.length cv, .slice pv Q.length qv), (C, Q))] _ (madeL B P T) _ hn1 (by omega) ((show CellsS (w41.alloc (.cells #[.slice av C.length cv, .slice pv Q.length qv] 49)) w41.heap.size 0 [(.slice av C.length cv, .slice pv Q.length qv)] from cells_one (heap_new _ rfl)).same HG42.out) (by intro u hu; rw [List.mem_singleton.1 hu]; exact (HVV.out _ (by first | exact G.out | exact grown_after G.out)).ok) (by simp) (show RowOk _ (_, madeL B P T) from (by first | exact RM.out | exact RM.out.same (World.grownBy_alloc _ _ none))) HMM.out.1 (withB_iff.2 (fun x hx => by have := HMM.out.2 x hx; omega))).mono ?_; rintro e w43 ⟨Bo, rfl, hB, hg43⟩; obtain rfl : Bo = true := hB.2 (anyS_one.2 (within_made HQL.out HVC.out.2.2.1 P T B HVB.out.2.2.1 HPL.out (fun t ht => (PT.out t ht).1) HW.out.1 HW.out.2)); replace G : Hid (wb.grownBy w43 (some d)) := Lib.hid (grown_deal (by first | exact G.out | exact grown_after G.out) (grown_wide hg43)); replace HS := Lib.hid (show St w _ p d from (by first | exact HS.out.step hg43 | exact (HS.out.step (World.grownBy_alloc _ _ none)).step hg43)); clear hB hg43)
        | (go_at_call 44; refine (has_any n w42.heap.size 0 1 [((.slice av C.length cv, .slice pv Q.length qv), (C, Q))] _ (madeL B P T) _ hn1 (by omega) (show CellsS (w42.alloc (.cells #[.slice av C.length cv, .slice pv Q.length qv] 49)) w42.heap.size 0 [(.slice av C.length cv, .slice pv Q.length qv)] from cells_one (heap_new _ rfl)) (by intro u hu; rw [List.mem_singleton.1 hu]; exact (HVV.out _ (by first | exact G.out | exact grown_after G.out)).ok) (by simp) (show RowOk _ (_, madeL B P T) from (by first | exact RM.out | exact RM.out.same (World.grownBy_alloc _ _ none))) HMM.out.1 (withB_iff.2 (fun x hx => by have := HMM.out.2 x hx; omega))).mono ?_; rintro e w43 ⟨Bo, rfl, hB, hg43⟩; obtain rfl : Bo = true := hB.2 (anyS_one.2 (within_made HQL.out HVC.out.2.2.1 P T B HVB.out.2.2.1 HPL.out (fun t ht => (PT.out t ht).1) HW.out.1 HW.out.2)); replace G : Hid (wb.grownBy w43 (some d)) := Lib.hid (grown_deal (by first | exact G.out | exact grown_after G.out) (grown_wide hg43)); replace HS := Lib.hid (show St w _ p d from (by first | exact HS.out.step hg43 | exact (HS.out.step (World.grownBy_alloc _ _ none)).step hg43)); clear hB hg43))
      all_goals
        have x0 := (HVX.out _ G.out).1; have x1 := (HVX.out _ G.out).2.1
        clear hP3
        have hP3 : P.length ≤ 3 := HVB.out.2.2.2.2.2.1
        by_cases h0 : P.length = 0
        · have h0i : (P.length : Int) = 0 := by omega
          clear h0
          go_wp2_with fail
          refine (Within_any n ((.slice au B.length cu, .slice pu P.length qu), (B, P)) ((.slice au B.length cu, .slice pu P.length qu), (B, P)) _ (HVU.out _ G.out).ok (HVU.out _ G.out).ok).mono ?_
          rintro e w77 ⟨Bo, rfl, hB, hg⟩
          obtain rfl : Bo = true := hB.2 (within_self HVB.out)
          replace HS := Lib.hid (HS.out.step hg)
          clear hB hg x0 x1
          go_wp2_with fail
          go_ret
          exact ⟨rfl, HS.out.below⟩
        · have h0i : ¬ (P.length : Int) = 0 := by omega
          have HP1 : Hid (1 ≤ P.length ∧ P.length ≤ 3) := Lib.hid ⟨by omega, hP3⟩
          go_wp2_with fail
          refine (next_st HS.out (P.length : Int) (by have := HP1.out; omega) (by have := HP1.out; omega)).mono ?_
          rintro e w58 ⟨y2, rfl, hy0, hy1, hs, hg⟩
          obtain ⟨k, rfl⟩ : ∃ k : Nat, y2 = k := ⟨y2.toNat, by omega⟩
          have hkP : k < P.length := by omega
          replace HS := Lib.hid hs
          replace G : Hid (wb.grownBy w58 (some d)) := Lib.hid (grown_deal G.out hg)
          clear hs hg x0 x1
          have x0 := (HVX.out _ G.out).1; have x1 := (HVX.out _ G.out).2.1
          go_wp2_with fail
          obtain ⟨-, -, pe, po, rfl, -⟩ := (HVU.out _ G.out).at (show 0 < P.length by have := HP1.out.1; omega)
          obtain ⟨qs, hqr, hqg, hqm⟩ := (HVU.out _ G.out).rows
          have hql : qs.length = P.length := by rw [← hqm, List.length_map]
          have hqu := hqg.2 _ _ _ rfl
          obtain ⟨ta, tc, hrun, htr, htg⟩ := rows_tail1 hqr hqg (k := k + 1) (by omega)
          have HH := Lib.hid (rows_head hqr (show k ≤ qs.length by omega))
          have HT := Lib.hid htr; have HQR := Lib.hid hqr; have HQM := Lib.hid hqm
          have HRW := Lib.hid (rows_rows hqr)
          have HBB := Lib.hid (HVU.out _ G.out).base.1
          have g1 : IntKind.i64.wrap ((k : Int) + 1) = (k : Int) + 1 := IntWalk.i64_in _ (by omega)
          have hrun1 : ∀ w', (Instr.slice 23 (.slice (some ⟨pe, po, none⟩) P.length qu) (some (.int .i64 ((k : Int) + 1))) none none).run Try.prog w' = .ok (.slice ta (P.length - (k + 1)) tc) w' := by
            intro w'
            have := hrun w'
            rwa [show ((k + 1 : Nat) : Int) = (k : Int) + 1 by omega] at this
          clear hrun
          have j1 : (0 : Int) ≤ (k : Int) := by omega
          have j2 : (k : Int) ≤ (qu : Int) := by omega
          have hk9 : ([] : List Row).length + (qs.take k).length ≤ 1000000000000 := by simp; omega
          have hk10 : (qs.take k).length + (qs.drop (k + 1)).length ≤ 1000000000000 := by simp; omega
          have HGXB : Hid (gx < w58.heap.size) := Lib.hid (World.block_lt_of_cell? _ _ x0)
          have X0 := Lib.hid x0; have X1 := Lib.hid x1; have HKP : Hid (k < P.length) := Lib.hid hkP
          have GX : Hid (w58.grownBy w58.drew none) := Lib.hid (grown_drew _ none)
          have hnn : ∀ g : Nat, some g ≠ (none : Option Nat) := by intro g; simp
          clear hqr hqm htr htg hqg x0 x1 hy0 hy1
          have DBG := GX
          go_region_held3 (fun w' => w'.cell? ⟨gx, 0, none⟩ = some (.slice au B.length cu) ∧ w'.cell? ⟨gx, 1, none⟩ = some (.slice (some ⟨pe, po, none⟩) P.length qu)) (first | exact ⟨GX.out.cell X0.out (hnn _), GX.out.cell X1.out (hnn _)⟩ | exact ⟨(grown_after GX.out).cell X0.out (hnn _), (grown_after GX.out).cell X1.out (hnn _)⟩ | exact ⟨(set_two1 _ _ _ _).cell (GX.out.cell X0.out (hnn _)) (some_ne HGXB.out), (set_two1 _ _ _ _).cell (GX.out.cell X1.out (hnn _)) (some_ne HGXB.out)⟩ | exact ⟨(set_two1 _ _ _ _).cell (GX.out.cell X0.out (hnn _)) (some_ne (Nat.lt_of_lt_of_le HGXB.out HS65.out)), (set_two1 _ _ _ _).cell (GX.out.cell X1.out (hnn _)) (some_ne (Nat.lt_of_lt_of_le HGXB.out HS65.out))⟩) (first
            | (refine step_app_all rfl (.const (.slice none 0 0)) (.tmp 64) rfl _ (.slice none 0 0) [] (by kernel_rfl) (OwnP.nil _ _) (.slice (some ⟨pe, po, none⟩) k qu) (qs.take k) (by kernel_rfl) (HH.out.same (by first | exact GX.out | exact grown_after GX.out)) (nil_far _) hk9 (Nat.le_refl _) ?_; intro a65 n65 c65 w65 hn65 ho hg; have C65 := Lib.hid ho; have HG65 := Lib.hid hg; replace GX : Hid (w58.grownBy w65 none) := Lib.hid (grown_trans (by first | exact GX.out | exact grown_after GX.out) hg); have HS65 := Lib.hid GX.out.size; clear hn65 ho hg)
            | (refine step_app_all rfl (.tmp 65) (.tmp 70) rfl _ (.slice a65 n65 c65) _ (by kernel_rfl) (show OwnP _ _ (.slice a65 n65 c65) (qs.take k) from (by first | exact C65.out | exact C65.out.same (World.grownBy_alloc _ _ none))) (.slice ta (P.length - (k + 1)) tc) (qs.drop (k + 1)) (by kernel_rfl) (HT.out.same (by first | exact GX.out | exact grown_after GX.out)) (far_of (fun p hp => HRW.out p (List.mem_of_mem_drop hp)) (show OwnP _ _ (.slice a65 n65 c65) (qs.take k) from C65.out) (by first | exact Nat.le_refl _ | exact (grown_drew w58 none).size | exact (grown_after (grown_drew w58 none)).size)) hk10 (Nat.le_trans (by exact HG65.out.size) (by first | exact Nat.le_refl _ | exact (World.grownBy_alloc _ _ none).size)) ?_; intro a71 n71 c71 w71 hn71 ho hg; have C71 := Lib.hid (show OwnP _ _ (.slice a71 n71 c71) (qs.take k ++ qs.drop (k + 1)) from ho); replace GX : Hid (w58.grownBy w71 none) := Lib.hid (grown_then (by first | exact GX.out | exact grown_after GX.out) hg (fun j hj => .inl (Nat.le_trans (by first | exact DBG.out.size | exact (grown_after DBG.out).size) (C65.out.fresh j hj).1))); (first | (have hbx : w71.heap[w58.heap.size]? = some (.cells #[.slice none 0 0, .slice none 0 0] 49 (0, 0)) := box_kept (box_none (show (w58.drew.alloc (.cells #[.slice none 0 0, .slice none 0 0] 49)).heap[w58.heap.size]? = _ from heap_new _ rfl) HG65.out) C65.out hg; obtain ⟨p1, p2, p3, p4, p5⟩ := put_set (x := .slice au B.length cu) (y := .slice a71 n71 c71) hbx; have P1 := Lib.hid p1; have HBX := Lib.hid hbx; clear p1 hbx) | (have hbx : w71.heap[w65.heap.size]? = some (.cells #[.slice none 0 0, .slice none 0 0] 49 (0, 0)) := box_kept (show (w65.alloc (.cells #[.slice none 0 0, .slice none 0 0] 49)).heap[w65.heap.size]? = _ from heap_new _ rfl) (C65.out.same (World.grownBy_alloc _ _ none)) hg; obtain ⟨p1, p2, p3, p4, p5⟩ := put_set (x := .slice au B.length cu) (y := .slice a71 n71 c71) hbx; have P1 := Lib.hid p1; have HBX := Lib.hid hbx; clear p1 hbx) | skip); clear hn71 ho hg))
          · generalize hwf : World.alloc w71 (.cells #[.slice au B.length cu, .slice a71 n71 c71] 49) = wf
            have GF : Hid (w58.grownBy wf none) := by rw [← hwf]; exact Lib.hid (grown_after GX.out)
            have HLS : Hid (SetOk wf n ((.slice au B.length cu, .slice a71 n71 c71), (B, P.take k ++ P.drop (k + 1)))) := by
              rw [← hwf]
              refine Lib.hid ⟨?_, HVB.out.less k⟩
              have h1 : LinV w71 (.agg #[.slice au B.length cu, .slice a71 n71 c71]) B ((qs.take k ++ qs.drop (k + 1)).map Prod.snd) := ⟨_, _, _, rfl, HBB.out.same GX.out, C71.out.rows, C71.out.good, rfl⟩
              rw [less_map HQM.out] at h1
              exact h1.same (World.grownBy_alloc _ _ none)
            have hyy : wf.cell? ⟨w71.heap.size, 0, none⟩ = some (.slice au B.length cu) ∧ wf.cell? ⟨w71.heap.size, 1, none⟩ = some (.slice a71 n71 c71) := by rw [← hwf]; exact cells_of (heap_new _ rfl)
            clear hwf
            have G9 : Hid (wb.grownBy wf (some d)) := Lib.hid (grown_deal G.out (grown_wide GF.out))
            replace HS := Lib.hid (HS.out.step GF.out)
            obtain ⟨y0, y1⟩ := hyy
            have x0 := GF.out.cell X0.out (by simp); have x1 := GF.out.cell X1.out (by simp)
            go_wp2_with fail
            refine (Within_any n ((.slice au B.length cu, .slice a71 n71 c71), (B, P.take k ++ P.drop (k + 1))) ((.slice au B.length cu, .slice (some ⟨pe, po, none⟩) P.length qu), (B, P)) _ HLS.out (HVU.out _ G9.out).ok).mono ?_
            rintro e w76 ⟨Bo, rfl, hB, hg⟩
            obtain rfl : Bo = true := hB.2 (within_sub HVB.out less_mem)
            replace G9 : Hid (wb.grownBy w76 (some d)) := Lib.hid (grown_deal G9.out (grown_wide hg))
            replace HS := Lib.hid (HS.out.step hg)
            clear hB x0 x1 y0 y1
            have x0 := (HVX.out _ G9.out).1; have x1 := (HVX.out _ G9.out).2.1
            clear hg
            go_wp2_with fail
            refine (Within_any n ((.slice au B.length cu, .slice (some ⟨pe, po, none⟩) P.length qu), (B, P)) ((.slice au B.length cu, .slice (some ⟨pe, po, none⟩) P.length qu), (B, P)) _ (HVU.out _ G9.out).ok (HVU.out _ G9.out).ok).mono ?_
            rintro e w81 ⟨Bo, rfl, hB, hg⟩
            obtain rfl : Bo = true := hB.2 (within_self HVB.out)
            replace HS := Lib.hid (HS.out.step hg)
            clear hB hg x0 x1
            go_wp2_with fail
            go_ret
            exact ⟨rfl, HS.out.below⟩
          · clear p2 p3 p4 p5
            have HST := set_two1 (w65.heap.size) w71 (.slice au B.length cu) (.slice a71 n71 c71)
            generalize ((w71.setCell ⟨w65.heap.size, 0, none⟩ (.slice au B.length cu)).setCell ⟨w65.heap.size, 1, none⟩ (.slice a71 n71 c71)) = wf at *
            have GF : Hid (w58.grownBy wf none) := Lib.hid (grown_then GX.out HST (fun j hj => .inl (by cases hj; exact HS65.out)))
            have HLS : Hid (SetOk wf n ((.slice au B.length cu, .slice a71 n71 c71), (B, P.take k ++ P.drop (k + 1)))) := by
              refine Lib.hid ⟨?_, HVB.out.less k⟩
              have h1 := less_lin HBB.out (fun q hq => HRW.out q (less_mem1 q hq)) GX.out C71.out HBX.out HS65.out HST
              rw [less_map HQM.out] at h1
              exact h1
            have hyy := cells_of P1.out
            clear HST
            have G9 : Hid (wb.grownBy wf (some d)) := Lib.hid (grown_deal G.out (grown_wide GF.out))
            replace HS := Lib.hid (HS.out.step GF.out)
            obtain ⟨y0, y1⟩ := hyy
            have x0 := GF.out.cell X0.out (by simp); have x1 := GF.out.cell X1.out (by simp)
            go_wp2_with fail
            refine (Within_any n ((.slice au B.length cu, .slice a71 n71 c71), (B, P.take k ++ P.drop (k + 1))) ((.slice au B.length cu, .slice (some ⟨pe, po, none⟩) P.length qu), (B, P)) _ HLS.out (HVU.out _ G9.out).ok).mono ?_
            rintro e w76 ⟨Bo, rfl, hB, hg⟩
            obtain rfl : Bo = true := hB.2 (within_sub HVB.out less_mem)
            replace G9 : Hid (wb.grownBy w76 (some d)) := Lib.hid (grown_deal G9.out (grown_wide hg))
            replace HS := Lib.hid (HS.out.step hg)
            clear hB x0 x1 y0 y1
            have x0 := (HVX.out _ G9.out).1; have x1 := (HVX.out _ G9.out).2.1
            clear hg
            go_wp2_with fail
            refine (Within_any n ((.slice au B.length cu, .slice (some ⟨pe, po, none⟩) P.length qu), (B, P)) ((.slice au B.length cu, .slice (some ⟨pe, po, none⟩) P.length qu), (B, P)) _ (HVU.out _ G9.out).ok (HVU.out _ G9.out).ok).mono ?_
            rintro e w81 ⟨Bo, rfl, hB, hg⟩
            obtain rfl : Bo = true := hB.2 (within_self HVB.out)
            replace HS := Lib.hid (HS.out.step hg)
            clear hB hg x0 x1
            go_wp2_with fail
            go_ret
            exact ⟨rfl, HS.out.below⟩
          · clear p2 p3 p4 p5
            have HST := set_two1 (w58.heap.size) w71 (.slice au B.length cu) (.slice a71 n71 c71)
            generalize ((w71.setCell ⟨w58.heap.size, 0, none⟩ (.slice au B.length cu)).setCell ⟨w58.heap.size, 1, none⟩ (.slice a71 n71 c71)) = wf at *
            have GF : Hid (w58.grownBy wf none) := Lib.hid (grown_then GX.out HST (fun j hj => .inl (by cases hj; exact (Nat.le_refl _))))
            have HLS : Hid (SetOk wf n ((.slice au B.length cu, .slice a71 n71 c71), (B, P.take k ++ P.drop (k + 1)))) := by
              refine Lib.hid ⟨?_, HVB.out.less k⟩
              have h1 := less_lin HBB.out (fun q hq => HRW.out q (less_mem1 q hq)) GX.out C71.out HBX.out (Nat.le_refl _) HST
              rw [less_map HQM.out] at h1
              exact h1
            have hyy := cells_of P1.out
            clear HST
            have G9 : Hid (wb.grownBy wf (some d)) := Lib.hid (grown_deal G.out (grown_wide GF.out))
            replace HS := Lib.hid (HS.out.step GF.out)
            obtain ⟨y0, y1⟩ := hyy
            have x0 := GF.out.cell X0.out (by simp); have x1 := GF.out.cell X1.out (by simp)
            go_wp2_with fail
            refine (Within_any n ((.slice au B.length cu, .slice a71 n71 c71), (B, P.take k ++ P.drop (k + 1))) ((.slice au B.length cu, .slice (some ⟨pe, po, none⟩) P.length qu), (B, P)) _ HLS.out (HVU.out _ G9.out).ok).mono ?_
            rintro e w76 ⟨Bo, rfl, hB, hg⟩
            obtain rfl : Bo = true := hB.2 (within_sub HVB.out less_mem)
            replace G9 : Hid (wb.grownBy w76 (some d)) := Lib.hid (grown_deal G9.out (grown_wide hg))
            replace HS := Lib.hid (HS.out.step hg)
            clear hB x0 x1 y0 y1
            have x0 := (HVX.out _ G9.out).1; have x1 := (HVX.out _ G9.out).2.1
            clear hg
            go_wp2_with fail
            refine (Within_any n ((.slice au B.length cu, .slice (some ⟨pe, po, none⟩) P.length qu), (B, P)) ((.slice au B.length cu, .slice (some ⟨pe, po, none⟩) P.length qu), (B, P)) _ (HVU.out _ G9.out).ok (HVU.out _ G9.out).ok).mono ?_
            rintro e w81 ⟨Bo, rfl, hB, hg⟩
            obtain rfl : Bo = true := hB.2 (within_self HVB.out)
            replace HS := Lib.hid (HS.out.step hg)
            clear hB hg x0 x1
            go_wp2_with fail
            go_ret
            exact ⟨rfl, HS.out.below⟩
    · have HW := Lib.hid hW
      clear hW
      have x0 := Vx.out.1; have x1 := Vx.out.2.1; have z0 := Vz.out.1; have z1 := Vz.out.2.1
      refine wp_region_any (by kernel_rfl) ?_
      change wpAny _ _ _ _ _ _ _ (World.drew _)
      refine wpAny_take (i := 0) (v := .int .i64 (n : Int)) rfl (by kernel_rfl) (by kernel_rfl) (by kernel_rfl) (fun _ _ _ h => h) (Or.inl ⟨by kernel_rfl, fun _ => by kernel_rfl⟩) ?_
      refine wpAny_ready (rs := [1, 2]) (by kernel_rfl) (by simp) (AllReady.cons rfl (fun K hK => ?_) (AllReady.cons rfl (fun K hK => ?_) AllReady.nil))
      · go_simp
        refine hK _ _ ?_
        clear hK K
        refine wpAny_ready (rs := [2]) (by kernel_rfl) (by simp) (AllReady.cons rfl (fun K hK => ?_) AllReady.nil)
        go_simp
        refine hK _ _ ?_
        clear hK K
        refine wpAny_ready (rs := [3]) (by kernel_rfl) (by simp) (AllReady.cons rfl (fun K hK => ?_) AllReady.nil)
        refine step_call 31 51 _ _ _ _ _ Try.f51 _ Try.func51 (by kernel_rfl) rfl [.int .i64 (n : Int), .agg #[.slice au B.length cu, .slice pu P.length qu], .agg #[.slice av C.length cv, .slice pv Q.length qv]] (by kernel_rfl) _ (Within_any n ((.slice au B.length cu, .slice pu P.length qu), (B, P)) ((.slice av C.length cv, .slice pv Q.length qv), (C, Q)) _ (HVU.out _ G.out).ok (HVV.out _ G.out).ok) ?_
        rintro e w31 ⟨Bo, rfl, hB, hg⟩
        obtain rfl : Bo = false := bool_no hB HW.out
        replace G : Hid (wb.grownBy w31 (some d)) := Lib.hid (grown_deal G.out (grown_wide hg))
        replace HS := Lib.hid (HS.out.step hg)
        clear hB hg
        refine ⟨_, rfl, ?_⟩
        refine hK _ _ ?_
        clear hK K
        refine wpAny_take (i := 4) (v := .bool false) rfl (by kernel_rfl) (by kernel_rfl) (by kernel_rfl) (fun _ _ _ h => h) (Or.inl ⟨by kernel_rfl, fun _ => by kernel_rfl⟩) ?_
        refine wpAny_take (i := 5) (v := undef) rfl (by kernel_rfl) (by kernel_rfl) (by kernel_rfl) (fun _ _ _ h => h) (Or.inr ⟨by kernel_rfl, rfl⟩) ?_
        refine wpAny_take (i := 6) (v := undef) rfl (by kernel_rfl) (by kernel_rfl) (by kernel_rfl) (fun _ _ _ h => h) (Or.inr ⟨by kernel_rfl, rfl⟩) ?_
        refine wpAny_take (i := 7) (v := undef) rfl (by kernel_rfl) (by kernel_rfl) (by kernel_rfl) (fun _ _ _ h => h) (Or.inr ⟨by kernel_rfl, rfl⟩) ?_
        refine wpAny_take (i := 8) (v := undef) rfl (by kernel_rfl) (by kernel_rfl) (by kernel_rfl) (fun _ _ _ h => h) (Or.inr ⟨by kernel_rfl, rfl⟩) ?_
        refine wpAny_take (i := 9) (v := undef) rfl (by kernel_rfl) (by kernel_rfl) (by kernel_rfl) (fun _ _ _ h => h) (Or.inr ⟨by kernel_rfl, rfl⟩) ?_
        refine wpAny_take (i := 10) (v := undef) rfl (by kernel_rfl) (by kernel_rfl) (by kernel_rfl) (fun _ _ _ h => h) (Or.inr ⟨by kernel_rfl, rfl⟩) ?_
        refine wpAny_take (i := 11) (v := undef) rfl (by kernel_rfl) (by kernel_rfl) (by kernel_rfl) (fun _ _ _ h => h) (Or.inr ⟨by kernel_rfl, rfl⟩) ?_
        refine wpAny_take (i := 12) (v := undef) rfl (by kernel_rfl) (by kernel_rfl) (by kernel_rfl) (fun _ _ _ h => h) (Or.inr ⟨by kernel_rfl, rfl⟩) ?_
        refine wpAny_take (i := 13) (v := undef) rfl (by kernel_rfl) (by kernel_rfl) (by kernel_rfl) (fun _ _ _ h => h) (Or.inr ⟨by kernel_rfl, rfl⟩) ?_
        refine wpAny_take (i := 14) (v := undef) rfl (by kernel_rfl) (by kernel_rfl) (by kernel_rfl) (fun _ _ _ h => h) (Or.inr ⟨by kernel_rfl, rfl⟩) ?_
        refine wpAny_take (i := 15) (v := undef) rfl (by kernel_rfl) (by kernel_rfl) (by kernel_rfl) (fun _ _ _ h => h) (Or.inr ⟨by kernel_rfl, rfl⟩) ?_
        refine wpAny_take (i := 16) (v := undef) rfl (by kernel_rfl) (by kernel_rfl) (by kernel_rfl) (fun _ _ _ h => h) (Or.inr ⟨by kernel_rfl, rfl⟩) ?_
        refine wpAny_ready (rs := [17]) (by kernel_rfl) (by simp) (AllReady.cons rfl (fun K hK => ?_) AllReady.nil)
        go_simp
        refine hK _ _ ?_
        clear hK K
        refine wpAny_done (by kernel_rfl) ?_ _
        clear x0 x1 z0 z1
        have x0 := (HVX.out _ G.out).1; have x1 := (HVX.out _ G.out).2.1
        clear hP3
        have hP3 : P.length ≤ 3 := HVB.out.2.2.2.2.2.1
        by_cases h0 : P.length = 0
        · have h0i : (P.length : Int) = 0 := by omega
          clear h0
          go_wp2_with fail
          refine (Within_any n ((.slice au B.length cu, .slice pu P.length qu), (B, P)) ((.slice au B.length cu, .slice pu P.length qu), (B, P)) _ (HVU.out _ G.out).ok (HVU.out _ G.out).ok).mono ?_
          rintro e w77 ⟨Bo, rfl, hB, hg⟩
          obtain rfl : Bo = true := hB.2 (within_self HVB.out)
          replace HS := Lib.hid (HS.out.step hg)
          clear hB hg x0 x1
          go_wp2_with fail
          go_ret
          exact ⟨rfl, HS.out.below⟩
        · have h0i : ¬ (P.length : Int) = 0 := by omega
          have HP1 : Hid (1 ≤ P.length ∧ P.length ≤ 3) := Lib.hid ⟨by omega, hP3⟩
          go_wp2_with fail
          refine (next_st HS.out (P.length : Int) (by have := HP1.out; omega) (by have := HP1.out; omega)).mono ?_
          rintro e w58 ⟨y2, rfl, hy0, hy1, hs, hg⟩
          obtain ⟨k, rfl⟩ : ∃ k : Nat, y2 = k := ⟨y2.toNat, by omega⟩
          have hkP : k < P.length := by omega
          replace HS := Lib.hid hs
          replace G : Hid (wb.grownBy w58 (some d)) := Lib.hid (grown_deal G.out hg)
          clear hs hg x0 x1
          have x0 := (HVX.out _ G.out).1; have x1 := (HVX.out _ G.out).2.1
          go_wp2_with fail
          obtain ⟨-, -, pe, po, rfl, -⟩ := (HVU.out _ G.out).at (show 0 < P.length by have := HP1.out.1; omega)
          obtain ⟨qs, hqr, hqg, hqm⟩ := (HVU.out _ G.out).rows
          have hql : qs.length = P.length := by rw [← hqm, List.length_map]
          have hqu := hqg.2 _ _ _ rfl
          obtain ⟨ta, tc, hrun, htr, htg⟩ := rows_tail1 hqr hqg (k := k + 1) (by omega)
          have HH := Lib.hid (rows_head hqr (show k ≤ qs.length by omega))
          have HT := Lib.hid htr; have HQR := Lib.hid hqr; have HQM := Lib.hid hqm
          have HRW := Lib.hid (rows_rows hqr)
          have HBB := Lib.hid (HVU.out _ G.out).base.1
          have g1 : IntKind.i64.wrap ((k : Int) + 1) = (k : Int) + 1 := IntWalk.i64_in _ (by omega)
          have hrun1 : ∀ w', (Instr.slice 23 (.slice (some ⟨pe, po, none⟩) P.length qu) (some (.int .i64 ((k : Int) + 1))) none none).run Try.prog w' = .ok (.slice ta (P.length - (k + 1)) tc) w' := by
            intro w'
            have := hrun w'
            rwa [show ((k + 1 : Nat) : Int) = (k : Int) + 1 by omega] at this
          clear hrun
          have j1 : (0 : Int) ≤ (k : Int) := by omega
          have j2 : (k : Int) ≤ (qu : Int) := by omega
          have hk9 : ([] : List Row).length + (qs.take k).length ≤ 1000000000000 := by simp; omega
          have hk10 : (qs.take k).length + (qs.drop (k + 1)).length ≤ 1000000000000 := by simp; omega
          have HGXB : Hid (gx < w58.heap.size) := Lib.hid (World.block_lt_of_cell? _ _ x0)
          have X0 := Lib.hid x0; have X1 := Lib.hid x1; have HKP : Hid (k < P.length) := Lib.hid hkP
          have GX : Hid (w58.grownBy w58.drew none) := Lib.hid (grown_drew _ none)
          have hnn : ∀ g : Nat, some g ≠ (none : Option Nat) := by intro g; simp
          clear hqr hqm htr htg hqg x0 x1 hy0 hy1
          have DBG := GX
          go_region_held3 (fun w' => w'.cell? ⟨gx, 0, none⟩ = some (.slice au B.length cu) ∧ w'.cell? ⟨gx, 1, none⟩ = some (.slice (some ⟨pe, po, none⟩) P.length qu)) (first | exact ⟨GX.out.cell X0.out (hnn _), GX.out.cell X1.out (hnn _)⟩ | exact ⟨(grown_after GX.out).cell X0.out (hnn _), (grown_after GX.out).cell X1.out (hnn _)⟩ | exact ⟨(set_two1 _ _ _ _).cell (GX.out.cell X0.out (hnn _)) (some_ne HGXB.out), (set_two1 _ _ _ _).cell (GX.out.cell X1.out (hnn _)) (some_ne HGXB.out)⟩ | exact ⟨(set_two1 _ _ _ _).cell (GX.out.cell X0.out (hnn _)) (some_ne (Nat.lt_of_lt_of_le HGXB.out HS65.out)), (set_two1 _ _ _ _).cell (GX.out.cell X1.out (hnn _)) (some_ne (Nat.lt_of_lt_of_le HGXB.out HS65.out))⟩) (first
            | (refine step_app_all rfl (.const (.slice none 0 0)) (.tmp 64) rfl _ (.slice none 0 0) [] (by kernel_rfl) (OwnP.nil _ _) (.slice (some ⟨pe, po, none⟩) k qu) (qs.take k) (by kernel_rfl) (HH.out.same (by first | exact GX.out | exact grown_after GX.out)) (nil_far _) hk9 (Nat.le_refl _) ?_; intro a65 n65 c65 w65 hn65 ho hg; have C65 := Lib.hid ho; have HG65 := Lib.hid hg; replace GX : Hid (w58.grownBy w65 none) := Lib.hid (grown_trans (by first | exact GX.out | exact grown_after GX.out) hg); have HS65 := Lib.hid GX.out.size; clear hn65 ho hg)
            | (refine step_app_all rfl (.tmp 65) (.tmp 70) rfl _ (.slice a65 n65 c65) _ (by kernel_rfl) (show OwnP _ _ (.slice a65 n65 c65) (qs.take k) from (by first | exact C65.out | exact C65.out.same (World.grownBy_alloc _ _ none))) (.slice ta (P.length - (k + 1)) tc) (qs.drop (k + 1)) (by kernel_rfl) (HT.out.same (by first | exact GX.out | exact grown_after GX.out)) (far_of (fun p hp => HRW.out p (List.mem_of_mem_drop hp)) (show OwnP _ _ (.slice a65 n65 c65) (qs.take k) from C65.out) (by first | exact Nat.le_refl _ | exact (grown_drew w58 none).size | exact (grown_after (grown_drew w58 none)).size)) hk10 (Nat.le_trans (by exact HG65.out.size) (by first | exact Nat.le_refl _ | exact (World.grownBy_alloc _ _ none).size)) ?_; intro a71 n71 c71 w71 hn71 ho hg; have C71 := Lib.hid (show OwnP _ _ (.slice a71 n71 c71) (qs.take k ++ qs.drop (k + 1)) from ho); replace GX : Hid (w58.grownBy w71 none) := Lib.hid (grown_then (by first | exact GX.out | exact grown_after GX.out) hg (fun j hj => .inl (Nat.le_trans (by first | exact DBG.out.size | exact (grown_after DBG.out).size) (C65.out.fresh j hj).1))); (first | (have hbx : w71.heap[w58.heap.size]? = some (.cells #[.slice none 0 0, .slice none 0 0] 49 (0, 0)) := box_kept (box_none (show (w58.drew.alloc (.cells #[.slice none 0 0, .slice none 0 0] 49)).heap[w58.heap.size]? = _ from heap_new _ rfl) HG65.out) C65.out hg; obtain ⟨p1, p2, p3, p4, p5⟩ := put_set (x := .slice au B.length cu) (y := .slice a71 n71 c71) hbx; have P1 := Lib.hid p1; have HBX := Lib.hid hbx; clear p1 hbx) | (have hbx : w71.heap[w65.heap.size]? = some (.cells #[.slice none 0 0, .slice none 0 0] 49 (0, 0)) := box_kept (show (w65.alloc (.cells #[.slice none 0 0, .slice none 0 0] 49)).heap[w65.heap.size]? = _ from heap_new _ rfl) (C65.out.same (World.grownBy_alloc _ _ none)) hg; obtain ⟨p1, p2, p3, p4, p5⟩ := put_set (x := .slice au B.length cu) (y := .slice a71 n71 c71) hbx; have P1 := Lib.hid p1; have HBX := Lib.hid hbx; clear p1 hbx) | skip); clear hn71 ho hg))
          · generalize hwf : World.alloc w71 (.cells #[.slice au B.length cu, .slice a71 n71 c71] 49) = wf
            have GF : Hid (w58.grownBy wf none) := by rw [← hwf]; exact Lib.hid (grown_after GX.out)
            have HLS : Hid (SetOk wf n ((.slice au B.length cu, .slice a71 n71 c71), (B, P.take k ++ P.drop (k + 1)))) := by
              rw [← hwf]
              refine Lib.hid ⟨?_, HVB.out.less k⟩
              have h1 : LinV w71 (.agg #[.slice au B.length cu, .slice a71 n71 c71]) B ((qs.take k ++ qs.drop (k + 1)).map Prod.snd) := ⟨_, _, _, rfl, HBB.out.same GX.out, C71.out.rows, C71.out.good, rfl⟩
              rw [less_map HQM.out] at h1
              exact h1.same (World.grownBy_alloc _ _ none)
            have hyy : wf.cell? ⟨w71.heap.size, 0, none⟩ = some (.slice au B.length cu) ∧ wf.cell? ⟨w71.heap.size, 1, none⟩ = some (.slice a71 n71 c71) := by rw [← hwf]; exact cells_of (heap_new _ rfl)
            clear hwf
            have G9 : Hid (wb.grownBy wf (some d)) := Lib.hid (grown_deal G.out (grown_wide GF.out))
            replace HS := Lib.hid (HS.out.step GF.out)
            obtain ⟨y0, y1⟩ := hyy
            have x0 := GF.out.cell X0.out (by simp); have x1 := GF.out.cell X1.out (by simp)
            go_wp2_with fail
            refine (Within_any n ((.slice au B.length cu, .slice a71 n71 c71), (B, P.take k ++ P.drop (k + 1))) ((.slice au B.length cu, .slice (some ⟨pe, po, none⟩) P.length qu), (B, P)) _ HLS.out (HVU.out _ G9.out).ok).mono ?_
            rintro e w76 ⟨Bo, rfl, hB, hg⟩
            obtain rfl : Bo = true := hB.2 (within_sub HVB.out less_mem)
            replace G9 : Hid (wb.grownBy w76 (some d)) := Lib.hid (grown_deal G9.out (grown_wide hg))
            replace HS := Lib.hid (HS.out.step hg)
            clear hB x0 x1 y0 y1
            have x0 := (HVX.out _ G9.out).1; have x1 := (HVX.out _ G9.out).2.1
            clear hg
            go_wp2_with fail
            refine (Within_any n ((.slice au B.length cu, .slice (some ⟨pe, po, none⟩) P.length qu), (B, P)) ((.slice au B.length cu, .slice (some ⟨pe, po, none⟩) P.length qu), (B, P)) _ (HVU.out _ G9.out).ok (HVU.out _ G9.out).ok).mono ?_
            rintro e w81 ⟨Bo, rfl, hB, hg⟩
            obtain rfl : Bo = true := hB.2 (within_self HVB.out)
            replace HS := Lib.hid (HS.out.step hg)
            clear hB hg x0 x1
            go_wp2_with fail
            go_ret
            exact ⟨rfl, HS.out.below⟩
          · clear p2 p3 p4 p5
            have HST := set_two1 (w65.heap.size) w71 (.slice au B.length cu) (.slice a71 n71 c71)
            generalize ((w71.setCell ⟨w65.heap.size, 0, none⟩ (.slice au B.length cu)).setCell ⟨w65.heap.size, 1, none⟩ (.slice a71 n71 c71)) = wf at *
            have GF : Hid (w58.grownBy wf none) := Lib.hid (grown_then GX.out HST (fun j hj => .inl (by cases hj; exact HS65.out)))
            have HLS : Hid (SetOk wf n ((.slice au B.length cu, .slice a71 n71 c71), (B, P.take k ++ P.drop (k + 1)))) := by
              refine Lib.hid ⟨?_, HVB.out.less k⟩
              have h1 := less_lin HBB.out (fun q hq => HRW.out q (less_mem1 q hq)) GX.out C71.out HBX.out HS65.out HST
              rw [less_map HQM.out] at h1
              exact h1
            have hyy := cells_of P1.out
            clear HST
            have G9 : Hid (wb.grownBy wf (some d)) := Lib.hid (grown_deal G.out (grown_wide GF.out))
            replace HS := Lib.hid (HS.out.step GF.out)
            obtain ⟨y0, y1⟩ := hyy
            have x0 := GF.out.cell X0.out (by simp); have x1 := GF.out.cell X1.out (by simp)
            go_wp2_with fail
            refine (Within_any n ((.slice au B.length cu, .slice a71 n71 c71), (B, P.take k ++ P.drop (k + 1))) ((.slice au B.length cu, .slice (some ⟨pe, po, none⟩) P.length qu), (B, P)) _ HLS.out (HVU.out _ G9.out).ok).mono ?_
            rintro e w76 ⟨Bo, rfl, hB, hg⟩
            obtain rfl : Bo = true := hB.2 (within_sub HVB.out less_mem)
            replace G9 : Hid (wb.grownBy w76 (some d)) := Lib.hid (grown_deal G9.out (grown_wide hg))
            replace HS := Lib.hid (HS.out.step hg)
            clear hB x0 x1 y0 y1
            have x0 := (HVX.out _ G9.out).1; have x1 := (HVX.out _ G9.out).2.1
            clear hg
            go_wp2_with fail
            refine (Within_any n ((.slice au B.length cu, .slice (some ⟨pe, po, none⟩) P.length qu), (B, P)) ((.slice au B.length cu, .slice (some ⟨pe, po, none⟩) P.length qu), (B, P)) _ (HVU.out _ G9.out).ok (HVU.out _ G9.out).ok).mono ?_
            rintro e w81 ⟨Bo, rfl, hB, hg⟩
            obtain rfl : Bo = true := hB.2 (within_self HVB.out)
            replace HS := Lib.hid (HS.out.step hg)
            clear hB hg x0 x1
            go_wp2_with fail
            go_ret
            exact ⟨rfl, HS.out.below⟩
          · clear p2 p3 p4 p5
            have HST := set_two1 (w58.heap.size) w71 (.slice au B.length cu) (.slice a71 n71 c71)
            generalize ((w71.setCell ⟨w58.heap.size, 0, none⟩ (.slice au B.length cu)).setCell ⟨w58.heap.size, 1, none⟩ (.slice a71 n71 c71)) = wf at *
            have GF : Hid (w58.grownBy wf none) := Lib.hid (grown_then GX.out HST (fun j hj => .inl (by cases hj; exact (Nat.le_refl _))))
            have HLS : Hid (SetOk wf n ((.slice au B.length cu, .slice a71 n71 c71), (B, P.take k ++ P.drop (k + 1)))) := by
              refine Lib.hid ⟨?_, HVB.out.less k⟩
              have h1 := less_lin HBB.out (fun q hq => HRW.out q (less_mem1 q hq)) GX.out C71.out HBX.out (Nat.le_refl _) HST
              rw [less_map HQM.out] at h1
              exact h1
            have hyy := cells_of P1.out
            clear HST
            have G9 : Hid (wb.grownBy wf (some d)) := Lib.hid (grown_deal G.out (grown_wide GF.out))
            replace HS := Lib.hid (HS.out.step GF.out)
            obtain ⟨y0, y1⟩ := hyy
            have x0 := GF.out.cell X0.out (by simp); have x1 := GF.out.cell X1.out (by simp)
            go_wp2_with fail
            refine (Within_any n ((.slice au B.length cu, .slice a71 n71 c71), (B, P.take k ++ P.drop (k + 1))) ((.slice au B.length cu, .slice (some ⟨pe, po, none⟩) P.length qu), (B, P)) _ HLS.out (HVU.out _ G9.out).ok).mono ?_
            rintro e w76 ⟨Bo, rfl, hB, hg⟩
            obtain rfl : Bo = true := hB.2 (within_sub HVB.out less_mem)
            replace G9 : Hid (wb.grownBy w76 (some d)) := Lib.hid (grown_deal G9.out (grown_wide hg))
            replace HS := Lib.hid (HS.out.step hg)
            clear hB x0 x1 y0 y1
            have x0 := (HVX.out _ G9.out).1; have x1 := (HVX.out _ G9.out).2.1
            clear hg
            go_wp2_with fail
            refine (Within_any n ((.slice au B.length cu, .slice (some ⟨pe, po, none⟩) P.length qu), (B, P)) ((.slice au B.length cu, .slice (some ⟨pe, po, none⟩) P.length qu), (B, P)) _ (HVU.out _ G9.out).ok (HVU.out _ G9.out).ok).mono ?_
            rintro e w81 ⟨Bo, rfl, hB, hg⟩
            obtain rfl : Bo = true := hB.2 (within_self HVB.out)
            replace HS := Lib.hid (HS.out.step hg)
            clear hB hg x0 x1
            go_wp2_with fail
            go_ret
            exact ⟨rfl, HS.out.below⟩
      · go_simp
        refine hK _ _ ?_
        clear hK K
        refine wpAny_ready (rs := [1]) (by kernel_rfl) (by simp) (AllReady.cons rfl (fun K hK => ?_) AllReady.nil)
        go_simp
        refine hK _ _ ?_
        clear hK K
        refine wpAny_ready (rs := [3]) (by kernel_rfl) (by simp) (AllReady.cons rfl (fun K hK => ?_) AllReady.nil)
        refine step_call 31 51 _ _ _ _ _ Try.f51 _ Try.func51 (by kernel_rfl) rfl [.int .i64 (n : Int), .agg #[.slice au B.length cu, .slice pu P.length qu], .agg #[.slice av C.length cv, .slice pv Q.length qv]] (by kernel_rfl) _ (Within_any n ((.slice au B.length cu, .slice pu P.length qu), (B, P)) ((.slice av C.length cv, .slice pv Q.length qv), (C, Q)) _ (HVU.out _ G.out).ok (HVV.out _ G.out).ok) ?_
        rintro e w31 ⟨Bo, rfl, hB, hg⟩
        obtain rfl : Bo = false := bool_no hB HW.out
        replace G : Hid (wb.grownBy w31 (some d)) := Lib.hid (grown_deal G.out (grown_wide hg))
        replace HS := Lib.hid (HS.out.step hg)
        clear hB hg
        refine ⟨_, rfl, ?_⟩
        refine hK _ _ ?_
        clear hK K
        refine wpAny_take (i := 4) (v := .bool false) rfl (by kernel_rfl) (by kernel_rfl) (by kernel_rfl) (fun _ _ _ h => h) (Or.inl ⟨by kernel_rfl, fun _ => by kernel_rfl⟩) ?_
        refine wpAny_take (i := 5) (v := undef) rfl (by kernel_rfl) (by kernel_rfl) (by kernel_rfl) (fun _ _ _ h => h) (Or.inr ⟨by kernel_rfl, rfl⟩) ?_
        refine wpAny_take (i := 6) (v := undef) rfl (by kernel_rfl) (by kernel_rfl) (by kernel_rfl) (fun _ _ _ h => h) (Or.inr ⟨by kernel_rfl, rfl⟩) ?_
        refine wpAny_take (i := 7) (v := undef) rfl (by kernel_rfl) (by kernel_rfl) (by kernel_rfl) (fun _ _ _ h => h) (Or.inr ⟨by kernel_rfl, rfl⟩) ?_
        refine wpAny_take (i := 8) (v := undef) rfl (by kernel_rfl) (by kernel_rfl) (by kernel_rfl) (fun _ _ _ h => h) (Or.inr ⟨by kernel_rfl, rfl⟩) ?_
        refine wpAny_take (i := 9) (v := undef) rfl (by kernel_rfl) (by kernel_rfl) (by kernel_rfl) (fun _ _ _ h => h) (Or.inr ⟨by kernel_rfl, rfl⟩) ?_
        refine wpAny_take (i := 10) (v := undef) rfl (by kernel_rfl) (by kernel_rfl) (by kernel_rfl) (fun _ _ _ h => h) (Or.inr ⟨by kernel_rfl, rfl⟩) ?_
        refine wpAny_take (i := 11) (v := undef) rfl (by kernel_rfl) (by kernel_rfl) (by kernel_rfl) (fun _ _ _ h => h) (Or.inr ⟨by kernel_rfl, rfl⟩) ?_
        refine wpAny_take (i := 12) (v := undef) rfl (by kernel_rfl) (by kernel_rfl) (by kernel_rfl) (fun _ _ _ h => h) (Or.inr ⟨by kernel_rfl, rfl⟩) ?_
        refine wpAny_take (i := 13) (v := undef) rfl (by kernel_rfl) (by kernel_rfl) (by kernel_rfl) (fun _ _ _ h => h) (Or.inr ⟨by kernel_rfl, rfl⟩) ?_
        refine wpAny_take (i := 14) (v := undef) rfl (by kernel_rfl) (by kernel_rfl) (by kernel_rfl) (fun _ _ _ h => h) (Or.inr ⟨by kernel_rfl, rfl⟩) ?_
        refine wpAny_take (i := 15) (v := undef) rfl (by kernel_rfl) (by kernel_rfl) (by kernel_rfl) (fun _ _ _ h => h) (Or.inr ⟨by kernel_rfl, rfl⟩) ?_
        refine wpAny_take (i := 16) (v := undef) rfl (by kernel_rfl) (by kernel_rfl) (by kernel_rfl) (fun _ _ _ h => h) (Or.inr ⟨by kernel_rfl, rfl⟩) ?_
        refine wpAny_ready (rs := [17]) (by kernel_rfl) (by simp) (AllReady.cons rfl (fun K hK => ?_) AllReady.nil)
        go_simp
        refine hK _ _ ?_
        clear hK K
        refine wpAny_done (by kernel_rfl) ?_ _
        clear x0 x1 z0 z1
        have x0 := (HVX.out _ G.out).1; have x1 := (HVX.out _ G.out).2.1
        clear hP3
        have hP3 : P.length ≤ 3 := HVB.out.2.2.2.2.2.1
        by_cases h0 : P.length = 0
        · have h0i : (P.length : Int) = 0 := by omega
          clear h0
          go_wp2_with fail
          refine (Within_any n ((.slice au B.length cu, .slice pu P.length qu), (B, P)) ((.slice au B.length cu, .slice pu P.length qu), (B, P)) _ (HVU.out _ G.out).ok (HVU.out _ G.out).ok).mono ?_
          rintro e w77 ⟨Bo, rfl, hB, hg⟩
          obtain rfl : Bo = true := hB.2 (within_self HVB.out)
          replace HS := Lib.hid (HS.out.step hg)
          clear hB hg x0 x1
          go_wp2_with fail
          go_ret
          exact ⟨rfl, HS.out.below⟩
        · have h0i : ¬ (P.length : Int) = 0 := by omega
          have HP1 : Hid (1 ≤ P.length ∧ P.length ≤ 3) := Lib.hid ⟨by omega, hP3⟩
          go_wp2_with fail
          refine (next_st HS.out (P.length : Int) (by have := HP1.out; omega) (by have := HP1.out; omega)).mono ?_
          rintro e w58 ⟨y2, rfl, hy0, hy1, hs, hg⟩
          obtain ⟨k, rfl⟩ : ∃ k : Nat, y2 = k := ⟨y2.toNat, by omega⟩
          have hkP : k < P.length := by omega
          replace HS := Lib.hid hs
          replace G : Hid (wb.grownBy w58 (some d)) := Lib.hid (grown_deal G.out hg)
          clear hs hg x0 x1
          have x0 := (HVX.out _ G.out).1; have x1 := (HVX.out _ G.out).2.1
          go_wp2_with fail
          obtain ⟨-, -, pe, po, rfl, -⟩ := (HVU.out _ G.out).at (show 0 < P.length by have := HP1.out.1; omega)
          obtain ⟨qs, hqr, hqg, hqm⟩ := (HVU.out _ G.out).rows
          have hql : qs.length = P.length := by rw [← hqm, List.length_map]
          have hqu := hqg.2 _ _ _ rfl
          obtain ⟨ta, tc, hrun, htr, htg⟩ := rows_tail1 hqr hqg (k := k + 1) (by omega)
          have HH := Lib.hid (rows_head hqr (show k ≤ qs.length by omega))
          have HT := Lib.hid htr; have HQR := Lib.hid hqr; have HQM := Lib.hid hqm
          have HRW := Lib.hid (rows_rows hqr)
          have HBB := Lib.hid (HVU.out _ G.out).base.1
          have g1 : IntKind.i64.wrap ((k : Int) + 1) = (k : Int) + 1 := IntWalk.i64_in _ (by omega)
          have hrun1 : ∀ w', (Instr.slice 23 (.slice (some ⟨pe, po, none⟩) P.length qu) (some (.int .i64 ((k : Int) + 1))) none none).run Try.prog w' = .ok (.slice ta (P.length - (k + 1)) tc) w' := by
            intro w'
            have := hrun w'
            rwa [show ((k + 1 : Nat) : Int) = (k : Int) + 1 by omega] at this
          clear hrun
          have j1 : (0 : Int) ≤ (k : Int) := by omega
          have j2 : (k : Int) ≤ (qu : Int) := by omega
          have hk9 : ([] : List Row).length + (qs.take k).length ≤ 1000000000000 := by simp; omega
          have hk10 : (qs.take k).length + (qs.drop (k + 1)).length ≤ 1000000000000 := by simp; omega
          have HGXB : Hid (gx < w58.heap.size) := Lib.hid (World.block_lt_of_cell? _ _ x0)
          have X0 := Lib.hid x0; have X1 := Lib.hid x1; have HKP : Hid (k < P.length) := Lib.hid hkP
          have GX : Hid (w58.grownBy w58.drew none) := Lib.hid (grown_drew _ none)
          have hnn : ∀ g : Nat, some g ≠ (none : Option Nat) := by intro g; simp
          clear hqr hqm htr htg hqg x0 x1 hy0 hy1
          have DBG := GX
          go_region_held3 (fun w' => w'.cell? ⟨gx, 0, none⟩ = some (.slice au B.length cu) ∧ w'.cell? ⟨gx, 1, none⟩ = some (.slice (some ⟨pe, po, none⟩) P.length qu)) (first | exact ⟨GX.out.cell X0.out (hnn _), GX.out.cell X1.out (hnn _)⟩ | exact ⟨(grown_after GX.out).cell X0.out (hnn _), (grown_after GX.out).cell X1.out (hnn _)⟩ | exact ⟨(set_two1 _ _ _ _).cell (GX.out.cell X0.out (hnn _)) (some_ne HGXB.out), (set_two1 _ _ _ _).cell (GX.out.cell X1.out (hnn _)) (some_ne HGXB.out)⟩ | exact ⟨(set_two1 _ _ _ _).cell (GX.out.cell X0.out (hnn _)) (some_ne (Nat.lt_of_lt_of_le HGXB.out HS65.out)), (set_two1 _ _ _ _).cell (GX.out.cell X1.out (hnn _)) (some_ne (Nat.lt_of_lt_of_le HGXB.out HS65.out))⟩) (first
            | (refine step_app_all rfl (.const (.slice none 0 0)) (.tmp 64) rfl _ (.slice none 0 0) [] (by kernel_rfl) (OwnP.nil _ _) (.slice (some ⟨pe, po, none⟩) k qu) (qs.take k) (by kernel_rfl) (HH.out.same (by first | exact GX.out | exact grown_after GX.out)) (nil_far _) hk9 (Nat.le_refl _) ?_; intro a65 n65 c65 w65 hn65 ho hg; have C65 := Lib.hid ho; have HG65 := Lib.hid hg; replace GX : Hid (w58.grownBy w65 none) := Lib.hid (grown_trans (by first | exact GX.out | exact grown_after GX.out) hg); have HS65 := Lib.hid GX.out.size; clear hn65 ho hg)
            | (refine step_app_all rfl (.tmp 65) (.tmp 70) rfl _ (.slice a65 n65 c65) _ (by kernel_rfl) (show OwnP _ _ (.slice a65 n65 c65) (qs.take k) from (by first | exact C65.out | exact C65.out.same (World.grownBy_alloc _ _ none))) (.slice ta (P.length - (k + 1)) tc) (qs.drop (k + 1)) (by kernel_rfl) (HT.out.same (by first | exact GX.out | exact grown_after GX.out)) (far_of (fun p hp => HRW.out p (List.mem_of_mem_drop hp)) (show OwnP _ _ (.slice a65 n65 c65) (qs.take k) from C65.out) (by first | exact Nat.le_refl _ | exact (grown_drew w58 none).size | exact (grown_after (grown_drew w58 none)).size)) hk10 (Nat.le_trans (by exact HG65.out.size) (by first | exact Nat.le_refl _ | exact (World.grownBy_alloc _ _ none).size)) ?_; intro a71 n71 c71 w71 hn71 ho hg; have C71 := Lib.hid (show OwnP _ _ (.slice a71 n71 c71) (qs.take k ++ qs.drop (k + 1)) from ho); replace GX : Hid (w58.grownBy w71 none) := Lib.hid (grown_then (by first | exact GX.out | exact grown_after GX.out) hg (fun j hj => .inl (Nat.le_trans (by first | exact DBG.out.size | exact (grown_after DBG.out).size) (C65.out.fresh j hj).1))); (first | (have hbx : w71.heap[w58.heap.size]? = some (.cells #[.slice none 0 0, .slice none 0 0] 49 (0, 0)) := box_kept (box_none (show (w58.drew.alloc (.cells #[.slice none 0 0, .slice none 0 0] 49)).heap[w58.heap.size]? = _ from heap_new _ rfl) HG65.out) C65.out hg; obtain ⟨p1, p2, p3, p4, p5⟩ := put_set (x := .slice au B.length cu) (y := .slice a71 n71 c71) hbx; have P1 := Lib.hid p1; have HBX := Lib.hid hbx; clear p1 hbx) | (have hbx : w71.heap[w65.heap.size]? = some (.cells #[.slice none 0 0, .slice none 0 0] 49 (0, 0)) := box_kept (show (w65.alloc (.cells #[.slice none 0 0, .slice none 0 0] 49)).heap[w65.heap.size]? = _ from heap_new _ rfl) (C65.out.same (World.grownBy_alloc _ _ none)) hg; obtain ⟨p1, p2, p3, p4, p5⟩ := put_set (x := .slice au B.length cu) (y := .slice a71 n71 c71) hbx; have P1 := Lib.hid p1; have HBX := Lib.hid hbx; clear p1 hbx) | skip); clear hn71 ho hg))
          · generalize hwf : World.alloc w71 (.cells #[.slice au B.length cu, .slice a71 n71 c71] 49) = wf
            have GF : Hid (w58.grownBy wf none) := by rw [← hwf]; exact Lib.hid (grown_after GX.out)
            have HLS : Hid (SetOk wf n ((.slice au B.length cu, .slice a71 n71 c71), (B, P.take k ++ P.drop (k + 1)))) := by
              rw [← hwf]
              refine Lib.hid ⟨?_, HVB.out.less k⟩
              have h1 : LinV w71 (.agg #[.slice au B.length cu, .slice a71 n71 c71]) B ((qs.take k ++ qs.drop (k + 1)).map Prod.snd) := ⟨_, _, _, rfl, HBB.out.same GX.out, C71.out.rows, C71.out.good, rfl⟩
              rw [less_map HQM.out] at h1
              exact h1.same (World.grownBy_alloc _ _ none)
            have hyy : wf.cell? ⟨w71.heap.size, 0, none⟩ = some (.slice au B.length cu) ∧ wf.cell? ⟨w71.heap.size, 1, none⟩ = some (.slice a71 n71 c71) := by rw [← hwf]; exact cells_of (heap_new _ rfl)
            clear hwf
            have G9 : Hid (wb.grownBy wf (some d)) := Lib.hid (grown_deal G.out (grown_wide GF.out))
            replace HS := Lib.hid (HS.out.step GF.out)
            obtain ⟨y0, y1⟩ := hyy
            have x0 := GF.out.cell X0.out (by simp); have x1 := GF.out.cell X1.out (by simp)
            go_wp2_with fail
            refine (Within_any n ((.slice au B.length cu, .slice a71 n71 c71), (B, P.take k ++ P.drop (k + 1))) ((.slice au B.length cu, .slice (some ⟨pe, po, none⟩) P.length qu), (B, P)) _ HLS.out (HVU.out _ G9.out).ok).mono ?_
            rintro e w76 ⟨Bo, rfl, hB, hg⟩
            obtain rfl : Bo = true := hB.2 (within_sub HVB.out less_mem)
            replace G9 : Hid (wb.grownBy w76 (some d)) := Lib.hid (grown_deal G9.out (grown_wide hg))
            replace HS := Lib.hid (HS.out.step hg)
            clear hB x0 x1 y0 y1
            have x0 := (HVX.out _ G9.out).1; have x1 := (HVX.out _ G9.out).2.1
            clear hg
            go_wp2_with fail
            refine (Within_any n ((.slice au B.length cu, .slice (some ⟨pe, po, none⟩) P.length qu), (B, P)) ((.slice au B.length cu, .slice (some ⟨pe, po, none⟩) P.length qu), (B, P)) _ (HVU.out _ G9.out).ok (HVU.out _ G9.out).ok).mono ?_
            rintro e w81 ⟨Bo, rfl, hB, hg⟩
            obtain rfl : Bo = true := hB.2 (within_self HVB.out)
            replace HS := Lib.hid (HS.out.step hg)
            clear hB hg x0 x1
            go_wp2_with fail
            go_ret
            exact ⟨rfl, HS.out.below⟩
          · clear p2 p3 p4 p5
            have HST := set_two1 (w65.heap.size) w71 (.slice au B.length cu) (.slice a71 n71 c71)
            generalize ((w71.setCell ⟨w65.heap.size, 0, none⟩ (.slice au B.length cu)).setCell ⟨w65.heap.size, 1, none⟩ (.slice a71 n71 c71)) = wf at *
            have GF : Hid (w58.grownBy wf none) := Lib.hid (grown_then GX.out HST (fun j hj => .inl (by cases hj; exact HS65.out)))
            have HLS : Hid (SetOk wf n ((.slice au B.length cu, .slice a71 n71 c71), (B, P.take k ++ P.drop (k + 1)))) := by
              refine Lib.hid ⟨?_, HVB.out.less k⟩
              have h1 := less_lin HBB.out (fun q hq => HRW.out q (less_mem1 q hq)) GX.out C71.out HBX.out HS65.out HST
              rw [less_map HQM.out] at h1
              exact h1
            have hyy := cells_of P1.out
            clear HST
            have G9 : Hid (wb.grownBy wf (some d)) := Lib.hid (grown_deal G.out (grown_wide GF.out))
            replace HS := Lib.hid (HS.out.step GF.out)
            obtain ⟨y0, y1⟩ := hyy
            have x0 := GF.out.cell X0.out (by simp); have x1 := GF.out.cell X1.out (by simp)
            go_wp2_with fail
            refine (Within_any n ((.slice au B.length cu, .slice a71 n71 c71), (B, P.take k ++ P.drop (k + 1))) ((.slice au B.length cu, .slice (some ⟨pe, po, none⟩) P.length qu), (B, P)) _ HLS.out (HVU.out _ G9.out).ok).mono ?_
            rintro e w76 ⟨Bo, rfl, hB, hg⟩
            obtain rfl : Bo = true := hB.2 (within_sub HVB.out less_mem)
            replace G9 : Hid (wb.grownBy w76 (some d)) := Lib.hid (grown_deal G9.out (grown_wide hg))
            replace HS := Lib.hid (HS.out.step hg)
            clear hB x0 x1 y0 y1
            have x0 := (HVX.out _ G9.out).1; have x1 := (HVX.out _ G9.out).2.1
            clear hg
            go_wp2_with fail
            refine (Within_any n ((.slice au B.length cu, .slice (some ⟨pe, po, none⟩) P.length qu), (B, P)) ((.slice au B.length cu, .slice (some ⟨pe, po, none⟩) P.length qu), (B, P)) _ (HVU.out _ G9.out).ok (HVU.out _ G9.out).ok).mono ?_
            rintro e w81 ⟨Bo, rfl, hB, hg⟩
            obtain rfl : Bo = true := hB.2 (within_self HVB.out)
            replace HS := Lib.hid (HS.out.step hg)
            clear hB hg x0 x1
            go_wp2_with fail
            go_ret
            exact ⟨rfl, HS.out.below⟩
          · clear p2 p3 p4 p5
            have HST := set_two1 (w58.heap.size) w71 (.slice au B.length cu) (.slice a71 n71 c71)
            generalize ((w71.setCell ⟨w58.heap.size, 0, none⟩ (.slice au B.length cu)).setCell ⟨w58.heap.size, 1, none⟩ (.slice a71 n71 c71)) = wf at *
            have GF : Hid (w58.grownBy wf none) := Lib.hid (grown_then GX.out HST (fun j hj => .inl (by cases hj; exact (Nat.le_refl _))))
            have HLS : Hid (SetOk wf n ((.slice au B.length cu, .slice a71 n71 c71), (B, P.take k ++ P.drop (k + 1)))) := by
              refine Lib.hid ⟨?_, HVB.out.less k⟩
              have h1 := less_lin HBB.out (fun q hq => HRW.out q (less_mem1 q hq)) GX.out C71.out HBX.out (Nat.le_refl _) HST
              rw [less_map HQM.out] at h1
              exact h1
            have hyy := cells_of P1.out
            clear HST
            have G9 : Hid (wb.grownBy wf (some d)) := Lib.hid (grown_deal G.out (grown_wide GF.out))
            replace HS := Lib.hid (HS.out.step GF.out)
            obtain ⟨y0, y1⟩ := hyy
            have x0 := GF.out.cell X0.out (by simp); have x1 := GF.out.cell X1.out (by simp)
            go_wp2_with fail
            refine (Within_any n ((.slice au B.length cu, .slice a71 n71 c71), (B, P.take k ++ P.drop (k + 1))) ((.slice au B.length cu, .slice (some ⟨pe, po, none⟩) P.length qu), (B, P)) _ HLS.out (HVU.out _ G9.out).ok).mono ?_
            rintro e w76 ⟨Bo, rfl, hB, hg⟩
            obtain rfl : Bo = true := hB.2 (within_sub HVB.out less_mem)
            replace G9 : Hid (wb.grownBy w76 (some d)) := Lib.hid (grown_deal G9.out (grown_wide hg))
            replace HS := Lib.hid (HS.out.step hg)
            clear hB x0 x1 y0 y1
            have x0 := (HVX.out _ G9.out).1; have x1 := (HVX.out _ G9.out).2.1
            clear hg
            go_wp2_with fail
            refine (Within_any n ((.slice au B.length cu, .slice (some ⟨pe, po, none⟩) P.length qu), (B, P)) ((.slice au B.length cu, .slice (some ⟨pe, po, none⟩) P.length qu), (B, P)) _ (HVU.out _ G9.out).ok (HVU.out _ G9.out).ok).mono ?_
            rintro e w81 ⟨Bo, rfl, hB, hg⟩
            obtain rfl : Bo = true := hB.2 (within_self HVB.out)
            replace HS := Lib.hid (HS.out.step hg)
            clear hB hg x0 x1
            go_wp2_with fail
            go_ret
            exact ⟨rfl, HS.out.below⟩
  · go_enter Try.func11, Try.ntmps11
    go_wp2_with fail
    refine (awake13_any _).mono ?_
    rintro e w1 ⟨rfl, hg⟩
    have HG := Lib.hid hg
    clear hg
    go_wp2_with fail
    refine (few_any _ _ _ _).mono ?_
    rintro e w2 ⟨rfl, rfl⟩
    rw [decide_eq_false (by omega)]
    go_wp2_with fail
    refine (awake13_any _).mono ?_
    rintro e w3 ⟨rfl, hg⟩
    have HG := Lib.hid (grown_trans HG.out hg)
    clear hg
    go_wp2_with fail
    go_ret
    exact ⟨rfl, below_of HG.out⟩

/-! ### SemilinearWithin: the statement, from its walk -/
set_option maxRecDepth 100000 in
theorem liftedSemilinearWithin (os : Os) (started : os.Started) (H : Type) (enc : TypeId × Value → H) :
    ReturnsInHanded {} Try.checked os 11 .any (Rows.semilinearWithinSpec.pre6 enc Try.prog Try.f11 Rows.semilinearWithinRow.domain false) (Rows.semilinearWithinSpec.post enc Try.prog Try.f11 false true false false) := by
  refine returnsInHanded_of_change (C := Try.checked) own started (by kernel_rfl) Try.func11
    (ChangeSpec.witness6 (enc := enc) (C := Try.checked) false ⟨#[], #[.slice none 0 0], []⟩ 8 (by kernel_rfl) (by kernel_rfl) (by kernel_rfl) (by kernel_rfl)) ?_
  intro W base args ds gs before hval0 hW hcnd _
  have hval : ∀ (j : Nat) t v, Try.f11.params[j]? = some t → args[j]? = some v → Value.okWide Try.prog W .any base t v := hval0
  have hW' := hW
  obtain ⟨p, q, hA0, hV, rfl, hfz, hnd⟩ := hW
  have hA : DataW.TrodAll enc Try.prog W 0 (fun _ => true) true Try.f11.params.toList args.toList ds p := hA0
  rw [Try.params11] at hA hval
  obtain ⟨v0, vs0, d0, ds0, p0, q0, hargs, rfl, rfl, h0, r0⟩ := trodAll_cons hA
  obtain ⟨rfl, rfl, rfl⟩ := trodAll_nil r0
  obtain rfl : args = #[v0] := by cases args; simp_all
  obtain ⟨rfl, rfl⟩ := trodVars_none hV
  obtain ⟨a0, len0, cap0, rfl⟩ := okWide_slice Try.underlying22 (hval 0 22 v0 rfl rfl)
  have k0 := h0
  have lt0 : ∀ x ∈ p0, x.block < W.heap.size := by obtain ⟨m, hm⟩ := k0; exact DataW.trod_lt m _ _ _ hm
  obtain ⟨z0, w0⟩ : ∃ zs, IsRow .i64 W a0 len0 cap0 zs := by
    obtain ⟨fuel, hf⟩ := h0
    rcases open_ints Try.underlying22 Try.underlying3 (by kernel_rfl) hf with ⟨hcs, _⟩ | ⟨x, l, c, zs, hcs, _, hl, hm, hz, _, hcell, hwz⟩
    · simp [Value.cells] at hcs
      obtain ⟨rfl, rfl, rfl⟩ := hcs
      exact ⟨[], .inl ⟨rfl, rfl, rfl, rfl⟩⟩
    · simp [Value.cells] at hcs
      obtain ⟨rfl, rfl, rfl⟩ := hcs
      exact ⟨zs, .inr ⟨_, rfl, hl, hm, by simpa using hz, hcell, hwz⟩⟩
  clear hA0 hval0
  refine (walkSemilinearWithin a0 len0 cap0 z0 W w0).mono fun e W' ⟨he, bel⟩ => ?_
  subst he
  exact ⟨_, rfl, _, _, _, [], _, [], hW', trodAll_mk1 (shut_bool Try.underlying4 _), (trodAll_cons_mk (Below.trod laidOut (by kernel_rfl) (of_decide_eq_true (by kernel_rfl)) k0 bel lt0) trodAll_mk0), rfl, bel.frame _, fun h => by cases h⟩

theorem semilinearWithin_holds : Rows.SemilinearWithinSaid :=
  OpenClaim.holds_of_wide 11 Try.f11 rfl rfl rfl rfl rfl rfl rfl ⟨rfl, rfl, rfl, rfl, rfl⟩ rfl rfl rfl rfl rfl (by kernel_rfl) Try.func11 (by kernel_rfl)
    (of_decide_eq_true (by kernel_rfl)) (by unfold Func.isWrapper; first | (rw [if_pos (by decide +kernel)]; kernel_rfl) | (rw [if_neg (by decide +kernel)]; exact ⟨rfl, rfl⟩))
    (fun os started H enc _ => liftedSemilinearWithin os started H enc)
#print axioms semilinearWithin_holds
end Go.Proofs.Ytgdnlibklopdiaa
