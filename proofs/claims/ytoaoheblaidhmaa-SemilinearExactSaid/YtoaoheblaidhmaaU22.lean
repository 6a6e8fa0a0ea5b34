/- Texts Ts in one. -/
import Derived.Test.YtoaoheblaidhmaaU21
import Derived.Deep.RegionHeld3
namespace Go.Proofs.Ytoaoheblaidhmaa
open Go.RowKit
set_option linter.unusedVariables false

theorem three_any (w : World) (x1 y1 x2 y2 x3 y3 : Value) (e : TypeId) :
    (((w.alloc (.cells #[x1, y1] e)).alloc (.cells #[x2, y2] e)).alloc (.cells #[x3, y3] e)).heap[w.heap.size]? = some (.cells #[x1, y1] e (0, 0)) ∧
    (((w.alloc (.cells #[x1, y1] e)).alloc (.cells #[x2, y2] e)).alloc (.cells #[x3, y3] e)).heap[w.heap.size + 1]? = some (.cells #[x2, y2] e (0, 0)) ∧
    (((w.alloc (.cells #[x1, y1] e)).alloc (.cells #[x2, y2] e)).alloc (.cells #[x3, y3] e)).heap[w.heap.size + 1 + 1]? = some (.cells #[x3, y3] e (0, 0)) :=
  ⟨heap_old _ (heap_old _ (heap_new _ rfl)), heap_old _ (heap_new _ (by show _ = (w.heap.push _).size; simp)), heap_new _ (by show _ = ((w.heap.push _).push _).size; simp)⟩
/-- What Sum returns. -/
def SumsTo (b : List Int) (ps : List (List Int)) (w : World) (e : Ending) (w' : World) : Prop := (ps.length ≤ 3 ∧ GotS b ps w e w') ∨ (3 < ps.length ∧ GotX w e w')

set_option maxRecDepth 100000 in
set_option maxHeartbeats 3000000 in
theorem Sum_any (n : Nat) (u1 u2 : SetE) (w : World) (h1 : SetOk w n u1) (h2 : SetOk w n u2) (hs16 : ∀ x ∈ sumL u1.2.1 u2.2.1, x ≤ 16) :
    Calls Try.prog 27 #[.int .i64 (n : Int), .agg #[u1.1.1, u1.1.2], .agg #[u2.1.1, u2.1.2]] w (SumsTo (sumL u1.2.1 u2.2.1) (ascL (u1.2.2 ++ u2.2.2)) w) := by
  obtain ⟨⟨x1, y1⟩, b, ps⟩ := u1
  obtain ⟨⟨x2, y2⟩, c, ps2⟩ := u2
  dsimp only at hs16 ⊢
  have H1 := Lib.hid h1; have H2 := Lib.hid h2; have HS16 := Lib.hid hs16
  have hn1 := h1.2.1
  have hn4 := h1.2.2.1
  dsimp only [SetOk] at h1 h2
  obtain ⟨⟨vb, vp, qs, he, hrb, hrp, hgp, rfl⟩, hval⟩ := h1
  obtain ⟨⟨vb', vp', rs, he', hrb', hrp', hgp', rfl⟩, hval'⟩ := h2
  simp only [Value.agg.injEq, Array.mk.injEq, List.cons.injEq, and_true] at he he'
  obtain ⟨rfl, rfl⟩ := he
  obtain ⟨rfl, rfl⟩ := he'
  have HRB := Lib.hid hrb; have HRP := Lib.hid hrp; have HV := Lib.hid hval; have HRB2 := Lib.hid hrb'; have HRP2 := Lib.hid hrp'; have HV2 := Lib.hid hval'
  obtain ⟨⟨ab, cb, hvb, -, -, -⟩, -, -⟩ := hrb
  obtain ⟨ap, cp, hvp, -, -, -⟩ := hrp
  obtain ⟨⟨ac, cc, hvc, -, -, -⟩, -, -⟩ := hrb'
  obtain ⟨aq, cq, hvq, -, -, -⟩ := hrp'
  dsimp only at hvb hvc
  subst hvb hvp hvc hvq
  clear hval hgp hval' hgp' hs16
  have hq3 : qs.length ≤ 3 := by have := HV.out.2.2.2.2.2.1; rwa [List.length_map] at this
  have hr3 : rs.length ≤ 3 := by have := HV2.out.2.2.2.2.2.1; rwa [List.length_map] at this
  go_enter Try.func27, Try.ntmps27
  go_wp2_with fail
  obtain ⟨k1, k2, k3⟩ := three_any w (.slice ab b.length cb) (.slice ap qs.length cp) (.slice ac c.length cc) (.slice aq rs.length cq) (.slice none 0 0) (.slice none 0 0) 26
  have hg3 : w.grownBy (((w.alloc (.cells #[.slice ab b.length cb, .slice ap qs.length cp] 26)).alloc (.cells #[.slice ac c.length cc, .slice aq rs.length cq] 26)).alloc (.cells #[.slice none 0 0, .slice none 0 0] 26)) none := grown_after (grown_after (grown_after (grown_refl _ _)))
  generalize (((w.alloc (.cells #[.slice ab b.length cb, .slice ap qs.length cp] 26)).alloc (.cells #[.slice ac c.length cc, .slice aq rs.length cq] 26)).alloc (.cells #[.slice none 0 0, .slice none 0 0] 26)) = W3 at *
  have G3 := Lib.hid hg3; have K0 := Lib.hid (cells_of k1); have K1 := Lib.hid (cells_of k2); have K2 := Lib.hid k3
  have hb3 : w.heap.size + 1 + 1 < W3.heap.size := (Array.getElem?_eq_some_iff.1 k3).1
  clear k1 k2 k3 hg3
  have hnn : ∀ g : Nat, some g ≠ (none : Option Nat) := by intro g; simp
  have GX : Hid (W3.grownBy W3.drew none) := Lib.hid (grown_drew _ none)
  go_region_held3 (fun w' => w'.cell? ⟨w.heap.size, 0, none⟩ = some (.slice ab b.length cb) ∧ w'.cell? ⟨w.heap.size, 1, none⟩ = some (.slice ap qs.length cp) ∧ w'.cell? ⟨w.heap.size + 1, 0, none⟩ = some (.slice ac c.length cc) ∧ w'.cell? ⟨w.heap.size + 1, 1, none⟩ = some (.slice aq rs.length cq)) (first | exact ⟨GX.out.cell K0.out.1 (hnn _), GX.out.cell K0.out.2 (hnn _), GX.out.cell K1.out.1 (hnn _), GX.out.cell K1.out.2 (hnn _)⟩ | exact ⟨(grown_after GX.out).cell K0.out.1 (hnn _), (grown_after GX.out).cell K0.out.2 (hnn _), (grown_after GX.out).cell K1.out.1 (hnn _), (grown_after GX.out).cell K1.out.2 (hnn _)⟩ | exact ⟨(grown_after (grown_after GX.out)).cell K0.out.1 (hnn _), (grown_after (grown_after GX.out)).cell K0.out.2 (hnn _), (grown_after (grown_after GX.out)).cell K1.out.1 (hnn _), (grown_after (grown_after GX.out)).cell K1.out.2 (hnn _)⟩ | exact ⟨GY.out.cell K0.out.1 (hnn _), GY.out.cell K0.out.2 (hnn _), GY.out.cell K1.out.1 (hnn _), GY.out.cell K1.out.2 (hnn _)⟩ | exact ⟨(grown_after GY.out).cell K0.out.1 (hnn _), (grown_after GY.out).cell K0.out.2 (hnn _), (grown_after GY.out).cell K1.out.1 (hnn _), (grown_after GY.out).cell K1.out.2 (hnn _)⟩) (first
    | (go_at_call 14; (with_reducible change Calls _ _ #[_, .slice (some ⟨W3.heap.size, 0, none⟩) 1 1] ((W3.alloc (.cells #[.slice ab b.length cb, .slice ap qs.length cp] 26)).drew) _); refine (check_any n hn1 hn4 [(.slice ab b.length cb, .slice ap qs.length cp)] (W3.heap.size) 0 1 _ ((show CellsS (W3.alloc (.cells #[.slice ab b.length cb, .slice ap qs.length cp] 26)) (W3.heap.size) 0 [(.slice ab b.length cb, .slice ap qs.length cp)] from cells_one (heap_new _ rfl)).same (grown_drew _ none)) (by intro u hu; rw [List.mem_singleton.1 hu]; exact ⟨_, _, (H1.out.same (grown_trans G3.out (grown_trans (grown_after (grown_refl W3 none)) (grown_drew _ none)))).1, H1.out.2⟩) (by simp)).mono ?_; rintro e w13 ⟨rfl, hg⟩; have HG13 := Lib.hid hg; replace GX : Hid (W3.grownBy w13 none) := Lib.hid (grown_trans (grown_trans (grown_after (grown_refl W3 none)) (grown_drew _ none)) hg); clear hg)
    | (go_at_call 14; (with_reducible change Calls _ _ #[_, .slice (some ⟨W3.heap.size, 0, none⟩) 1 1] (((W3.alloc (.cells #[.slice ab b.length cb, .slice ap qs.length cp] 26)).alloc (.cells #[.slice ac c.length cc, .slice aq rs.length cq] 26)).drew) _); refine (check_any n hn1 hn4 [(.slice ab b.length cb, .slice ap qs.length cp)] (W3.heap.size) 0 1 _ ((show CellsS ((W3.alloc (.cells #[.slice ab b.length cb, .slice ap qs.length cp] 26)).alloc (.cells #[.slice ac c.length cc, .slice aq rs.length cq] 26)) (W3.heap.size) 0 [(.slice ab b.length cb, .slice ap qs.length cp)] from cells_one (heap_old _ (heap_new _ rfl))).same (grown_drew _ none)) (by intro u hu; rw [List.mem_singleton.1 hu]; exact ⟨_, _, (H1.out.same (grown_trans G3.out (grown_trans (grown_after (grown_after (grown_refl W3 none))) (grown_drew _ none)))).1, H1.out.2⟩) (by simp)).mono ?_; rintro e w13 ⟨rfl, hg⟩; have HG13 := Lib.hid hg; replace GX : Hid (W3.grownBy w13 none) := Lib.hid (grown_trans (grown_trans (grown_after (grown_after (grown_refl W3 none))) (grown_drew _ none)) hg); clear hg)
    | (go_at_call 14; (with_reducible change Calls _ _ #[_, .slice (some ⟨W3.heap.size + 1, 0, none⟩) 1 1] (((W3.alloc (.cells #[.slice ac c.length cc, .slice aq rs.length cq] 26)).alloc (.cells #[.slice ab b.length cb, .slice ap qs.length cp] 26)).drew) _); refine (check_any n hn1 hn4 [(.slice ab b.length cb, .slice ap qs.length cp)] (W3.heap.size + 1) 0 1 _ ((show CellsS ((W3.alloc (.cells #[.slice ac c.length cc, .slice aq rs.length cq] 26)).alloc (.cells #[.slice ab b.length cb, .slice ap qs.length cp] 26)) (W3.heap.size + 1) 0 [(.slice ab b.length cb, .slice ap qs.length cp)] from cells_one (heap_new _ (by show _ = (W3.heap.push _).size; simp))).same (grown_drew _ none)) (by intro u hu; rw [List.mem_singleton.1 hu]; exact ⟨_, _, (H1.out.same (grown_trans G3.out (grown_trans (grown_after (grown_after (grown_refl W3 none))) (grown_drew _ none)))).1, H1.out.2⟩) (by simp)).mono ?_; rintro e w13 ⟨rfl, hg⟩; have HG13 := Lib.hid hg; replace GX : Hid (W3.grownBy w13 none) := Lib.hid (grown_trans (grown_trans (grown_after (grown_after (grown_refl W3 none))) (grown_drew _ none)) hg); clear hg)
    | (go_at_call 14; (with_reducible change Calls _ _ #[_, .slice (some ⟨w13.heap.size, 0, none⟩) 1 1] (w13.alloc (.cells #[.slice ac c.length cc, .slice aq rs.length cq] 26)) _); refine (check_any n hn1 hn4 [(.slice ac c.length cc, .slice aq rs.length cq)] (w13.heap.size) 0 1 _ (show CellsS (w13.alloc (.cells #[.slice ac c.length cc, .slice aq rs.length cq] 26)) (w13.heap.size) 0 [(.slice ac c.length cc, .slice aq rs.length cq)] from cells_one (heap_new _ rfl)) (by intro u hu; rw [List.mem_singleton.1 hu]; exact ⟨_, _, (H2.out.same (grown_trans G3.out (grown_after GX.out))).1, H2.out.2⟩) (by simp)).mono ?_; rintro e w17 ⟨rfl, hg⟩; have GY : Hid (W3.grownBy w17 none) := Lib.hid (grown_trans (grown_after GX.out) hg); clear hg)
    | (go_at_call 14; (with_reducible change Calls _ _ #[_, .slice (some ⟨W3.heap.size + 1, 0, none⟩) 1 1] (w13) _); refine (check_any n hn1 hn4 [(.slice ac c.length cc, .slice aq rs.length cq)] (W3.heap.size + 1) 0 1 _ (((show CellsS ((W3.alloc (.cells #[.slice ab b.length cb, .slice ap qs.length cp] 26)).alloc (.cells #[.slice ac c.length cc, .slice aq rs.length cq] 26)) (W3.heap.size + 1) 0 [(.slice ac c.length cc, .slice aq rs.length cq)] from cells_one (heap_new _ (by show _ = (W3.heap.push _).size; simp))).same (grown_drew _ none)).same HG13.out) (by intro u hu; rw [List.mem_singleton.1 hu]; exact ⟨_, _, (H2.out.same (grown_trans G3.out (GX.out))).1, H2.out.2⟩) (by simp)).mono ?_; rintro e w17 ⟨rfl, hg⟩; have GY : Hid (W3.grownBy w17 none) := Lib.hid (grown_trans (GX.out) hg); clear hg)
    | (go_at_call 14; (with_reducible change Calls _ _ #[_, .slice (some ⟨W3.heap.size, 0, none⟩) 1 1] (w13) _); refine (check_any n hn1 hn4 [(.slice ac c.length cc, .slice aq rs.length cq)] (W3.heap.size) 0 1 _ (((show CellsS ((W3.alloc (.cells #[.slice ac c.length cc, .slice aq rs.length cq] 26)).alloc (.cells #[.slice ab b.length cb, .slice ap qs.length cp] 26)) (W3.heap.size) 0 [(.slice ac c.length cc, .slice aq rs.length cq)] from cells_one (heap_old _ (heap_new _ rfl))).same (grown_drew _ none)).same HG13.out) (by intro u hu; rw [List.mem_singleton.1 hu]; exact ⟨_, _, (H2.out.same (grown_trans G3.out (GX.out))).1, H2.out.2⟩) (by simp)).mono ?_; rintro e w17 ⟨rfl, hg⟩; have GY : Hid (W3.grownBy w17 none) := Lib.hid (grown_trans (GX.out) hg); clear hg)
    | (go_at_call 51; refine (or_none _ _ _ (by simp) (by simp)).mono ?_; rintro e w19 ⟨rfl, hw19⟩; subst hw19))
  all_goals
    clear HG13 GX
    go_wp2_with fail
    have hcc : ((w17.alloc (.cells #[.int .i64 0, .int .i64 0] 34)).alloc (.cells #[.slice ap qs.length cp, .slice aq rs.length cq] 24)).heap[w17.heap.size + 1]? = some (.cells #[.slice ap qs.length cp, .slice aq rs.length cq] 24 (0, 0)) := heap_new _ (by show _ = (w17.heap.push _).size; simp)
    have hgg : W3.grownBy ((w17.alloc (.cells #[.int .i64 0, .int .i64 0] 34)).alloc (.cells #[.slice ap qs.length cp, .slice aq rs.length cq] 24)) none := grown_after (grown_after GY.out)
    generalize ((w17.alloc (.cells #[.int .i64 0, .int .i64 0] 34)).alloc (.cells #[.slice ap qs.length cp, .slice aq rs.length cq] 24)) = w5 at *
    have GG := Lib.hid hgg
    refine (concatR_any (w17.heap.size + 1) 2 _ _ qs rs w5 (cells_of hcc).1 (cells_of hcc).2 (HRP.out.same (grown_trans G3.out GG.out)) (HRP2.out.same (grown_trans G3.out GG.out)) (by omega) (by omega)).mono ?_
    rintro e w29 ⟨v9, rfl, ho, hg⟩
    obtain ⟨ls, hls⟩ : ∃ l, l = qs ++ rs := ⟨_, rfl⟩
    rw [← hls] at ho
    have O29 := Lib.hid ho; have G29 := Lib.hid (grown_trans GG.out hg); have B29 := Lib.hid GG.out.size
    have HLS := Lib.hid hls
    clear ho hg hcc hgg hls
    generalize w5.heap.size = b5 at *
    obtain ⟨a9, c9, rfl⟩ := O29.out.slice
    have HLN : Hid (∀ p ∈ ls, p.2.length = n) := Lib.hid (by
      rw [HLS.out]
      intro p hp
      rcases List.mem_append.1 hp with hp | hp
      · exact (HV.out.2.2.2.2.1 _ (List.mem_map_of_mem hp)).1.1
      · exact (HV2.out.2.2.2.2.1 _ (List.mem_map_of_mem hp)).1.1)
    have HL6 : Hid (ls.length ≤ 6) := Lib.hid (by rw [HLS.out]; simp; omega)
    go_wp2_with fail
    refine (sortn_any n (.slice a9 ls.length c9) ls b5 w29 O29.out (by have := HL6.out; omega) HLN.out).mono ?_
    rintro e w31 ⟨rfl, ps', hp, hs, ho, hg⟩
    have PP := Lib.hid hp; have PS := Lib.hid hs; have O31 := Lib.hid ho
    have G31 := Lib.hid (grown_then G29.out hg (fun j hj => .inl (Nat.le_trans B29.out (O29.out.fresh j hj).1)))
    have HL7 : Hid (ps'.length ≤ 6) := Lib.hid (by rw [hp.length_eq]; exact HL6.out)
    clear hp hs ho hg
    go_wp2_with fail
    refine (compact_any (.slice a9 ls.length c9) ps' b5 w31 O31.out (by have := HL7.out; omega)).mono ?_
    rintro e w33 ⟨v33, rfl, ho, hg, hv⟩
    have O33 := Lib.hid ho
    have G33 := Lib.hid (grown_then G31.out hg (fun j hj => .inl (Nat.le_trans B29.out (O31.out.fresh j hj).1)))
    have HASC : Hid ((cpt ps' ps'.length).map Prod.snd = ascL (qs.map Prod.snd ++ rs.map Prod.snd)) := Lib.hid (by
      obtain ⟨h1, h2⟩ := cpt_asc ps' PS.out ps'.length (Nat.le_refl _)
      refine asc_unique _ _ h1 (ascL_asc _) fun x => ?_
      rw [h2 x, ascL_mem, List.take_length, ← List.map_append, ← HLS.out]
      exact (PP.out.map Prod.snd).mem_iff)
    have HCL : Hid (∀ q ∈ cpt ps' ps'.length, q.2.length = n) := Lib.hid (fun q hq => HLN.out q (PP.out.mem_iff.1 (cpt_mem ps' _ (Nat.le_refl _) q hq)))
    clear ho hg hv
    generalize cpt ps' ps'.length = zs at *
    obtain ⟨a33, c33, rfl⟩ := O33.out.slice
    have HAL : Hid ((ascL (qs.map Prod.snd ++ rs.map Prod.snd)).length = zs.length) := Lib.hid (by rw [← HASC.out, List.length_map])
    have x0 := G33.out.cell K0.out.1 (hnn _); have z0 := G33.out.cell K1.out.1 (hnn _)
    have H33 := Lib.hid ((G33.out.block _ hb3 (by simp)).trans K2.out)
    go_wp2_with fail
    refine (add_any _ _ b c _ (HRB.out.same (grown_trans G3.out G33.out)) (HRB2.out.same (grown_trans G3.out G33.out)) (by rw [HV.out.2.2.1, HV2.out.2.2.1]) (by rw [HV.out.2.2.1]; omega) (fun x hx => by have := HV.out.2.2.2.1 x hx; omega) (fun x hx => by have := HV2.out.2.2.2.1 x hx; omega)).mono ?_
    rintro e w38 ⟨v38, rfl, ho, hg⟩
    obtain ⟨a38, c38, rfl⟩ := ownI_open ho
    have R38 := Lib.hid (ho.row (fun x hx => by have := HS16.out x hx; have := sumL_lo (fun x hx => (HV.out.2.2.2.1 x hx).1) (fun x hx => (HV2.out.2.2.2.1 x hx).1) x hx; omega))
    have F38 : Hid (∀ g, (Value.slice a38 (sumL b c).length c38).ownBlock = some g → W3.heap.size ≤ g) := Lib.hid (fun g h => Nat.le_trans G33.out.size (ho.fresh g h).1)
    have G38 := Lib.hid (grown_trans G33.out hg)
    have Q38 := Lib.hid (O33.out.rows.same hg)
    have H38 := Lib.hid (box_none H33.out hg)
    have hlt38 : w.heap.size + 1 + 1 < w38.heap.size := (Array.getElem?_eq_some_iff.1 H38.out).1
    clear ho hg x0 z0
    have hsl1 : 1 ≤ (sumL b c).length := by rw [sumL_len HV.out.2.2.1 HV2.out.2.2.1]; exact hn1
    by_cases hz : zs.length ≤ 3
    · go_wp2_with fail
      refine (limited_any _ _ (sumL b c) zs _ R38.out Q38.out hsl1 HS16.out hz (fun q hq => by have := HCL.out q hq; omega)).mono ?_
      rintro e w40 ⟨v40, q40, rfl, hr, hgd, hm, hg, hnw⟩
      have R40 := Lib.hid hr; have GD40 := Lib.hid hgd; have M40 := Lib.hid hm; have N40 := Lib.hid hnw
      replace R38 := Lib.hid (R38.out.same hg)
      have G40 := Lib.hid (grown_trans G38.out hg)
      obtain ⟨a40, c40, rfl, -, -, -⟩ := hr
      obtain ⟨p1, p2, p3, p4, p5⟩ := put_set (x := .slice a38 (sumL b c).length c38) (y := .slice a40 q40.length c40) (box_none H38.out hg)
      have P1 := Lib.hid p1
      clear hgd hm hg hnw p1
      go_wp2_with fail
      clear p2 p3 p4 p5
      have GW := Lib.hid (set_two1 (w.heap.size + 1 + 1) w40 (.slice a38 (sumL b c).length c38) (.slice a40 q40.length c40))
      generalize ((w40.setCell ⟨w.heap.size + 1 + 1, 0, none⟩ (.slice a38 (sumL b c).length c38)).setCell ⟨w.heap.size + 1 + 1, 1, none⟩ (.slice a40 q40.length c40)) = W at *
      refine bodyPost_ret (results_set2 rfl _ _ (w.heap.size + 1 + 1) _ _ _ _ rfl P1.out Try.underlying26 (by kernel_rfl)) rfl ?_
      exact .inl ⟨by rw [HAL.out]; exact hz, _, _, q40, rfl, R38.out.kept GW.out (fun k hk e => by cases hk; have := F38.out _ e; omega), R40.out.keptR GW.out (fun k hk e => by cases hk; have := N40.out.1 _ e; omega) (fun p hp k hk e => by cases hk; have := N40.out.2 p hp _ e; omega), GD40.out, by rw [M40.out]; exact HASC.out, grown_then (grown_trans G3.out G40.out) GW.out (by rintro j ⟨⟩; exact .inl (by omega)), fun g h => by have := F38.out g h; omega, fun g h => by have := N40.out.1 g h; omega, fun q hq g h => by have := N40.out.2 q hq g h; omega⟩
    · have hz' : 3 < zs.length := by omega
      go_wp2_with fail
      refine (limited_long _ _ (sumL b c) zs _ R38.out Q38.out hsl1 HS16.out hz').mono ?_
      rintro e w40 ⟨rfl, hg⟩
      have G40 := Lib.hid (grown_trans G38.out hg)
      obtain ⟨p1, p2, p3, p4, p5⟩ := put_set (x := .slice none 0 0) (y := .slice none 0 0) (box_none H38.out hg)
      have P1 := Lib.hid p1
      clear hg p1
      go_wp2_with fail
      clear p2 p3 p4 p5
      have GW := Lib.hid (set_two1 (w.heap.size + 1 + 1) w40 (.slice none 0 0) (.slice none 0 0))
      generalize ((w40.setCell ⟨w.heap.size + 1 + 1, 0, none⟩ (.slice none 0 0)).setCell ⟨w.heap.size + 1 + 1, 1, none⟩ (.slice none 0 0)) = W at *
      refine bodyPost_ret (results_set2 rfl _ _ (w.heap.size + 1 + 1) _ _ _ _ rfl P1.out Try.underlying26 (by kernel_rfl)) rfl ?_
      exact .inr ⟨by rw [HAL.out]; exact hz', rfl, grown_then (grown_trans G3.out G40.out) GW.out (by rintro j ⟨⟩; exact .inl (by omega))⟩

end Go.Proofs.Ytoaoheblaidhmaa
