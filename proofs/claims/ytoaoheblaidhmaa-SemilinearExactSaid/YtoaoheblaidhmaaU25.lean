/- Texts Vr, Vs in one. -/
import Derived.Test.YtoaoheblaidhmaaU24
import Derived.BigRegion
namespace Go.Proofs.Ytoaoheblaidhmaa
open Go.RowKit
set_option linter.unusedVariables false

theorem ascL_app {P Q : List (List Int)} (h : Asc P) : ascL (P ++ Q) = Q.foldl putL P := by
  have hp : ascL P = P := asc_unique _ _ (ascL_asc P) h (fun x => ascL_mem P x)
  unfold ascL at hp ⊢
  rw [List.foldl_append, hp]
theorem fold_step (P : List (List Int)) (rs : List Row) (k : Nat) (h : k < rs.length) : ((rs.take (k + 1)).map Prod.snd).foldl putL P = putL (((rs.take k).map Prod.snd).foldl putL P) (rs[k]).2 := by
  rw [snd_take rs k h, List.foldl_append]; rfl
def RowsG (D : Nat → Prop) (w : World) (v : Value) (os : List Row) : Prop := RowsP w v os ∧ Good v ∧ AllB D v os
theorem RowsG.slice {D : Nat → Prop} {w : World} {v : Value} {os : List Row} (h : RowsG D w v os) : ∃ a c, v = .slice a os.length c := by
  obtain ⟨⟨a, c, rfl, -⟩, -⟩ := h; exact ⟨a, c, rfl⟩
set_option maxRecDepth 100000 in
set_option maxHeartbeats 1500000 in
theorem rSum_is {n : Int} {sv1 sv2 : Value} {b c : List Int} {qs rs : List Row} {w : World} (h1 : LinX w sv1 b qs) (hq1 : qs.length ≤ 20) (h2 : LinX w sv2 c rs) (hq2 : rs.length ≤ 20) :
    Calls Try.prog 28 #[.int .i64 n, sv1, sv2] w (SumTo n b qs c rs w) := by
  have H1 := Lib.hid h1; have H2 := Lib.hid h2
  obtain ⟨vb, vp, rfl, hrb, ⟨ap, cp, rfl, -⟩, -⟩ := h1
  obtain ⟨vb', vp', rfl, hrb', hp0', -⟩ := h2
  have HP0' := Lib.hid hp0'; have HRB' := Lib.hid hrb'
  obtain ⟨aq, cq, rfl, -⟩ := hp0'
  obtain ⟨⟨ab, cb, hvb, -, -, -⟩, -, -⟩ := hrb
  obtain ⟨⟨ac, cc, hvc, -, -, -⟩, -, -⟩ := hrb'
  dsimp only at hvb hvc
  subst hvb hvc
  go_enter Try.func28, Try.ntmps28
  go_wp2_with fail
  obtain ⟨k1, k2, k3⟩ := three_any w (.slice ab b.length cb) (.slice ap qs.length cp) (.slice ac c.length cc) (.slice aq rs.length cq) (.slice none 0 0) (.slice none 0 0) 26
  have hg3 : w.grownBy (((w.alloc (.cells #[.slice ab b.length cb, .slice ap qs.length cp] 26)).alloc (.cells #[.slice ac c.length cc, .slice aq rs.length cq] 26)).alloc (.cells #[.slice none 0 0, .slice none 0 0] 26)) none := grown_after (grown_after (grown_after (grown_refl _ _)))
  have hg4 : w.grownBy ((((w.alloc (.cells #[.slice ab b.length cb, .slice ap qs.length cp] 26)).alloc (.cells #[.slice ac c.length cc, .slice aq rs.length cq] 26)).alloc (.cells #[.slice none 0 0, .slice none 0 0] 26)).alloc (.cells #[.slice ab b.length cb, .slice ap qs.length cp] 26)) none := grown_after hg3
  have hka : ((((w.alloc (.cells #[.slice ab b.length cb, .slice ap qs.length cp] 26)).alloc (.cells #[.slice ac c.length cc, .slice aq rs.length cq] 26)).alloc (.cells #[.slice none 0 0, .slice none 0 0] 26)).alloc (.cells #[.slice ab b.length cb, .slice ap qs.length cp] 26)).heap[w.heap.size + 1 + 1 + 1]? = some (.cells #[.slice ab b.length cb, .slice ap qs.length cp] 26 (0, 0)) := heap_new _ (by show _ = (((w.heap.push _).push _).push _).size; simp)
  replace k1 := heap_old (o := (.cells #[.slice ab b.length cb, .slice ap qs.length cp] 26)) k1; replace k2 := heap_old (o := (.cells #[.slice ab b.length cb, .slice ap qs.length cp] 26)) k2; replace k3 := heap_old (o := (.cells #[.slice ab b.length cb, .slice ap qs.length cp] 26)) k3
  clear hg3
  generalize ((((w.alloc (.cells #[.slice ab b.length cb, .slice ap qs.length cp] 26)).alloc (.cells #[.slice ac c.length cc, .slice aq rs.length cq] 26)).alloc (.cells #[.slice none 0 0, .slice none 0 0] 26)).alloc (.cells #[.slice ab b.length cb, .slice ap qs.length cp] 26)) = W3 at *
  refine (rcheck13_is n _ _ _ (setsX_one hka (H1.out.same hg4) hq1)).mono ?_
  rintro e w2 ⟨err, rfl, hf, hg2⟩
  have HF := Lib.hid (checkF_val (x' := .slice none 0 0) (y' := .slice none 0 0) hf)
  have G2 := Lib.hid (grown_trans hg4 hg2)
  have K1 := Lib.hid (box_none k1 hg2); have K2 := Lib.hid (box_none k2 hg2); have K3 := Lib.hid (box_none k3 hg2)
  have HS2 : Hid (w.heap.size + 1 + 1 < w2.heap.size) := Lib.hid (Array.getElem?_eq_some_iff.1 K3.out).1
  clear k1 k2 k3 hg4 hka hg2 hf
  have GW : Hid (∀ w' x y, w.grownBy w' none → w.grownBy ((w'.setCell ⟨w.heap.size + 1 + 1, 0, none⟩ x).setCell ⟨w.heap.size + 1 + 1, 1, none⟩ y) none) := Lib.hid (fun w' x y hg => grown_then hg (set_two1 (w.heap.size + 1 + 1) w' _ _) (by rintro j ⟨⟩; exact .inl (by show w.heap.size ≤ w.heap.size + 1 + 1; omega)))
  by_cases he : err = 0
  case neg =>
    have q1 : (err != 0) = true := by simpa using he
    obtain ⟨p1, p2, p3, p4, p5⟩ := put_set (x := .slice none 0 0) (y := .slice none 0 0) K3.out
    have P1 := Lib.hid p1; have HE := Lib.hid he
    clear p1 he
    go_wp2_with fail
    refine bodyPost_ret (results_set2 rfl _ _ (w.heap.size + 1 + 1) _ _ _ _ rfl P1.out Try.underlying26 (by kernel_rfl)) rfl ?_
    exact ⟨_, _, _, .bad1 err HF.out HE.out, moveU_nil (GW.out _ _ _ G2.out)⟩
  subst he
  have b0 := (cells_of K2.out).1; have b1 := (cells_of K2.out).2
  go_wp2_with fail
  have hga : w2.grownBy (w2.alloc (.cells #[.slice ac c.length cc, .slice aq rs.length cq] 26)) none := World.grownBy_alloc w2 _ none
  have hka : (w2.alloc (.cells #[.slice ac c.length cc, .slice aq rs.length cq] 26)).heap[w2.heap.size]? = some (.cells #[.slice ac c.length cc, .slice aq rs.length cq] 26 (0, 0)) := heap_new _ rfl
  refine (rcheck13_is n _ _ _ (setsX_one hka (H2.out.same (grown_trans G2.out hga)) hq2)).mono ?_
  rintro e w4 ⟨err, rfl, hf, hg2⟩
  have HF2 := Lib.hid (checkF_val (x' := .slice none 0 0) (y' := .slice none 0 0) hf)
  have hgx := grown_trans hga hg2
  replace G2 := Lib.hid (grown_trans G2.out hgx)
  replace K1 := Lib.hid (box_none K1.out hgx); replace K2 := Lib.hid (box_none K2.out hgx); replace K3 := Lib.hid (box_none K3.out hgx)
  replace HS2 : Hid (w.heap.size + 1 + 1 < w4.heap.size) := Lib.hid (Array.getElem?_eq_some_iff.1 K3.out).1
  clear hga hka hg2 hgx hf b0 b1
  by_cases he : err = 0
  case neg =>
    have q1 : (err != 0) = true := by simpa using he
    obtain ⟨p1, p2, p3, p4, p5⟩ := put_set (x := .slice none 0 0) (y := .slice none 0 0) K3.out
    have P1 := Lib.hid p1; have HE := Lib.hid he
    clear p1 he
    go_wp2_with fail
    refine bodyPost_ret (results_set2 rfl _ _ (w.heap.size + 1 + 1) _ _ _ _ rfl P1.out Try.underlying26 (by kernel_rfl)) rfl ?_
    exact ⟨_, _, _, .bad2 err HF.out HF2.out HE.out, moveU_nil (GW.out _ _ _ G2.out)⟩
  subst he
  obtain ⟨N, rfl, hn1, hn4, hval⟩ := checkF_zero HF.out
  have HV := Lib.hid hval
  have HV2 : Hid (ValidS N c (rs.map Prod.snd)) := Lib.hid (by
    obtain ⟨M, e, -, -, h⟩ := checkF_zero HF2.out
    have : M = N := by omega
    rw [← this]; exact h)
  have HLIN : Hid (LinV w4 (.agg #[.slice ab b.length cb, .slice ap qs.length cp]) b (qs.map Prod.snd)) := Lib.hid ((H1.out.lin (by rw [HV.out.2.2.1]; exact hn1) (fun p hp => by rw [(HV.out.2.2.2.2.1 _ (List.mem_map_of_mem hp)).1.1]; exact hn1)).same G2.out)
  have HQ : Hid (RowsP w (.slice aq rs.length cq) rs) := Lib.hid (HP0'.out.toP1 (fun p hp => by rw [(HV2.out.2.2.2.2.1 _ (List.mem_map_of_mem hp)).1.1]; exact hn1))
  have hq13 : qs.length ≤ 3 := by have := HV.out.2.2.2.2.2.1; rwa [List.length_map] at this
  have hq23 : rs.length ≤ 3 := by have := HV2.out.2.2.2.2.2.1; rwa [List.length_map] at this
  have a0 := (cells_of K1.out).1; have a1 := (cells_of K1.out).2
  have b0 := (cells_of K2.out).1
  clear hval
  go_wp2_with fail
  refine (rmoved_any HLIN.out ((HRB'.out.same G2.out).ok (by show 1 ≤ c.length; rw [HV2.out.2.2.1]; exact hn1)) (by rw [HV2.out.2.2.1, HV.out.2.2.1]) (by rw [HV.out.2.2.1]; exact hn1) (by rw [HV.out.2.2.1]; omega) (fun r hr => by rw [(HV.out.2.2.2.2.1 r hr).1.1]; omega) (by rw [List.length_map]; omega) HV.out.2.2.2.1 HV2.out.2.2.2.1).mono ?_
  rintro e w5 ⟨hg, hm⟩
  have G5 := Lib.hid (grown_trans G2.out hg)
  replace K2 := Lib.hid (box_none K2.out hg); replace K3 := Lib.hid (box_none K3.out hg)
  have HZ5 := Lib.hid hg.size
  clear hg a0 a1 b0
  rcases hm with ⟨hs, vb2, vp2, ps, rfl, hos, hps⟩ | ⟨hs, rfl⟩
  case inr =>
    have HS := Lib.hid hs
    have G6 := Lib.hid (grown_trans G5.out (World.grownBy_alloc w5 (.cells #[.slice none 0 0, .slice none 0 0] 26) none))
    have K36 := heap_old (o := .cells #[.slice none 0 0, .slice none 0 0] 26) K3.out
    obtain ⟨p1, p2, p3, p4, p5⟩ := put_set (x := .slice none 0 0) (y := .slice none 0 0) K36
    have P1 := Lib.hid p1
    clear p1 hs K36
    go_wp2_with fail
    refine bodyPost_ret (results_set2 rfl _ _ (w.heap.size + 1 + 1) _ _ _ _ rfl P1.out Try.underlying26 (by kernel_rfl)) rfl ?_
    exact ⟨_, _, _, .lim HF.out HF2.out (fun h => by rw [HS.out] at h; cases h.1), moveU_nil (GW.out _ _ _ G6.out)⟩
  have HSM := Lib.hid hs
  obtain ⟨a2, c2, rfl⟩ := ownI_open hos.1
  obtain ⟨a3, c3, rfl⟩ := hos.2.1.slice
  have OB5 := Lib.hid hos.1; have OP5 := Lib.hid hos.2.1; have OF5 := Lib.hid hos.2.2.1; have HPS := Lib.hid hps
  clear hos hps hs
  have GA := World.grownBy_alloc w5 (.cells #[.slice a2 (sumL b c).length c2, .slice a3 ps.length c3] 26) none
  have KT : Hid ((w5.alloc (.cells #[.slice a2 (sumL b c).length c2, .slice a3 ps.length c3] 26)).heap[w5.heap.size]? = some (.cells #[.slice a2 (sumL b c).length c2, .slice a3 ps.length c3] 26 (0, 0))) := Lib.hid (heap_new _ rfl)
  have OB6 := Lib.hid (OB5.out.kept GA (by simp))
  have ORW6 := Lib.hid (OP5.out.same GA).rows
  have OGD := Lib.hid OP5.out.good
  have OAB : Hid (AllB (fun g => w4.heap.size ≤ g ∧ g ≠ w5.heap.size) (.slice a3 ps.length c3) ps) := Lib.hid ⟨fun g h => ⟨(OP5.out.fresh g h).1, by have := (OP5.out.fresh g h).2; omega⟩, fun q hq g h => ⟨OF5.out q hq g h, by have := ((OP5.out.2 q hq).1.2.2 g h); omega⟩⟩
  have G6 := Lib.hid (grown_trans G5.out GA)
  replace K2 := Lib.hid (box_none K2.out GA); replace K3 := Lib.hid (box_none K3.out GA)
  have HPL : Hid (ps.length ≤ 3) := Lib.hid (by have := congrArg List.length HPS.out; simp at this; omega)
  have HBF : Hid (∀ g, (Value.slice a2 (sumL b c).length c2).ownBlock = some g → w4.heap.size ≤ g ∧ g < w5.heap.size) := Lib.hid (fun g h => ⟨(OB5.out.fresh g h).1, (OB5.out.fresh g h).2⟩)
  clear GA OB5 OP5 OF5
  go_wp2_with fail
  generalize hwb : w5.alloc (.cells #[.slice a2 (sumL b c).length c2, .slice a3 ps.length c3] 26) = w6 at *
  clear hwb
  obtain ⟨T, hT⟩ : ∃ T, w5.heap.size = T := ⟨_, rfl⟩
  rw [hT] at KT OAB HBF HZ5 ⊢
  have HTS : Hid (T < w6.heap.size) := Lib.hid (Array.getElem?_eq_some_iff.1 KT.out).1
  clear hT
  have OG6 : Hid (RowsG (fun g => w4.heap.size ≤ g ∧ g ≠ T) w6 (.slice a3 ps.length c3) ps) := Lib.hid ⟨ORW6.out, OGD.out, OAB.out⟩
  clear ORW6 OGD OAB
  go_loopw [12] (fun i wr => ∃ (k : Nat) (vo : Value) (os : List Row), i = .int .i64 k ∧ k ≤ rs.length ∧ Hid (wr.heap[T]? = some (.cells #[.slice a2 (sumL b c).length c2, vo] 26 (0, 0))) ∧ Hid (wr.heap[w.heap.size + 1]? = some (.cells #[.slice ac c.length cc, .slice aq rs.length cq] 26 (0, 0))) ∧ Hid (wr.heap[w.heap.size + 1 + 1]? = some (.cells #[.slice none 0 0, .slice none 0 0] 26 (0, 0))) ∧ Hid (RowsG (fun g => w4.heap.size ≤ g ∧ g ≠ T) wr vo os) ∧ Hid (os.map Prod.snd = ((rs.take k).map Prod.snd).foldl putL (qs.map Prod.snd) ∧ os.length ≤ 3 + k) ∧ Hid (OwnI wr w4.heap.size (.slice a2 (sumL b c).length c2) (sumL b c)) ∧ Hid (w.grownBy wr none) ∧ Hid (w6.heap.size ≤ wr.heap.size)) (fun i _ => rs.length - (intOf i).toNat)
  case atStart => exact ⟨0, _, ps, rfl, Nat.zero_le _, KT, K2, K3, OG6, Lib.hid ⟨by simpa using HPS.out, by have := HPL.out; omega⟩, OB6, G6, Lib.hid (Nat.le_refl _)⟩
  case round =>
    clear KT K2 K3 OG6 OB6 G6
    obtain ⟨k, vo, os, rfl, hk, KT, K2, K3, HO, HOS, OB, HG, HZ⟩ := hrel
    rename World => wk
    obtain ⟨ao, co, rfl⟩ := HO.out.slice
    by_cases hlt : k < rs.length
    · have h1 : (k : Int) < (rs.length : Int) := by omega
      have i1 : IntKind.i64.wrap ((k : Int) + 1) = (k : Int) + 1 := IntWalk.i64_in _ (by omega)
      obtain ⟨_, _, hv, _, hc, hrow⟩ := HQ.out.same HG.out
      simp only [Value.slice.injEq] at hv
      obtain ⟨rfl, -, -⟩ := hv
      obtain ⟨b9, o9, rfl, hx⟩ := RowsP.at hc hlt
      have HRK := Lib.hid (hrow _ (List.getElem_mem hlt))
      have HRL : Hid ((rs[k]).2.length ≤ 1000000) := Lib.hid (by rw [(HV2.out.2.2.2.2.1 _ (List.mem_map_of_mem (List.getElem_mem hlt))).1.1]; omega)
      have HFS := Lib.hid (fold_step (qs.map Prod.snd) rs k hlt)
      clear hc hrow
      generalize rs[k] = q at *
      obtain ⟨qv, p⟩ := q
      obtain ⟨⟨ak, ck, hvk, -, -, -⟩, -, -⟩ := HRK.out
      dsimp only at hx hvk HRL HFS
      subst hvk
      have HPC := Lib.hid (put_if (fun g => w4.heap.size ≤ g ∧ g ≠ T) (.slice ao os.length co) (.slice ak p.length ck) os p wk.drew (HO.out.1.same (grown_drew _ none)) HO.out.2.1 (HRK.out.same (grown_drew _ none)) (by have := HOS.out.2; omega) HRL.out (fun g hg => by
        have h1 : wk.drew.heap.size = wk.heap.size := rfl
        have h2 := HTS.out; have h3 := HZ.out; have h4 := HZ5.out
        omega) HO.out.2.2)
      have c11 := (cells_of K2.out).2
      have cT := (cells_of KT.out).2
      have c11d : wk.drew.cell? ⟨w.heap.size + 1, 1, none⟩ = some (.slice (some ⟨b9, o9, none⟩) rs.length cq) := c11
      have cTd : wk.drew.cell? ⟨T, 1, none⟩ = some (.slice ao os.length co) := cT
      have hxd : wk.drew.cell? ⟨b9, o9 + k, none⟩ = some (.slice ak p.length ck) := hx
      go_wp2_with fail
      go_region_law (refine step_call 54 34 _ _ _ _ _ Try.f34 _ Try.func34 (by kernel_rfl) rfl [.slice ao os.length co, .slice ak p.length ck] (by kernel_rfl) _ HPC.out ?_; rintro e w54 ⟨v54, os2, rfl, hr54, hgd54, hm54, hg54, hab54⟩; have HO54 : Hid (RowsG (fun g => w4.heap.size ≤ g ∧ g ≠ T) w54 v54 os2) := Lib.hid ⟨hr54, hgd54, hab54⟩; have HM54 := Lib.hid hm54; obtain ⟨a54, c54, rfl⟩ := HO54.out.slice; have hgk := grown_trans (grown_drew wk none) hg54; have G54 := Lib.hid hgk; have k54 := box_none KT.out hgk; have KT54 := Lib.hid k54; have s1 := (cells_of k54).2; have s2 := cells_free1 k54; clear hr54 hgd54 hm54 hg54 hab54 hgk k54; refine ⟨_, rfl, ?_⟩)
      all_goals
        clear c11 cT hx c11d cTd hxd HPC
        have GSET : Hid (w54.grownBy (w54.setCell ⟨T, 1, none⟩ (.slice a54 os2.length c54)) (some T)) := Lib.hid (grown_set w54 ⟨T, 1, none⟩ (.slice a54 os2.length c54))
        have KTN : Hid ((w54.setCell ⟨T, 1, none⟩ (.slice a54 os2.length c54)).heap[T]? = some (.cells #[.slice a2 (sumL b c).length c2, (.slice a54 os2.length c54)] 26 (0, 0))) := Lib.hid (heap_set (o := 1) KT54.out (.slice a54 os2.length c54))
        have hTT : w.heap.size + 1 + 1 < T := by have := HS2.out; have := HZ5.out; omega
        have K2a := box_none K2.out G54.out
        have K3a := box_none K3.out G54.out
        have K2N : Hid ((w54.setCell ⟨T, 1, none⟩ (.slice a54 os2.length c54)).heap[w.heap.size + 1]? = some (.cells #[.slice ac c.length cc, .slice (some ⟨b9, o9, none⟩) rs.length cq] 26 (0, 0))) := Lib.hid ((GSET.out.block _ (Array.getElem?_eq_some_iff.1 K2a).1 (by simp; omega)).trans K2a)
        have K3N : Hid ((w54.setCell ⟨T, 1, none⟩ (.slice a54 os2.length c54)).heap[w.heap.size + 1 + 1]? = some (.cells #[.slice none 0 0, .slice none 0 0] 26 (0, 0))) := Lib.hid ((GSET.out.block _ (Array.getElem?_eq_some_iff.1 K3a).1 (by simp; omega)).trans K3a)
        have HON : Hid (RowsG (fun g => w4.heap.size ≤ g ∧ g ≠ T) (w54.setCell ⟨T, 1, none⟩ (.slice a54 os2.length c54)) (.slice a54 os2.length c54) os2) := Lib.hid ⟨HO54.out.1.keptR GSET.out (fun g hg e => by have h7 : T = g := Option.some.inj hg; have := (HO54.out.2.2.1 g e).2; omega) (fun q hq g hg e => by have h7 : T = g := Option.some.inj hg; have := (HO54.out.2.2.2 q hq g e).2; omega), HO54.out.2.1, HO54.out.2.2⟩
        have HOSN : Hid (os2.map Prod.snd = ((rs.take (k + 1)).map Prod.snd).foldl putL (qs.map Prod.snd) ∧ os2.length ≤ 3 + (k + 1)) := Lib.hid ⟨by rw [HM54.out, HOS.out.1, HFS.out], by
          have h5 := congrArg List.length HM54.out
          have h6 := putL_len p (os.map Prod.snd)
          have h7 := HOS.out.2
          simp at h5 h6
          omega⟩
        have OBN : Hid (OwnI (w54.setCell ⟨T, 1, none⟩ (.slice a54 os2.length c54)) w4.heap.size (.slice a2 (sumL b c).length c2) (sumL b c)) := Lib.hid ((OB.out.kept G54.out (by simp)).keptB1 GSET.out (fun g hg e => by have h7 : T = g := Option.some.inj hg; have := (HBF.out g e).2; omega))
        have HGN : Hid (w.grownBy (w54.setCell ⟨T, 1, none⟩ (.slice a54 os2.length c54)) none) := Lib.hid (grown_then (grown_trans HG.out G54.out) GSET.out (fun g hg => by have h7 : T = g := Option.some.inj hg; exact .inl (by omega)))
        have HZN : Hid (w6.heap.size ≤ (w54.setCell ⟨T, 1, none⟩ (.slice a54 os2.length c54)).heap.size) := Lib.hid (Nat.le_trans HZ.out (Nat.le_trans G54.out.size GSET.out.size))
        clear hTT K2a K3a
        go_wp2_with fail
        go_roundw
        case rel => exact ⟨k + 1, (.slice a54 os2.length c54), _, by go_num, by omega, KTN, K2N, K3N, HON, HOSN, OBN, HGN, HZN⟩
        case measure => (simp [intOf]; try omega)
    · obtain rfl : k = rs.length := by omega
      have h1 : ¬ (rs.length : Int) < (rs.length : Int) := by omega
      have HASC : Hid (os.map Prod.snd = ascL (qs.map Prod.snd ++ rs.map Prod.snd)) := Lib.hid (by rw [HOS.out.1, List.take_length, ascL_app HV.out.2.2.2.2.2.2])
      have HAL : Hid ((ascL (qs.map Prod.snd ++ rs.map Prod.snd)).length = os.length) := Lib.hid (by rw [← HASC.out, List.length_map])
      have c11 := (cells_of K2.out).2
      have cT0 := (cells_of KT.out).1; have cT := (cells_of KT.out).2
      by_cases hz : os.length ≤ 3
      · have hz1 : ¬ (3 : Int) < (os.length : Int) := by omega
        have HZ3 := Lib.hid hz
        obtain ⟨p1, p2, p3, p4, p5⟩ := put_set (x := .slice a2 (sumL b c).length c2) (y := .slice ao os.length co) K3.out
        have P1 := Lib.hid p1
        clear p1 hz
        go_wp2_with fail
        clear p2 p3 p4 p5
        refine bodyPost_ret (results_set2 rfl _ _ (w.heap.size + 1 + 1) _ _ _ _ rfl P1.out Try.underlying26 (by kernel_rfl)) rfl ?_
        have GS := set_two1 (w.heap.size + 1 + 1) wk (.slice a2 (sumL b c).length c2) (.slice ao os.length co)
        have h4 := HS2.out
        refine ⟨_, _, _, .ok HF.out HF2.out ⟨HSM.out, by rw [HAL.out]; exact HZ3.out⟩, ⟨_, rfl, ⟨_, _, os, rfl, (OB.out.keptB1 GS (fun g hg e => by have h7 : w.heap.size + 1 + 1 = g := Option.some.inj hg; have := (HBF.out g e).1; omega)).row (fun x hx => by have := sumL_hi HV.out.2.2.2.1 HV2.out.2.2.2.1 x hx; omega), HO.out.1.keptR GS (fun g hg e => by have h7 : w.heap.size + 1 + 1 = g := Option.some.inj hg; have := (HO.out.2.2.1 g e).1; omega) (fun q hq g hg e => by have h7 : w.heap.size + 1 + 1 = g := Option.some.inj hg; have := (HO.out.2.2.2 q hq g e).1; omega), HO.out.2.1, HASC.out⟩, GW.out _ _ _ HG.out⟩⟩
      · have hz1 : (3 : Int) < (os.length : Int) := by omega
        have HZ3 := Lib.hid hz
        obtain ⟨p1, p2, p3, p4, p5⟩ := put_set (x := .slice none 0 0) (y := .slice none 0 0) K3.out
        have P1 := Lib.hid p1
        clear p1 hz
        go_wp2_with fail
        clear p2 p3 p4 p5
        refine bodyPost_ret (results_set2 rfl _ _ (w.heap.size + 1 + 1) _ _ _ _ rfl P1.out Try.underlying26 (by kernel_rfl)) rfl ?_
        exact ⟨_, _, _, .lim HF.out HF2.out (fun h => by have h3 := h.2; rw [HAL.out] at h3; exact HZ3.out h3), moveU_nil (GW.out _ _ _ HG.out)⟩

end Go.Proofs.Ytoaoheblaidhmaa

namespace Go.Proofs.Ytoaoheblaidhmaa
open Go.RowKit
set_option linter.unusedVariables false

theorem foldl_putL_len : ∀ (Q P : List (List Int)), (Q.foldl putL P).length ≤ P.length + Q.length
  | [], P => by simp
  | q :: Q, P => by
    have h1 := foldl_putL_len Q (putL P q)
    have h2 := putL_len q P
    simp only [List.foldl_cons, List.length_cons]
    omega
/-- Sum: one answer for both sides. -/
theorem sum_u (n : Int) (b c : List Int) (qs rs : List Row) (hq : qs.length ≤ 20) (hq' : rs.length ≤ 20) : ∃ x y z, (∀ w s1 s2, LinX w s1 b qs → LinX w s2 c rs → Calls Try.prog 27 #[.int .i64 n, s1, s2] w (MoveU x y z w)) ∧ ∀ w s1 s2, LinX w s1 b qs → LinX w s2 c rs → Calls Try.prog 28 #[.int .i64 n, s1, s2] w (MoveU x y z w) := by
  by_cases hex : ∃ x y z, SumR n b qs c rs x y z
  · obtain ⟨x, y, z, hR⟩ := hex
    refine ⟨x, y, z, fun w s1 s2 h1 h2 => (Sum_is h1 hq h2 hq').mono fun e w' ⟨x', y', z', h3, h4⟩ => ?_, fun w s1 s2 h1 h2 => (rSum_is h1 hq h2 hq').mono fun e w' ⟨x', y', z', h3, h4⟩ => ?_⟩
    · obtain ⟨rfl, rfl, rfl⟩ := hR.one h3; exact h4
    · obtain ⟨rfl, rfl, rfl⟩ := hR.one h3; exact h4
  · exact ⟨[], [], 0, fun w s1 s2 h1 h2 => (Sum_is h1 hq h2 hq').mono fun e w' ⟨x', y', z', h3, h4⟩ => absurd ⟨_, _, _, h3⟩ hex, fun w s1 s2 h1 h2 => (rSum_is h1 hq h2 hq').mono fun e w' ⟨x', y', z', h3, h4⟩ => absurd ⟨_, _, _, h3⟩ hex⟩
set_option maxRecDepth 100000 in
set_option maxHeartbeats 1000000 in
theorem same13_yes {s1 s2 : Value} {b : List Int} {rs : List (List Int)} {w : World} (h1 : LinV w s1 b rs) (h2 : LinV w s2 b rs) :
    Calls Try.prog 26 #[s1, s2] w fun e w' => e = .returned (.bool true) ∧ w.grownBy w' none := by
  obtain ⟨vb, vp, qs, rfl, hb, hp, -, hm⟩ := h1
  obtain ⟨vb', vp', qs', rfl, hb', hp', -, hm'⟩ := h2
  have HB := Lib.hid hb; have HP := Lib.hid hp; have HB' := Lib.hid hb'; have HP' := Lib.hid hp'
  have HM : Hid ((qs.map Prod.snd == qs'.map Prod.snd) = true) := Lib.hid (by rw [hm, hm']; simp)
  obtain ⟨⟨ab, cb, hvb, -⟩, -, -⟩ := hb
  obtain ⟨⟨ab', cb', hvb', -⟩, -, -⟩ := hb'
  dsimp only at hvb hvb'
  subst hvb hvb'
  obtain ⟨ap, cp, rfl, -⟩ := hp
  obtain ⟨ap', cp', rfl, -⟩ := hp'
  clear hm hm'
  go_enter Try.func26, Try.ntmps26
  go_wp2_with fail
  have k1 : ((w.alloc (.cells #[.slice ab b.length cb, .slice ap qs.length cp] 26)).alloc (.cells #[.slice ab' b.length cb', .slice ap' qs'.length cp'] 26)).heap[w.heap.size]? = some (.cells #[.slice ab b.length cb, .slice ap qs.length cp] 26 (0, 0)) := heap_old _ (heap_new _ rfl)
  have k2 : ((w.alloc (.cells #[.slice ab b.length cb, .slice ap qs.length cp] 26)).alloc (.cells #[.slice ab' b.length cb', .slice ap' qs'.length cp'] 26)).heap[w.heap.size + 1]? = some (.cells #[.slice ab' b.length cb', .slice ap' qs'.length cp'] 26 (0, 0)) := heap_new _ (by show _ = (w.heap.push _).size; simp)
  have hg1 : w.grownBy ((w.alloc (.cells #[.slice ab b.length cb, .slice ap qs.length cp] 26)).alloc (.cells #[.slice ab' b.length cb', .slice ap' qs'.length cp'] 26)) none := grown_after (grown_after (grown_refl _ _))
  generalize ((w.alloc (.cells #[.slice ab b.length cb, .slice ap qs.length cp] 26)).alloc (.cells #[.slice ab' b.length cb', .slice ap' qs'.length cp'] 26)) = W at *
  have G1 := Lib.hid hg1
  have k11 := (cells_of k1).1; have k12 := (cells_of k1).2; have k21 := (cells_of k2).1; have k22 := (cells_of k2).2
  have K12 := Lib.hid k12; have K22 := Lib.hid k22
  clear k1 k2 hg1
  refine (same_any _ _ b b _ (HB.out.same G1.out).1 (HB'.out.same G1.out).1).mono ?_
  rintro e w2 ⟨rfl, hd⟩
  have hg := hd.grown none
  have e1 : (b == b) = true := by simp
  rw [e1]
  have G2 := Lib.hid (grown_trans G1.out hg)
  have k12 := hg.cell K12.out (by simp); have k22 := hg.cell K22.out (by simp)
  clear hd hg e1 k11 k21
  go_wp2_with fail
  refine (sameall_any _ _ qs qs' _ (HP.out.same G2.out) (HP'.out.same G2.out)).mono ?_
  rintro e w3 ⟨rfl, hd⟩
  rw [HM.out]
  have G3 := Lib.hid (grown_trans G2.out (hd.grown none))
  clear hd
  go_wp2_with fail
  go_ret
  exact ⟨rfl, G3.out⟩
def NarrowP (b : List Int) (qs : List Row) : Prop := b.length ≤ 12 ∧ qs.length ≤ 12 ∧ ∀ q ∈ qs, q.2.length ≤ 12
set_option maxRecDepth 100000 in
set_option maxHeartbeats 1000000 in
theorem narrow13_any {sv : Value} {b : List Int} {qs : List Row} {w : World} (h : LinX w sv b qs) (hl : qs.length ≤ 9223372036854775807) :
    Calls Try.prog 10 #[sv] w (SaysP (NarrowP b qs) w) := by
  obtain ⟨vb, vp, rfl, hb, hp0, -⟩ := h
  have HP0 := Lib.hid hp0
  obtain ⟨ap, cp, rfl, -⟩ := hp0
  obtain ⟨⟨ab, cb, hvb, -⟩, -, -⟩ := hb
  dsimp only at hvb
  subst hvb
  go_enter Try.func10, Try.ntmps10
  go_wp2_with fail
  have k1 : (w.alloc (.cells #[.slice ab b.length cb, .slice ap qs.length cp] 26)).heap[w.heap.size]? = some (.cells #[.slice ab b.length cb, .slice ap qs.length cp] 26 (0, 0)) := heap_new _ rfl
  have hg1 : w.grownBy (w.alloc (.cells #[.slice ab b.length cb, .slice ap qs.length cp] 26)) none := grown_after (grown_refl _ _)
  generalize (w.alloc (.cells #[.slice ab b.length cb, .slice ap qs.length cp] 26)) = W at *
  have G1 := Lib.hid hg1
  have c0 := (cells_of k1).1; have c1 := (cells_of k1).2
  clear k1 hg1
  go_loop [7, 3] (fun i j => ∃ k : Nat, i = .int .i64 k ∧ k ≤ qs.length ∧ Hid (∀ t, (ht : t < qs.length) → t < k → (qs[t]).2.length ≤ 12)) (fun i _ => qs.length - (intOf i).toNat)
  case atStart => exact ⟨0, rfl, Nat.zero_le _, Lib.hid (by omega)⟩
  case round =>
    obtain ⟨k, rfl, hk, hz⟩ := hrel
    by_cases hlt : k < qs.length
    · have h1 : (k : Int) < (qs.length : Int) := by omega
      have i1 : IntKind.i64.wrap ((k : Int) + 1) = (k : Int) + 1 := IntWalk.i64_in _ (by omega)
      obtain ⟨b9, o9, c9, rfl, hx, HE⟩ : ∃ b9 o9 c9, ap = some ⟨b9, o9, none⟩ ∧ W.cell? ⟨b9, o9 + k, none⟩ = some c9 ∧ Hid (∃ a c, c9 = .slice a (qs[k]).2.length c) := by
        obtain ⟨bb, oo, a, c, e, hc, hr⟩ := (HP0.out.same G1.out).row hlt
        exact ⟨bb, oo, _, e, hc, Lib.hid ⟨a, c, rfl⟩⟩
      obtain ⟨a9, cc9, rfl⟩ := HE.out
      have HZ : Hid ((qs[k]).2.length ≤ 12 → ∀ t, (ht : t < qs.length) → t < k + 1 → (qs[t]).2.length ≤ 12) := Lib.hid (fun h t ht htk => by
        by_cases e : t = k
        · subst e; exact h
        · exact hz.out t ht (by omega))
      have HB : Hid (NarrowP b qs → (qs[k]).2.length ≤ 12) := Lib.hid (fun h => h.2.2 _ (List.getElem_mem hlt))
      generalize (qs[k]).2.length = m at *
      by_cases hm : m ≤ 12
      · have h2 : ¬ (12 : Int) < (m : Int) := by omega
        have HZ2 := Lib.hid (HZ.out hm)
        go_wp2_with fail
        go_round
        case rel => exact ⟨k + 1, by go_num, by omega, HZ2⟩
        case measure => (simp [intOf]; try omega)
      · have h2 : (12 : Int) < (m : Int) := by omega
        go_wp2_with fail
        go_ret
        exact ⟨false, rfl, ⟨fun h => (by cases h), fun h => absurd (HB.out h) hm⟩, G1.out⟩
    · have h1 : ¬ (k : Int) < (qs.length : Int) := by omega
      have HZ : Hid (∀ q ∈ qs, q.2.length ≤ 12) := Lib.hid (fun q hq => by
        obtain ⟨t, ht, rfl⟩ := List.getElem_of_mem hq
        exact hz.out t ht (by omega))
      by_cases hb : b.length ≤ 12
      · have h2 : decide ((b.length : Int) ≤ 12) = true := by simp; omega
        go_wp2_with fail
        go_ret
        exact ⟨decide ((qs.length : Int) ≤ 12), rfl, ⟨fun h => ⟨hb, by have := of_decide_eq_true h; omega, HZ.out⟩, fun h => decide_eq_true (by have := h.2.1; omega)⟩, G1.out⟩
      · have h2 : decide ((b.length : Int) ≤ 12) = false := by simp; omega
        go_wp2_with fail
        go_ret
        exact ⟨false, rfl, ⟨fun h => (by cases h), fun h => absurd h.1 hb⟩, G1.out⟩

end Go.Proofs.Ytoaoheblaidhmaa
