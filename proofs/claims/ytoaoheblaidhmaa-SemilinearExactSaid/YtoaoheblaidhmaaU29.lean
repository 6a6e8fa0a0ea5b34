/- Texts SLa in one. -/
import Derived.Test.YtoaoheblaidhmaaU27
import Derived.Test.YtoaoheblaidhmaaU28
namespace Go.Proofs.Ytoaoheblaidhmaa
open Go.ChangeShapes Go.WideShapes Go.ChangeAt Go.RowKit Go.Deep
set_option linter.unusedVariables false

set_option maxRecDepth 100000 in
set_option maxHeartbeats 8000000 in
theorem walkE1 : WalkE := by
  intro a0 len0 cap0 z0 w w0 n av cv us hus ab cb ap cp ba qa ha hba ab2 cb2 ap2 cp2 bb qb hb hbb a5 c5 xs hx a6 c6 ts ht hqa hqb hql
  obtain ⟨hI, hlen⟩ := w0.ints
  generalize z0.take len0 = zs at hI hlen
  subst hlen
  have HI := Lib.hid hI; have HU := Lib.hid hus; have HA := Lib.hid ha; have HBA := Lib.hid hba; have HB := Lib.hid hb; have HBB := Lib.hid hbb; have HX := Lib.hid hx; have HT := Lib.hid ht
  have HQA := Lib.hid hqa; have HQB := Lib.hid hqb; have HQL := Lib.hid hql
  clear hI w0 hus ha hba hb hbb hx ht hqa hqb hql
  by_cases hfew : (zs.length : Int) ≤ 400
  case neg =>
    go_enter Try.func3, Try.ntmps3
    go_wp2_with fail
    have k1 : ((w.alloc (.cells #[.slice ab ba.length cb, .slice ap qa.length cp] 26)).alloc (.cells #[.slice ab2 bb.length cb2, .slice ap2 qb.length cp2] 26)).heap[w.heap.size]? = some (.cells #[.slice ab ba.length cb, .slice ap qa.length cp] 26 (0, 0)) := heap_old _ (heap_new _ rfl)
    have k2 : ((w.alloc (.cells #[.slice ab ba.length cb, .slice ap qa.length cp] 26)).alloc (.cells #[.slice ab2 bb.length cb2, .slice ap2 qb.length cp2] 26)).heap[w.heap.size + 1]? = some (.cells #[.slice ab2 bb.length cb2, .slice ap2 qb.length cp2] 26 (0, 0)) := heap_new _ (by show _ = (w.heap.push _).size; simp)
    have hg1 : w.grownBy ((w.alloc (.cells #[.slice ab ba.length cb, .slice ap qa.length cp] 26)).alloc (.cells #[.slice ab2 bb.length cb2, .slice ap2 qb.length cp2] 26)) none := grown_after (grown_after (grown_refl _ _))
    generalize ((w.alloc (.cells #[.slice ab ba.length cb, .slice ap qa.length cp] 26)).alloc (.cells #[.slice ab2 bb.length cb2, .slice ap2 qb.length cp2] 26)) = W at *
    have K1 := Lib.hid k1; have K2 := Lib.hid k2; have HG := Lib.hid hg1
    clear k1 k2 hg1
    refine (awake13_any _).mono ?_
    rintro e w1 ⟨rfl, hg⟩
    replace K1 := Lib.hid (box_none K1.out hg); replace K2 := Lib.hid (box_none K2.out hg); replace HG := Lib.hid (grown_trans HG.out hg)
    clear hg
    go_wp2_with fail
    refine (few_any _ _ _ _).mono ?_
    rintro e w2 ⟨rfl, rfl⟩
    rw [decide_eq_false (by omega)]
    go_wp2_with fail
    refine (awake13_any _).mono ?_
    rintro e w9 ⟨rfl, hg⟩
    have HGX := Lib.hid (grown_trans HG.out hg)
    clear hg
    go_wp2_with fail
    go_ret
    exact ⟨rfl, below_of HGX.out⟩
  go_enter Try.func3, Try.ntmps3
  go_wp2_with fail
  have k1 : ((w.alloc (.cells #[.slice ab ba.length cb, .slice ap qa.length cp] 26)).alloc (.cells #[.slice ab2 bb.length cb2, .slice ap2 qb.length cp2] 26)).heap[w.heap.size]? = some (.cells #[.slice ab ba.length cb, .slice ap qa.length cp] 26 (0, 0)) := heap_old _ (heap_new _ rfl)
  have k2 : ((w.alloc (.cells #[.slice ab ba.length cb, .slice ap qa.length cp] 26)).alloc (.cells #[.slice ab2 bb.length cb2, .slice ap2 qb.length cp2] 26)).heap[w.heap.size + 1]? = some (.cells #[.slice ab2 bb.length cb2, .slice ap2 qb.length cp2] 26 (0, 0)) := heap_new _ (by show _ = (w.heap.push _).size; simp)
  have hg1 : w.grownBy ((w.alloc (.cells #[.slice ab ba.length cb, .slice ap qa.length cp] 26)).alloc (.cells #[.slice ab2 bb.length cb2, .slice ap2 qb.length cp2] 26)) none := grown_after (grown_after (grown_refl _ _))
  generalize ((w.alloc (.cells #[.slice ab ba.length cb, .slice ap qa.length cp] 26)).alloc (.cells #[.slice ab2 bb.length cb2, .slice ap2 qb.length cp2] 26)) = W at *
  have K1 := Lib.hid k1; have K2 := Lib.hid k2; have HG := Lib.hid hg1
  clear k1 k2 hg1
  refine (awake13_any _).mono ?_
  rintro e w1 ⟨rfl, hg⟩
  replace K1 := Lib.hid (box_none K1.out hg); replace K2 := Lib.hid (box_none K2.out hg); replace HG := Lib.hid (grown_trans HG.out hg)
  clear hg
  go_wp2_with fail
  refine (few_any _ _ _ _).mono ?_
  rintro e w2 ⟨rfl, rfl⟩
  rw [decide_eq_true hfew]
  by_cases hu12 : (12 : Int) < (us.length : Int)
  ·
    go_wp2_with fail
    refine (awake13_any _).mono ?_
    rintro e w9 ⟨rfl, hg⟩
    have HGX := Lib.hid (grown_trans HG.out hg)
    clear hg
    go_wp2_with fail
    go_ret
    exact ⟨rfl, below_of HGX.out⟩
  have a1 := (cells_of K1.out).1; have a2 := (cells_of K1.out).2
  go_wp2_with fail
  refine (narrow13_any (HA.out.same HG.out) HQA.out).mono ?_
  rintro e w3 ⟨B, rfl, hn, hg⟩
  have HNA := Lib.hid hn
  replace K1 := Lib.hid (box_none K1.out hg); replace K2 := Lib.hid (box_none K2.out hg); replace HG := Lib.hid (grown_trans HG.out hg)
  clear hn hg a1 a2
  cases B with
  | false =>
    go_wp2_with fail
    refine (awake13_any _).mono ?_
    rintro e w9 ⟨rfl, hg⟩
    have HGX := Lib.hid (grown_trans HG.out hg)
    clear hg
    go_wp2_with fail
    go_ret
    exact ⟨rfl, below_of HGX.out⟩
  | true =>
  have a1 := (cells_of K2.out).1; have a2 := (cells_of K2.out).2
  go_wp2_with fail
  refine (narrow13_any (HB.out.same HG.out) HQB.out).mono ?_
  rintro e w4 ⟨B, rfl, hn, hg⟩
  have HNB := Lib.hid hn
  replace K1 := Lib.hid (box_none K1.out hg); replace K2 := Lib.hid (box_none K2.out hg); replace HG := Lib.hid (grown_trans HG.out hg)
  clear hn hg a1 a2
  cases B with
  | false =>
    go_wp2_with fail
    refine (awake13_any _).mono ?_
    rintro e w9 ⟨rfl, hg⟩
    have HGX := Lib.hid (grown_trans HG.out hg)
    clear hg
    go_wp2_with fail
    go_ret
    exact ⟨rfl, below_of HGX.out⟩
  | true =>
  by_cases hx12 : (12 : Int) < (xs.length : Int)
  ·
    go_wp2_with fail
    refine (awake13_any _).mono ?_
    rintro e w9 ⟨rfl, hg⟩
    have HGX := Lib.hid (grown_trans HG.out hg)
    clear hg
    go_wp2_with fail
    go_ret
    exact ⟨rfl, below_of HGX.out⟩
  by_cases ht12 : (12 : Int) < (ts.length : Int)
  ·
    go_wp2_with fail
    refine (awake13_any _).mono ?_
    rintro e w9 ⟨rfl, hg⟩
    have HGX := Lib.hid (grown_trans HG.out hg)
    clear hg
    go_wp2_with fail
    go_ret
    exact ⟨rfl, below_of HGX.out⟩
  go_wp2_with fail
  have G0 := Lib.hid (grown_refl w4 none)
  go_loopw [75, 15] (fun i j wr => ∃ k : Nat, i = .int .i64 k ∧ k ≤ us.length ∧ Hid (∀ t, (ht : t < us.length) → t < k → NarrowP us[t].2.1 us[t].2.2) ∧ Hid (w4.grownBy wr none)) (fun i _ _ => us.length - (intOf i).toNat)
  case atStart => exact ⟨0, rfl, Nat.zero_le _, Lib.hid (by omega), G0⟩
  case round =>
    clear G0
    obtain ⟨k, rfl, hk, hz, hgk⟩ := hrel
    rename World => wk
    by_cases hlt : k < us.length
    · have h1 : (k : Int) < (us.length : Int) := by omega
      have i1 : IntKind.i64.wrap ((k : Int) + 1) = (k : Int) + 1 := IntWalk.i64_in _ (by omega)
      obtain ⟨b9, o9, rfl, hc0, hc1, hlx⟩ := ((HU.out.same HG.out).same hgk.out).at hlt
      have HLX := Lib.hid hlx
      have HZ : Hid (NarrowP us[k].2.1 us[k].2.2 → ∀ t, (ht : t < us.length) → t < k + 1 → NarrowP us[t].2.1 us[t].2.2) := Lib.hid (fun h t ht htk => by
        by_cases e : t = k
        · subst e; exact h
        · exact hz.out t ht (by omega))
      have HQK := Lib.hid (HQL.out _ (List.getElem_mem hlt))
      clear hlx
      generalize us[k] = u at *
      obtain ⟨⟨x, y⟩, b, q⟩ := u
      dsimp only at hc0 hc1 HLX HZ HQK
      go_wp2_with fail
      refine (narrow13_any HLX.out HQK.out).mono ?_
      rintro e w5 ⟨B, rfl, hn, hg⟩
      have HN := Lib.hid hn
      have HGN := Lib.hid (grown_trans hgk.out hg)
      clear hn hg hc0 hc1
      cases B with
      | false =>
        go_wp2_with fail
        go_ret
        exact ⟨rfl, below_of (grown_trans HG.out HGN.out)⟩
      | true =>
        have HZ2 := Lib.hid (HZ.out (HN.out.1 rfl))
        go_wp2_with fail
        go_roundw
        case rel => exact ⟨k + 1, by go_num, by omega, HZ2, HGN⟩
        case measure => (simp [intOf]; try omega)
    · have h1 : ¬ (k : Int) < (us.length : Int) := by omega
      have HNU : Hid (∀ t, (ht : t < us.length) → NarrowP us[t].2.1 us[t].2.2) := Lib.hid (fun t ht => hz.out t ht (by omega))
      go_wp2_with fail
      have HU12 : Hid (us.length ≤ 12) := Lib.hid (by omega)
      have hgk2 := grown_trans HG.out hgk.out
      have hk1 := box_none K1.out hgk.out; have hk2 := box_none K2.out hgk.out
      refine (new_st (HI.out.same hgk2) (grown_refl wk none)).mono ?_
      rintro e w6 ⟨p, d, rfl, hs⟩
      have HS := Lib.hid hs; have HGW := Lib.hid hgk2
      have EA := Lib.hid (Ev.of hs (P := fun w' => LinX w' (.agg #[.slice ab ba.length cb, .slice ap qa.length cp]) ba qa ∧ RowOk w' (.slice ab ba.length cb, ba)) ⟨HA.out.same hgk2, HBA.out.same hgk2⟩ (fun a b g h => ⟨h.1.same g, h.2.same g⟩))
      have EB := Lib.hid (Ev.of hs (P := fun w' => LinX w' (.agg #[.slice ab2 bb.length cb2, .slice ap2 qb.length cp2]) bb qb ∧ RowOk w' (.slice ab2 bb.length cb2, bb)) ⟨HB.out.same hgk2, HBB.out.same hgk2⟩ (fun a b g h => ⟨h.1.same g, h.2.same g⟩))
      have EU := Lib.hid (Ev.of hs (P := fun w' => SetsI w' (.slice av us.length cv) us) (HU.out.same hgk2) (fun a b g h => h.same g))
      have EX := Lib.hid (Ev.of hs (P := fun w' => RowOk w' (.slice a5 xs.length c5, xs)) (HX.out.same hgk2) (fun a b g h => h.same g))
      have ET := Lib.hid (Ev.of hs (P := fun w' => RowOk w' (.slice a6 ts.length c6, ts)) (HT.out.same hgk2) (fun a b g h => h.same g))
      have E1 := Lib.hid (Ev.of hs (P := fun w' => w'.heap[w.heap.size]? = some (.cells #[.slice ab ba.length cb, .slice ap qa.length cp] 26 (0, 0))) hk1 (fun a b g h => box_none h g))
      have E2 := Lib.hid (Ev.of hs (P := fun w' => w'.heap[w.heap.size + 1]? = some (.cells #[.slice ab2 bb.length cb2, .slice ap2 qb.length cp2] 26 (0, 0))) hk2 (fun a b g h => box_none h g))
      clear hs hgk2 hk1 hk2 K1 K2 HG hgk HA HB HU HX HT HBA HBB HI hz hu12 hx12 ht12 h1
      go_wp2_with fail
      refine (next_st HS.out _ (by omega) (by omega)).mono ?_
      rintro e w7 ⟨y, rfl, hy0, hy1, hs, hg⟩
      replace EA := Lib.hid (EA.out.deal hg); replace EB := Lib.hid (EB.out.deal hg); replace EU := Lib.hid (EU.out.deal hg); replace EX := Lib.hid (EX.out.deal hg); replace ET := Lib.hid (ET.out.deal hg); replace E1 := Lib.hid (E1.out.deal hg); replace E2 := Lib.hid (E2.out.deal hg)
      replace HS := Lib.hid hs
      clear hs hg
      obtain ⟨m, hm⟩ : ∃ m : Nat, 1 + y = (m : Int) := ⟨(1 + y).toNat, by omega⟩
      have hm1 : 1 ≤ m := by omega
      have hm2 : m ≤ 4 := by omega
      have im : IntKind.i64.wrap (1 + y) = (m : Int) := by rw [hm]; exact IntWalk.i64_in _ (by omega)
      clear hm hy0 hy1
      go_wp2_with fail
      refine (linear_st HS.out m (by omega) (by omega)).mono ?_
      rintro e w19 ⟨v1, b1, ps1, rfl, hlin, hs, hg⟩
      replace EA := Lib.hid (EA.out.deal hg); replace EB := Lib.hid (EB.out.deal hg); replace EU := Lib.hid (EU.out.deal hg); replace EX := Lib.hid (EX.out.deal hg); replace ET := Lib.hid (ET.out.deal hg); replace E1 := Lib.hid (E1.out.deal hg); replace E2 := Lib.hid (E2.out.deal hg)
      replace HS := Lib.hid hs
      obtain ⟨ab1x, cb1x, ap1x, cp1x, rfl⟩ := hlin.open
      obtain ⟨q1, hq1, hev⟩ := Ev.lin hlin
      have HQ1 : Hid (q1.length ≤ 20) := Lib.hid (by have h5 := congrArg List.length hq1; have h6 := hlin.valid.2.2.2.2.2.1; rw [List.length_map] at h5; omega)
      subst hq1
      simp only [List.length_map] at hev ⊢
      have EL1 := Lib.hid hev
      clear hs hg hev hlin
      go_wp2_with fail
      refine (linear_st HS.out m (by omega) (by omega)).mono ?_
      rintro e w29 ⟨v2, b2, ps2, rfl, hlin, hs, hg⟩
      replace EA := Lib.hid (EA.out.deal hg); replace EB := Lib.hid (EB.out.deal hg); replace EU := Lib.hid (EU.out.deal hg); replace EX := Lib.hid (EX.out.deal hg); replace ET := Lib.hid (ET.out.deal hg); replace E1 := Lib.hid (E1.out.deal hg); replace E2 := Lib.hid (E2.out.deal hg); replace EL1 := Lib.hid (EL1.out.deal hg)
      replace HS := Lib.hid hs
      obtain ⟨ab2x, cb2x, ap2x, cp2x, rfl⟩ := hlin.open
      obtain ⟨q2, hq2, hev⟩ := Ev.lin hlin
      have HQ2 : Hid (q2.length ≤ 20) := Lib.hid (by have h5 := congrArg List.length hq2; have h6 := hlin.valid.2.2.2.2.2.1; rw [List.length_map] at h5; omega)
      subst hq2
      simp only [List.length_map] at hev ⊢
      have EL2 := Lib.hid hev
      clear hs hg hev hlin
      clear im
      go_wp2_with fail
      have HU20 : Hid (∀ w', SetsI w' (.slice av us.length cv) us → SetsX w' (.slice av us.length cv) us) := Lib.hid (fun w' h => h.x (by have := HU12.out; omega) (fun u hu => by
        obtain ⟨t, ht, rfl⟩ := List.getElem_of_mem hu
        have := (HNU.out t ht).2.1
        omega))
      have k3 : (((w29.alloc (.cells #[.slice ab1x b1.length cb1x, .slice ap1x q1.length cp1x] 26)).alloc (.cells #[.slice ab2x b2.length cb2x, .slice ap2x q2.length cp2x] 26)).alloc (.cells #[.int .i64 n, .int .i64 (m : Int)] 3)).heap[w29.heap.size]? = some (.cells #[.slice ab1x b1.length cb1x, .slice ap1x q1.length cp1x] 26 (0, 0)) := heap_old _ (heap_old _ (heap_new _ rfl))
      have k4 : (((w29.alloc (.cells #[.slice ab1x b1.length cb1x, .slice ap1x q1.length cp1x] 26)).alloc (.cells #[.slice ab2x b2.length cb2x, .slice ap2x q2.length cp2x] 26)).alloc (.cells #[.int .i64 n, .int .i64 (m : Int)] 3)).heap[w29.heap.size + 1]? = some (.cells #[.slice ab2x b2.length cb2x, .slice ap2x q2.length cp2x] 26 (0, 0)) := heap_old _ (heap_new _ (by show _ = (w29.heap.push _).size; simp))
      have k5 : (((w29.alloc (.cells #[.slice ab1x b1.length cb1x, .slice ap1x q1.length cp1x] 26)).alloc (.cells #[.slice ab2x b2.length cb2x, .slice ap2x q2.length cp2x] 26)).alloc (.cells #[.int .i64 n, .int .i64 (m : Int)] 3)).heap[w29.heap.size + 1 + 1]? = some (.cells #[.int .i64 n, .int .i64 (m : Int)] 3 (0, 0)) := heap_new _ (by show _ = ((w29.heap.push _).push _).size; simp)
      have hg : w29.grownBy (((w29.alloc (.cells #[.slice ab1x b1.length cb1x, .slice ap1x q1.length cp1x] 26)).alloc (.cells #[.slice ab2x b2.length cb2x, .slice ap2x q2.length cp2x] 26)).alloc (.cells #[.int .i64 n, .int .i64 (m : Int)] 3)) none := grown_after (grown_after (grown_after (grown_refl _ _)))
      generalize (((w29.alloc (.cells #[.slice ab1x b1.length cb1x, .slice ap1x q1.length cp1x] 26)).alloc (.cells #[.slice ab2x b2.length cb2x, .slice ap2x q2.length cp2x] 26)).alloc (.cells #[.int .i64 n, .int .i64 (m : Int)] 3)) = W3 at *
      have hdl := HS.out.lt
      have E3 := Lib.hid (Ev.box (d := d) k3 (by omega)); have E4 := Lib.hid (Ev.box (d := d) k4 (by omega)); have E5 := Lib.hid (Ev.box (d := d) k5 (by omega))
      replace EA := Lib.hid (EA.out.step hg); replace EB := Lib.hid (EB.out.step hg); replace EU := Lib.hid (EU.out.step hg); replace EX := Lib.hid (EX.out.step hg); replace ET := Lib.hid (ET.out.step hg); replace E1 := Lib.hid (E1.out.step hg); replace E2 := Lib.hid (E2.out.step hg); replace EL1 := Lib.hid (EL1.out.step hg); replace EL2 := Lib.hid (EL2.out.step hg); replace HS := Lib.hid (HS.out.step hg)
      have HNA20 : Hid (qa.length ≤ 20) := Lib.hid (by have := (HNA.out.1 trivial).2.1; omega)
      have HNB20 : Hid (qb.length ≤ 20) := Lib.hid (by have := (HNB.out.1 trivial).2.1; omega)
      clear k3 k4 k5 hg hdl HNA HNB HNU
      obtain ⟨B3, hB3⟩ : ∃ B3, w29.heap.size = B3 := ⟨_, rfl⟩
      rw [hB3] at E3 E4 E5 ⊢
      clear hB3
      go_loopw [100] (fun i wr => ∃ k : Nat, i = .int .i64 k ∧ k ≤ 2 ∧ Hid (Ev d (fun w' => LinX w' (.agg #[.slice ab ba.length cb, .slice ap qa.length cp]) ba qa ∧ RowOk w' (.slice ab ba.length cb, ba)) wr) ∧ Hid (Ev d (fun w' => LinX w' (.agg #[.slice ab2 bb.length cb2, .slice ap2 qb.length cp2]) bb qb ∧ RowOk w' (.slice ab2 bb.length cb2, bb)) wr) ∧ Hid (Ev d (fun w' => SetsI w' (.slice av us.length cv) us) wr) ∧ Hid (Ev d (fun w' => RowOk w' (.slice a5 xs.length c5, xs)) wr) ∧ Hid (Ev d (fun w' => RowOk w' (.slice a6 ts.length c6, ts)) wr) ∧ Hid (Ev d (fun w' => w'.heap[w.heap.size]? = some (.cells #[.slice ab ba.length cb, .slice ap qa.length cp] 26 (0, 0))) wr) ∧ Hid (Ev d (fun w' => w'.heap[w.heap.size + 1]? = some (.cells #[.slice ab2 bb.length cb2, .slice ap2 qb.length cp2] 26 (0, 0))) wr) ∧ Hid (Ev d (fun w' => LinX w' (.agg #[.slice ab1x b1.length cb1x, .slice ap1x q1.length cp1x]) b1 q1 ∧ RowOk w' (.slice ab1x b1.length cb1x, b1)) wr) ∧ Hid (Ev d (fun w' => LinX w' (.agg #[.slice ab2x b2.length cb2x, .slice ap2x q2.length cp2x]) b2 q2 ∧ RowOk w' (.slice ab2x b2.length cb2x, b2)) wr) ∧ Hid (Ev d (fun w' => w'.heap[B3]? = some (.cells #[.slice ab1x b1.length cb1x, .slice ap1x q1.length cp1x] 26 (0, 0))) wr) ∧ Hid (Ev d (fun w' => w'.heap[B3 + 1]? = some (.cells #[.slice ab2x b2.length cb2x, .slice ap2x q2.length cp2x] 26 (0, 0))) wr) ∧ Hid (Ev d (fun w' => w'.heap[B3 + 1 + 1]? = some (.cells #[.int .i64 n, .int .i64 (m : Int)] 3 (0, 0))) wr) ∧ Hid (St wk wr p d)) (fun i _ => 2 - (intOf i).toNat)
      case atStart => exact ⟨0, rfl, Nat.zero_le _, EA, EB, EU, EX, ET, E1, E2, EL1, EL2, E3, E4, E5, HS⟩
      case round =>
        clear EA EB EU EX ET E1 E2 EL1 EL2 E3 E4 E5 HS
        obtain ⟨k, rfl, hk, EA, EB, EU, EX, ET, E1, E2, EL1, EL2, E3, E4, E5, HS⟩ := hrel
        rename World => wr
        by_cases hk2 : k < 2
        · have g1 : (k : Int) < 2 := by omega
          have i1 : IntKind.i64.wrap ((k : Int) + 1) = (k : Int) + 1 := IntWalk.i64_in _ (by omega)
          obtain ⟨nv, hnv⟩ : ∃ nv : Int, wr.cell? ⟨B3 + 1 + 1, k, none⟩ = some (.int .i64 nv) := by
            obtain rfl | rfl : k = 0 ∨ k = 1 := by omega
            · exact ⟨n, by rw [World.cell?, E5.out.at]; rfl⟩
            · exact ⟨m, by rw [World.cell?, E5.out.at]; rfl⟩
          obtain ⟨er, hP, hR⟩ := check_u nv us
          have HPC := Lib.hid hP; have HRC := Lib.hid hR
          clear hP hR
          go_wp2_with fail
          refine (HPC.out _ _ (HU20.out _ EU.out.at)).mono ?_
          rintro e w31 ⟨rfl, hg⟩
          replace EA := Lib.hid (EA.out.step hg); replace EB := Lib.hid (EB.out.step hg); replace EU := Lib.hid (EU.out.step hg); replace EX := Lib.hid (EX.out.step hg); replace ET := Lib.hid (ET.out.step hg); replace E1 := Lib.hid (E1.out.step hg); replace E2 := Lib.hid (E2.out.step hg); replace EL1 := Lib.hid (EL1.out.step hg); replace EL2 := Lib.hid (EL2.out.step hg); replace E3 := Lib.hid (E3.out.step hg); replace E4 := Lib.hid (E4.out.step hg); replace E5 := Lib.hid (E5.out.step hg); replace HS := Lib.hid (HS.out.step hg)
          clear hg hnv
          go_wp2_with fail
          refine (HRC.out _ _ (HU20.out _ EU.out.at)).mono ?_
          rintro e w32 ⟨rfl, hg⟩
          replace EA := Lib.hid (EA.out.step hg); replace EB := Lib.hid (EB.out.step hg); replace EU := Lib.hid (EU.out.step hg); replace EX := Lib.hid (EX.out.step hg); replace ET := Lib.hid (ET.out.step hg); replace E1 := Lib.hid (E1.out.step hg); replace E2 := Lib.hid (E2.out.step hg); replace EL1 := Lib.hid (EL1.out.step hg); replace EL2 := Lib.hid (EL2.out.step hg); replace E3 := Lib.hid (E3.out.step hg); replace E4 := Lib.hid (E4.out.step hg); replace E5 := Lib.hid (E5.out.step hg); replace HS := Lib.hid (HS.out.step hg)
          clear hg HPC HRC
          have e1 : (er != er) = false := by simp
          have c1 := cells_of E1.out.at; have c2 := cells_of E2.out.at; have c3 := cells_of E3.out.at; have c4 := cells_of E4.out.at
          obtain ⟨c10, c11⟩ := c1; obtain ⟨c20, c21⟩ := c2; obtain ⟨c30, c31⟩ := c3; obtain ⟨c40, c41⟩ := c4
          go_wp2_with fail
          have kp : (w32.alloc (.cells #[.slice ab ba.length cb, .slice ap qa.length cp, .slice ab2 bb.length cb2, .slice ap2 qb.length cp2, .slice ab1x b1.length cb1x, .slice ap1x q1.length cp1x, .slice ab2x b2.length cb2x, .slice ap2x q2.length cp2x, .slice ab1x b1.length cb1x, .slice ap1x q1.length cp1x, .slice ab ba.length cb, .slice ap qa.length cp, .slice ab1x b1.length cb1x, .slice ap1x q1.length cp1x, .slice ab1x b1.length cb1x, .slice ap1x q1.length cp1x] 36)).heap[w32.heap.size]? = some (.cells #[.slice ab ba.length cb, .slice ap qa.length cp, .slice ab2 bb.length cb2, .slice ap2 qb.length cp2, .slice ab1x b1.length cb1x, .slice ap1x q1.length cp1x, .slice ab2x b2.length cb2x, .slice ap2x q2.length cp2x, .slice ab1x b1.length cb1x, .slice ap1x q1.length cp1x, .slice ab ba.length cb, .slice ap qa.length cp, .slice ab1x b1.length cb1x, .slice ap1x q1.length cp1x, .slice ab1x b1.length cb1x, .slice ap1x q1.length cp1x] 36 (0, 0)) := heap_new _ rfl
          have hg : w32.grownBy (w32.alloc (.cells #[.slice ab ba.length cb, .slice ap qa.length cp, .slice ab2 bb.length cb2, .slice ap2 qb.length cp2, .slice ab1x b1.length cb1x, .slice ap1x q1.length cp1x, .slice ab2x b2.length cb2x, .slice ap2x q2.length cp2x, .slice ab1x b1.length cb1x, .slice ap1x q1.length cp1x, .slice ab ba.length cb, .slice ap qa.length cp, .slice ab1x b1.length cb1x, .slice ap1x q1.length cp1x, .slice ab1x b1.length cb1x, .slice ap1x q1.length cp1x] 36)) none := World.grownBy_alloc _ _ none
          generalize (w32.alloc (.cells #[.slice ab ba.length cb, .slice ap qa.length cp, .slice ab2 bb.length cb2, .slice ap2 qb.length cp2, .slice ab1x b1.length cb1x, .slice ap1x q1.length cp1x, .slice ab2x b2.length cb2x, .slice ap2x q2.length cp2x, .slice ab1x b1.length cb1x, .slice ap1x q1.length cp1x, .slice ab ba.length cb, .slice ap qa.length cp, .slice ab1x b1.length cb1x, .slice ap1x q1.length cp1x, .slice ab1x b1.length cb1x, .slice ap1x q1.length cp1x] 36)) = W4 at *
          have hdl := HS.out.lt
          have EP := Lib.hid (Ev.box (d := d) kp (by omega))
          replace EA := Lib.hid (EA.out.step hg); replace EB := Lib.hid (EB.out.step hg); replace EU := Lib.hid (EU.out.step hg); replace EX := Lib.hid (EX.out.step hg); replace ET := Lib.hid (ET.out.step hg); replace E1 := Lib.hid (E1.out.step hg); replace E2 := Lib.hid (E2.out.step hg); replace EL1 := Lib.hid (EL1.out.step hg); replace EL2 := Lib.hid (EL2.out.step hg); replace E3 := Lib.hid (E3.out.step hg); replace E4 := Lib.hid (E4.out.step hg); replace E5 := Lib.hid (E5.out.step hg); replace HS := Lib.hid (HS.out.step hg)
          have EPr : Hid (PairsB d w32.heap.size W4) := Lib.hid (by
            intro j hj
            obtain rfl | rfl | rfl | rfl : j = 0 ∨ j = 1 ∨ j = 2 ∨ j = 3 := by omega
            · exact ⟨_, _, _, _, _, _, _, _, _, _, _, _, HNA20.out, HNB20.out, fun w' gr => ⟨⟨by rw [World.cell?, EP.out w' gr]; rfl, by rw [World.cell?, EP.out w' gr]; rfl, by rw [World.cell?, EP.out w' gr]; rfl, by rw [World.cell?, EP.out w' gr]; rfl⟩, EA.out w' gr, EB.out w' gr⟩⟩
            · exact ⟨_, _, _, _, _, _, _, _, _, _, _, _, HQ1.out, HQ2.out, fun w' gr => ⟨⟨by rw [World.cell?, EP.out w' gr]; rfl, by rw [World.cell?, EP.out w' gr]; rfl, by rw [World.cell?, EP.out w' gr]; rfl, by rw [World.cell?, EP.out w' gr]; rfl⟩, EL1.out w' gr, EL2.out w' gr⟩⟩
            · exact ⟨_, _, _, _, _, _, _, _, _, _, _, _, HQ1.out, HNA20.out, fun w' gr => ⟨⟨by rw [World.cell?, EP.out w' gr]; rfl, by rw [World.cell?, EP.out w' gr]; rfl, by rw [World.cell?, EP.out w' gr]; rfl, by rw [World.cell?, EP.out w' gr]; rfl⟩, EL1.out w' gr, EA.out w' gr⟩⟩
            · exact ⟨_, _, _, _, _, _, _, _, _, _, _, _, HQ1.out, HQ1.out, fun w' gr => ⟨⟨by rw [World.cell?, EP.out w' gr]; rfl, by rw [World.cell?, EP.out w' gr]; rfl, by rw [World.cell?, EP.out w' gr]; rfl, by rw [World.cell?, EP.out w' gr]; rfl⟩, EL1.out w' gr, EL1.out w' gr⟩⟩)
          clear kp hg hdl EP c10 c11 c20 c21 c30 c31 c40 c41 e1
          obtain ⟨B4, hB4⟩ : ∃ B4, w32.heap.size = B4 := ⟨_, rfl⟩
          rw [hB4] at EPr ⊢
          clear hB4
          go_loopw [125] (fun i wr => ∃ j : Nat, i = .int .i64 j ∧ j ≤ 4 ∧ Hid (Ev d (fun w' => LinX w' (.agg #[.slice ab ba.length cb, .slice ap qa.length cp]) ba qa ∧ RowOk w' (.slice ab ba.length cb, ba)) wr) ∧ Hid (Ev d (fun w' => LinX w' (.agg #[.slice ab2 bb.length cb2, .slice ap2 qb.length cp2]) bb qb ∧ RowOk w' (.slice ab2 bb.length cb2, bb)) wr) ∧ Hid (Ev d (fun w' => SetsI w' (.slice av us.length cv) us) wr) ∧ Hid (Ev d (fun w' => RowOk w' (.slice a5 xs.length c5, xs)) wr) ∧ Hid (Ev d (fun w' => RowOk w' (.slice a6 ts.length c6, ts)) wr) ∧ Hid (Ev d (fun w' => w'.heap[w.heap.size]? = some (.cells #[.slice ab ba.length cb, .slice ap qa.length cp] 26 (0, 0))) wr) ∧ Hid (Ev d (fun w' => w'.heap[w.heap.size + 1]? = some (.cells #[.slice ab2 bb.length cb2, .slice ap2 qb.length cp2] 26 (0, 0))) wr) ∧ Hid (Ev d (fun w' => LinX w' (.agg #[.slice ab1x b1.length cb1x, .slice ap1x q1.length cp1x]) b1 q1 ∧ RowOk w' (.slice ab1x b1.length cb1x, b1)) wr) ∧ Hid (Ev d (fun w' => LinX w' (.agg #[.slice ab2x b2.length cb2x, .slice ap2x q2.length cp2x]) b2 q2 ∧ RowOk w' (.slice ab2x b2.length cb2x, b2)) wr) ∧ Hid (Ev d (fun w' => w'.heap[B3]? = some (.cells #[.slice ab1x b1.length cb1x, .slice ap1x q1.length cp1x] 26 (0, 0))) wr) ∧ Hid (Ev d (fun w' => w'.heap[B3 + 1]? = some (.cells #[.slice ab2x b2.length cb2x, .slice ap2x q2.length cp2x] 26 (0, 0))) wr) ∧ Hid (Ev d (fun w' => w'.heap[B3 + 1 + 1]? = some (.cells #[.int .i64 n, .int .i64 (m : Int)] 3 (0, 0))) wr) ∧ Hid (St wk wr p d) ∧ Hid (PairsB d B4 wr)) (fun i _ => 4 - (intOf i).toNat)
          case atStart => exact ⟨0, rfl, Nat.zero_le _, EA, EB, EU, EX, ET, E1, E2, EL1, EL2, E3, E4, E5, HS, EPr⟩
          case round =>
            clear EA EB EU EX ET E1 E2 EL1 EL2 E3 E4 E5 HS EPr
            obtain ⟨j, rfl, hj, EA, EB, EU, EX, ET, E1, E2, EL1, EL2, E3, E4, E5, HS, EPr⟩ := hrel
            rename World => wj
            by_cases hj4 : j < 4
            · have g2 : (j : Int) < 4 := by omega
              have i2 : IntKind.i64.wrap ((j : Int) + 1) = (j : Int) + 1 := IntWalk.i64_in _ (by omega)
              obtain ⟨ax, cs, asp, csp, bs, qs, at', ct, atp, ctp, bt, qt, hqs, hqt, hev⟩ := EPr.out j hj4
              have EV := Lib.hid hev; have HQS := Lib.hid hqs; have HQT := Lib.hid hqt
              obtain ⟨⟨c0, c1, c2, c3⟩, -, -⟩ := hev.at
              clear hev hqs hqt
              go_wp2_with fail
              clear c0 c1 c2 c3
              have AZ := Lib.hid (And.intro EA (And.intro EB (And.intro E1 (And.intro E2 (And.intro EL1 (And.intro EL2 (And.intro E3 (And.intro E4 (And.intro E5 EPr)))))))))
              clear EA EB E1 E2 EL1 EL2 E3 E4 E5 EPr
              have k5 : (wj.alloc (.cells #[.slice ax bs.length cs, .slice asp qs.length csp, .slice at' bt.length ct, .slice atp qt.length ctp] 36)).heap[wj.heap.size]? = some (.cells #[.slice ax bs.length cs, .slice asp qs.length csp, .slice at' bt.length ct, .slice atp qt.length ctp] 36 (0, 0)) := heap_new _ rfl
              have hg : wj.grownBy (wj.alloc (.cells #[.slice ax bs.length cs, .slice asp qs.length csp, .slice at' bt.length ct, .slice atp qt.length ctp] 36)) none := World.grownBy_alloc _ _ none
              generalize (wj.alloc (.cells #[.slice ax bs.length cs, .slice asp qs.length csp, .slice at' bt.length ct, .slice atp qt.length ctp] 36)) = W5 at *
              have GJ : Hid (wj.grownBy W5 (some d)) := Lib.hid (hg.but _)
              replace EU := Lib.hid (EU.out.step hg); replace EX := Lib.hid (EX.out.step hg); replace ET := Lib.hid (ET.out.step hg); replace EV := Lib.hid (EV.out.step hg); replace HS := Lib.hid (HS.out.step hg)
              clear hg
              have c0 : W5.cell? ⟨wj.heap.size, 0, none⟩ = some (.slice ax bs.length cs) := by rw [World.cell?, k5]; rfl
              have c1 : W5.cell? ⟨wj.heap.size, 1, none⟩ = some (.slice asp qs.length csp) := by rw [World.cell?, k5]; rfl
              have c2 : W5.cell? ⟨wj.heap.size, 2, none⟩ = some (.slice at' bt.length ct) := by rw [World.cell?, k5]; rfl
              have c3 : W5.cell? ⟨wj.heap.size, 3, none⟩ = some (.slice atp qt.length ctp) := by rw [World.cell?, k5]; rfl
              have hlt5 : wj.heap.size < W5.heap.size := (Array.getElem?_eq_some_iff.1 k5).1
              clear k5
              obtain ⟨B5, hB5⟩ : ∃ B5, wj.heap.size = B5 := ⟨_, rfl⟩
              rw [hB5] at c0 c1 c2 c3 hlt5 ⊢
              clear hB5
              have n1 : ¬ W5.heap.size = B5 := by omega
              have n2 : ¬ W5.heap.size + 1 = B5 := by omega
              have a1 : ∀ (o : Obj) (x : Nat), (W5.alloc o).cell? ⟨B5, x, none⟩ = W5.cell? ⟨B5, x, none⟩ := fun o x => World.cell?_alloc_lt _ _ _ hlt5
              have a2 : ∀ (o o' : Obj) (x : Nat), ((W5.alloc o).alloc o').cell? ⟨B5, x, none⟩ = W5.cell? ⟨B5, x, none⟩ := fun o o' x => by
                rw [World.cell?_alloc_lt _ _ _ (show B5 < (W5.alloc o).heap.size by show _ < (W5.heap.push _).size; rw [Array.size_push]; omega), a1]
              apply mp2
              · intro key
                have KEY := Lib.hid key
                clear key
                go_region
                · generalize hwb : World.drew _ = W6
                  have kA : W6.heap[W5.heap.size]? = some (.cells #[.slice ax bs.length cs, .slice asp qs.length csp] 26 (0, 0)) := by rw [← hwb]; exact heap_old _ (heap_new _ rfl)
                  have kB : W6.heap[W5.heap.size + 1]? = some (.cells #[.slice at' bt.length ct, .slice atp qt.length ctp] 26 (0, 0)) := by rw [← hwb]; exact heap_new _ (by show _ = (W5.heap.push _).size; simp)
                  have hg : W5.grownBy W6 none := by rw [← hwb]; exact grown_trans (grown_after (grown_after (grown_refl _ _))) (grown_drew _ _)
                  clear hwb
                  have hdl := HS.out.lt
                  obtain ⟨B25, hB25⟩ : ∃ B25, W5.heap.size + 1 = B25 := ⟨_, rfl⟩
                  obtain ⟨B24, hB24⟩ : ∃ B24, W5.heap.size = B24 := ⟨_, rfl⟩
                  rw [hB25] at kB ⊢
                  rw [hB24] at kA hdl ⊢
                  have E24 := Lib.hid (Ev.box (d := d) kA (by omega))
                  have E25 := Lib.hid (Ev.box (d := d) kB (by omega))
                  replace EU := Lib.hid (EU.out.step hg)
                  replace EX := Lib.hid (EX.out.step hg)
                  replace ET := Lib.hid (ET.out.step hg)
                  replace EV := Lib.hid (EV.out.step hg)
                  replace HS := Lib.hid (HS.out.step hg)
                  replace GJ := Lib.hid (grown_trans GJ.out (hg.but _))
                  clear kA kB hg hdl hB24 hB25
                  revert GJ; revert HS; revert EV; revert ET; revert EX; revert EU; revert E25; revert E24
                  revert B25
                  revert B24
                  revert W6
                  exact KEY.out
                · generalize hwb : World.drew _ = W6
                  have kA : W6.heap[W5.heap.size]? = some (.cells #[.slice at' bt.length ct, .slice atp qt.length ctp] 26 (0, 0)) := by rw [← hwb]; exact heap_old _ (heap_new _ rfl)
                  have kB : W6.heap[W5.heap.size + 1]? = some (.cells #[.slice ax bs.length cs, .slice asp qs.length csp] 26 (0, 0)) := by rw [← hwb]; exact heap_new _ (by show _ = (W5.heap.push _).size; simp)
                  have hg : W5.grownBy W6 none := by rw [← hwb]; exact grown_trans (grown_after (grown_after (grown_refl _ _))) (grown_drew _ _)
                  clear hwb
                  have hdl := HS.out.lt
                  obtain ⟨B24, hB24⟩ : ∃ B24, W5.heap.size + 1 = B24 := ⟨_, rfl⟩
                  obtain ⟨B25, hB25⟩ : ∃ B25, W5.heap.size = B25 := ⟨_, rfl⟩
                  rw [hB24] at kB ⊢
                  rw [hB25] at kA hdl ⊢
                  have E25 := Lib.hid (Ev.box (d := d) kA (by omega))
                  have E24 := Lib.hid (Ev.box (d := d) kB (by omega))
                  replace EU := Lib.hid (EU.out.step hg)
                  replace EX := Lib.hid (EX.out.step hg)
                  replace ET := Lib.hid (ET.out.step hg)
                  replace EV := Lib.hid (EV.out.step hg)
                  replace HS := Lib.hid (HS.out.step hg)
                  replace GJ := Lib.hid (grown_trans GJ.out (hg.but _))
                  clear kA kB hg hdl hB25 hB24
                  revert GJ; revert HS; revert EV; revert ET; revert EX; revert EU; revert E25; revert E24
                  revert B25
                  revert B24
                  revert W6
                  exact KEY.out
              clear c0 c1 c2 c3 a1 a2 n1 n2 EU EX ET EV HS GJ
              intro W6 B24 B25 E24 E25 EU EX ET EV HS GJ
              have hg := grown_drew W6 none
              replace E24 := Lib.hid (E24.out.step hg); replace E25 := Lib.hid (E25.out.step hg); replace EU := Lib.hid (EU.out.step hg); replace EX := Lib.hid (EX.out.step hg); replace ET := Lib.hid (ET.out.step hg); replace EV := Lib.hid (EV.out.step hg); replace HS := Lib.hid (HS.out.step hg)
              replace GJ := Lib.hid (grown_trans GJ.out (hg.but _))
              clear hg
              have cbx := (cells_of E25.out.at).1
              go_wp2_with fail
              apply mp2
              · intro key
                have KEY := Lib.hid key
                clear key
                go_region_law (first | (refine step_call 136 16 _ _ _ _ _ Try.f16 _ Try.func16 (by kernel_rfl) rfl [p, .int .i64 (m : Int), .int .i64 9] (by kernel_rfl) _ (small_ev (w := W6.drew) HS.out (m : Int) 9 (by omega) (by omega) (by omega)) ?_; rintro e w7' ⟨asl, csl, us2, rfl, hu, hs, hg⟩; have ES := Lib.hid hu; replace E24 := Lib.hid (E24.out.deal hg); replace E25 := Lib.hid (E25.out.deal hg); replace EU := Lib.hid (EU.out.deal hg); replace EX := Lib.hid (EX.out.deal hg); replace ET := Lib.hid (ET.out.deal hg); replace EV := Lib.hid (EV.out.deal hg); replace GJ := Lib.hid (grown_trans GJ.out hg); replace HS := Lib.hid hs; have cby := (cells_of E25.out.at).1; clear hu hs hg; refine ⟨_, rfl, ?_⟩))
                all_goals
                  have kv : (w7'.alloc (.cells #[.slice a5 xs.length c5, .slice asl us2.length csl, .slice at' bt.length ct] 22)).heap[w7'.heap.size]? = some (.cells #[.slice a5 xs.length c5, .slice asl us2.length csl, .slice at' bt.length ct] 22 (0, 0)) := heap_new _ rfl
                  have hg : w7'.grownBy (w7'.alloc (.cells #[.slice a5 xs.length c5, .slice asl us2.length csl, .slice at' bt.length ct] 22)) none := World.grownBy_alloc _ _ none
                  generalize (w7'.alloc (.cells #[.slice a5 xs.length c5, .slice asl us2.length csl, .slice at' bt.length ct] 22)) = W7 at *
                  have hdl := HS.out.lt
                  have EW := Lib.hid (Ev.box (d := d) kv (by omega))
                  replace E24 := Lib.hid (E24.out.step hg); replace E25 := Lib.hid (E25.out.step hg); replace EU := Lib.hid (EU.out.step hg); replace EX := Lib.hid (EX.out.step hg); replace ET := Lib.hid (ET.out.step hg); replace EV := Lib.hid (EV.out.step hg); replace HS := Lib.hid (HS.out.step hg); replace ES := Lib.hid (ES.out.step hg)
                  replace GJ := Lib.hid (grown_trans GJ.out (hg.but _))
                  obtain ⟨BW, hBW⟩ : ∃ BW, w7'.heap.size = BW := ⟨_, rfl⟩
                  rw [hBW] at EW ⊢
                  clear kv hg hdl hBW cby
                  have VB : Hid (VecsE d BW W7) := Lib.hid (fun t ht => by
                    obtain rfl | rfl | rfl : t = 0 ∨ t = 1 ∨ t = 2 := by omega
                    · exact ⟨a5, c5, xs, fun w' g => ⟨by rw [World.cell?, EW.out w' g]; rfl, EX.out w' g⟩⟩
                    · exact ⟨asl, csl, us2, fun w' g => ⟨by rw [World.cell?, EW.out w' g]; rfl, ES.out w' g⟩⟩
                    · exact ⟨at', ct, bt, fun w' g => ⟨by rw [World.cell?, EW.out w' g]; rfl, (EV.out w' g).2.2.2⟩⟩)
                  clear EW ES
                  go_wp2_with fail
                  go_simp
                  revert VB; revert GJ; revert HS; revert EV; revert ET; revert EX; revert EU; revert E25; revert E24; revert BW; revert W7; revert us2; revert csl; revert asl
                  exact KEY.out
              clear E24 E25 EU EX ET EV HS GJ cbx
              intro asl csl us2 W7 BW E24 E25 EU EX ET EV HS GJ VB
              have G6 := Lib.hid (grown_refl W7 none)
              go_loopw [141] (fun i wr => ∃ t : Nat, i = .int .i64 t ∧ t ≤ 3 ∧ Hid (W7.grownBy wr none)) (fun i _ => 3 - (intOf i).toNat)
              case atStart => exact ⟨0, rfl, Nat.zero_le _, G6⟩
              case round =>
                clear G6
                obtain ⟨t, rfl, ht, G6⟩ := hrel
                rename World => wt
                by_cases ht3 : t < 3
                · have h4 : (t : Int) < 3 := by omega
                  have i3 : IntKind.i64.wrap ((t : Int) + 1) = (t : Int) + 1 := IntWalk.i64_in _ (by omega)
                  obtain ⟨au, cu, us3, hv⟩ := VB.out t ht3
                  have VV := Lib.hid hv
                  clear hv
                  obtain ⟨r, hP, hR, -, hbd⟩ := times_u bs us3 qs HQS.out
                  have HP := Lib.hid hP; have HR := Lib.hid hR
                  have HBD : Hid (∀ x ∈ r.getD [], -9223372036854775808 ≤ x ∧ x ≤ 9223372036854775807) := Lib.hid (fun x hx => by have := hbd x hx; omega)
                  clear hP hR hbd
                  have cv0 := (VV.out.on G6.out).1
                  have ca0 := (cells_of (E24.out.on G6.out)).1; have ca1 := (cells_of (E24.out.on G6.out)).2
                  go_wp2_with fail
                  clear cv0 ca0 ca1
                  refine (HP.out _ _ _ (EV.out.on G6.out).2.1.1 (VV.out.on G6.out).2).mono ?_
                  rintro e w41 ⟨v41, rfl, ho, hg⟩
                  have R1 := Lib.hid (ho.row HBD.out)
                  replace G6 := Lib.hid (grown_trans G6.out hg)
                  obtain ⟨a41, c41, rfl⟩ := ho.slice
                  clear ho hg
                  have ca0 := (cells_of (E24.out.on G6.out)).1; have ca1 := (cells_of (E24.out.on G6.out)).2
                  go_wp2_with fail
                  clear ca0 ca1
                  refine (HR.out _ _ _ (EV.out.on G6.out).2.1.1 (VV.out.on G6.out).2).mono ?_
                  rintro e w42 ⟨v42, rfl, ho, hg⟩
                  have R2 := Lib.hid (ho.row HBD.out)
                  replace R1 := Lib.hid (R1.out.same hg)
                  replace G6 := Lib.hid (grown_trans G6.out hg)
                  obtain ⟨a42, c42, rfl⟩ := ho.slice
                  clear ho hg HP HR HBD
                  generalize r.isSome = bo at *
                  generalize r.getD [] = L at *
                  clear r
                  go_wp2_with fail
                  obtain ⟨B1, hP1, hR1⟩ := proves_u bs us3 ts qs HQS.out
                  obtain ⟨B2, hP2, hR2⟩ := proves_u bs us3 L qs HQS.out
                  have HP1 := Lib.hid hP1; have HP2 := Lib.hid hP2; have HR1 := Lib.hid hR1; have HR2 := Lib.hid hR2
                  clear hP1 hP2 hR1 hR2
                  have l0 : ∀ x : Later w42, x.to.cell? ⟨B24, 0, none⟩ = some (.slice ax bs.length cs) := fun x => (cells_of (E24.out.on (grown_trans G6.out x.grown))).1
                  have l1 : ∀ x : Later w42, x.to.cell? ⟨B24, 1, none⟩ = some (.slice asp qs.length csp) := fun x => (cells_of (E24.out.on (grown_trans G6.out x.grown))).2
                  have d1 : (bo != bo) = false := by simp
                  have d2 : (B1 != B1) = false := by simp
                  have d3 : (B2 != B2) = false := by simp
                  refine wp_region_later (by kernel_rfl) (by kernel_rfl) ?_
                  repeat (go_big_quiet_step ((first | (go_at_call 19; exact Calls.later (same_yes (R1.out.same (Later.grown _)) (R2.out.same (Later.grown _)))) | (go_at_call 20; first | exact Calls.later (HP1.out _ _ _ _ (EV.out.on (grown_trans G6.out (Later.grown _))).2.1.1 (VV.out.on (grown_trans G6.out (Later.grown _))).2 (ET.out.on (grown_trans G6.out (Later.grown _)))) | exact Calls.later (HP2.out _ _ _ _ (EV.out.on (grown_trans G6.out (Later.grown _))).2.1.1 (VV.out.on (grown_trans G6.out (Later.grown _))).2 (R2.out.same (Later.grown _)))) | (go_at_call 21; first | exact Calls.later (HR1.out _ _ _ _ (EV.out.on (grown_trans G6.out (Later.grown _))).2.1.1 (VV.out.on (grown_trans G6.out (Later.grown _))).2 (ET.out.on (grown_trans G6.out (Later.grown _)))) | exact Calls.later (HR2.out _ _ _ _ (EV.out.on (grown_trans G6.out (Later.grown _))).2.1.1 (VV.out.on (grown_trans G6.out (Later.grown _))).2 (R2.out.same (Later.grown _)))))))
                  repeat (go_big_quiet_step ((first | (go_at_call 19; exact Calls.later (same_yes (R1.out.same (Later.grown _)) (R2.out.same (Later.grown _)))) | (go_at_call 20; first | exact Calls.later (HP1.out _ _ _ _ (EV.out.on (grown_trans G6.out (Later.grown _))).2.1.1 (VV.out.on (grown_trans G6.out (Later.grown _))).2 (ET.out.on (grown_trans G6.out (Later.grown _)))) | exact Calls.later (HP2.out _ _ _ _ (EV.out.on (grown_trans G6.out (Later.grown _))).2.1.1 (VV.out.on (grown_trans G6.out (Later.grown _))).2 (R2.out.same (Later.grown _)))) | (go_at_call 21; first | exact Calls.later (HR1.out _ _ _ _ (EV.out.on (grown_trans G6.out (Later.grown _))).2.1.1 (VV.out.on (grown_trans G6.out (Later.grown _))).2 (ET.out.on (grown_trans G6.out (Later.grown _)))) | exact Calls.later (HR2.out _ _ _ _ (EV.out.on (grown_trans G6.out (Later.grown _))).2.1.1 (VV.out.on (grown_trans G6.out (Later.grown _))).2 (R2.out.same (Later.grown _)))))))
                  refine wpQuiet_nil ?_
                  rintro _ ⟨x, rfl⟩
                  have hg := x.grown
                  replace G6 := Lib.hid (grown_trans G6.out hg)
                  clear l0 l1 d1 d2 d3 HP1 HP2 HR1 HR2 R1 R2 hg
                  generalize x.to = w43 at *
                  clear x
                  go_wp2_with fail
                  obtain ⟨b1, hP1, hR1⟩ := has_u nv (((.slice ax bs.length cs, .slice asp qs.length csp), (bs, qs)) :: us) us3
                  obtain ⟨b2, hP2, hR2⟩ := has_u nv [((.slice ax bs.length cs, .slice asp qs.length csp), (bs, qs)), ((.slice at' bt.length ct, .slice atp qt.length ctp), (bt, qt))] us3
                  have HP1 := Lib.hid hP1; have HP2 := Lib.hid hP2; have HR1 := Lib.hid hR1; have HR2 := Lib.hid hR2
                  have HUL : Hid (∀ u ∈ us, u.2.2.length ≤ 20) := Lib.hid (by obtain ⟨-, -, -, -, -, h⟩ := HU20.out _ (EU.out.on G6.out); exact fun u hu => (h u hu).2)
                  clear hP1 hP2 hR1 hR2
                  refine wp_told (HasV nv (.slice ax bs.length cs) (.slice asp qs.length csp) (.slice at' bt.length ct) (.slice atp qt.length ctp) (.slice av us.length cv) (.slice au us3.length cu) bs bt qs qt us b1 b2) (by kernel_rfl) (by kernel_rfl) HasV.mono ?_ ?_
                  · refine ⟨?_, ?_, ?_, ?_, ?_, ?_, ?_, ?_, ?_, ?_, ?_, ?_, ?_, ?_, ?_, ?_, ?_, ?_, ?_, ?_, ?_, ?_, ?_, ?_, ?_, ?_, ?_, ?_, ?_, ?_, trivial⟩
                    · intro a w2 ha hg hd
                      exact .inl ⟨wanted_none rfl, wp_move (v := .int .i64 nv) rfl ((ha.eval (s := 21) (by decide)).trans rfl) ⟨_, rfl, rfl, grown_refl _ _⟩⟩
                    · intro a w2 ha hg hd
                      exact .inl ⟨wanted_none rfl, wp_load2 (B := B24) rfl ((ha.eval (s := 24) (by decide)).trans rfl) (cells_of (E24.out.on (grown_trans G6.out hg))).1 (cells_of (E24.out.on (grown_trans G6.out hg))).2 ⟨_, rfl, rfl, grown_refl _ _⟩⟩
                    · intro a w2 ha hg hd
                      have h1 : a.eval (.tmp 189) = .agg #[.slice ax bs.length cs, .slice asp qs.length csp] := hd 1 (by decide) 189 rfl
                      exact .inl ⟨wanted_none rfl, wp_lit1 (.tmp 189) _ _ rfl h1 (linX_one (EV.out.on (grown_trans G6.out hg)).2.1.1) (fun G w2 c0 c1 g => ⟨_, rfl, ⟨G, rfl, c0, c1⟩, g⟩)⟩
                    · intro a w2 ha hg hd
                      exact .inl ⟨wanted_none rfl, wp_move (v := .slice av us.length cv) rfl ((ha.eval (s := 2) (by decide)).trans rfl) ⟨_, rfl, rfl, grown_refl _ _⟩⟩
                    · intro a w2 ha hg hd
                      obtain ⟨G, e, c0, c1⟩ := hd 2 (by decide) 190 rfl
                      have h3 : a.eval (.tmp 191) = .slice av us.length cv := hd 3 (by decide) 191 rfl
                      exact .inl ⟨wanted_none rfl, wp_app_sets2 (.tmp 190) (.tmp 191) rfl G _ _ e c0 c1 bs qs (EV.out.on (grown_trans G6.out hg)).2.1.1 HQS.out _ us h3 (EU.out.on (grown_trans G6.out hg)) HU12.out HUL.out (fun x c w2 hs g => ⟨_, rfl, hs, g⟩)⟩
                    · intro a w2 ha hg hd
                      exact .inl ⟨wanted_none rfl, wp_move (v := .slice au us3.length cu) rfl ((ha.eval (s := 27) (by decide)).trans rfl) ⟨_, rfl, rfl, grown_refl _ _⟩⟩
                    · intro a w2 ha hg hd
                      have h0 : a.eval (.tmp 188) = .int .i64 nv := hd 0 (by decide) 188 rfl
                      have h4 : SetsX w2 (a.eval (.tmp 192)) (((.slice ax bs.length cs, .slice asp qs.length csp), (bs, qs)) :: us) := hd 4 (by decide) 192 rfl
                      have h5 : a.eval (.tmp 193) = .slice au us3.length cu := hd 5 (by decide) 193 rfl
                      exact .inl ⟨wanted_none rfl, oper_call 194 22 _ _ _ _ _ _ Try.f22 _ Try.func22 (by kernel_rfl) rfl [.int .i64 nv, a.eval (.tmp 192), .slice au us3.length cu] (by simp only [List.map_cons, List.map_nil]; rw [h0, h5]) _ (HP1.out _ _ _ h4 (VV.out.on (grown_trans G6.out hg)).2) (fun e w3 hh => ⟨_, hh.1, _, rfl, rfl, hh.2⟩)⟩
                    · intro a w2 ha hg hd
                      exact .inl ⟨wanted_none rfl, wp_move (v := .int .i64 nv) rfl ((ha.eval (s := 21) (by decide)).trans rfl) ⟨_, rfl, rfl, grown_refl _ _⟩⟩
                    · intro a w2 ha hg hd
                      exact .inl ⟨wanted_none rfl, wp_load2 (B := B24) rfl ((ha.eval (s := 24) (by decide)).trans rfl) (cells_of (E24.out.on (grown_trans G6.out hg))).1 (cells_of (E24.out.on (grown_trans G6.out hg))).2 ⟨_, rfl, rfl, grown_refl _ _⟩⟩
                    · intro a w2 ha hg hd
                      have h1 : a.eval (.tmp 196) = .agg #[.slice ax bs.length cs, .slice asp qs.length csp] := hd 8 (by decide) 196 rfl
                      exact .inl ⟨wanted_none rfl, wp_lit1 (.tmp 196) _ _ rfl h1 (linX_one (EV.out.on (grown_trans G6.out hg)).2.1.1) (fun G w2 c0 c1 g => ⟨_, rfl, ⟨G, rfl, c0, c1⟩, g⟩)⟩
                    · intro a w2 ha hg hd
                      exact .inl ⟨wanted_none rfl, wp_move (v := .slice av us.length cv) rfl ((ha.eval (s := 2) (by decide)).trans rfl) ⟨_, rfl, rfl, grown_refl _ _⟩⟩
                    · intro a w2 ha hg hd
                      obtain ⟨G, e, c0, c1⟩ := hd 9 (by decide) 197 rfl
                      have h3 : a.eval (.tmp 198) = .slice av us.length cv := hd 10 (by decide) 198 rfl
                      exact .inl ⟨wanted_none rfl, wp_app_sets2 (.tmp 197) (.tmp 198) rfl G _ _ e c0 c1 bs qs (EV.out.on (grown_trans G6.out hg)).2.1.1 HQS.out _ us h3 (EU.out.on (grown_trans G6.out hg)) HU12.out HUL.out (fun x c w2 hs g => ⟨_, rfl, hs, g⟩)⟩
                    · intro a w2 ha hg hd
                      exact .inl ⟨wanted_none rfl, wp_move (v := .slice au us3.length cu) rfl ((ha.eval (s := 27) (by decide)).trans rfl) ⟨_, rfl, rfl, grown_refl _ _⟩⟩
                    · intro a w2 ha hg hd
                      have h0 : a.eval (.tmp 195) = .int .i64 nv := hd 7 (by decide) 195 rfl
                      have h4 : SetsX w2 (a.eval (.tmp 199)) (((.slice ax bs.length cs, .slice asp qs.length csp), (bs, qs)) :: us) := hd 11 (by decide) 199 rfl
                      have h5 : a.eval (.tmp 200) = .slice au us3.length cu := hd 12 (by decide) 200 rfl
                      exact .inl ⟨wanted_none rfl, oper_call 201 23 _ _ _ _ _ _ Try.f23 _ Try.func23 (by kernel_rfl) rfl [.int .i64 nv, a.eval (.tmp 199), .slice au us3.length cu] (by simp only [List.map_cons, List.map_nil]; rw [h0, h5]) _ (HR1.out _ _ _ h4 (VV.out.on (grown_trans G6.out hg)).2) (fun e w3 hh => ⟨_, hh.1, _, rfl, rfl, hh.2⟩)⟩
                    · intro a w2 ha hg hd
                      have h6 : a.eval (.tmp 194) = .bool b1 := hd 6 (by decide) 194 rfl
                      have h7 : a.eval (.tmp 201) = .bool b1 := hd 13 (by decide) 201 rfl
                      exact .inl ⟨wanted_none rfl, wp_neq rfl h6 h7 ⟨_, rfl, rfl, grown_refl _ _⟩⟩
                    · intro a w2 ha hg hd
                      have h6 : a.eval (.tmp 202) = .bool false := hd 14 (by decide) 202 rfl
                      exact .inl ⟨wanted_none rfl, wp_move (v := .bool false) rfl h6 ⟨_, rfl, rfl, grown_refl _ _⟩⟩
                    · intro a w2 ha hg hd
                      have h15 : a.eval (.tmp 203) = .bool false := hd 15 (by decide) 203 rfl
                      exact .inl ⟨wanted_of (g := 15) (d := 203) rfl rfl h15, wp_move (v := .int .i64 nv) rfl ((ha.eval (s := 21) (by decide)).trans rfl) ⟨_, rfl, rfl, grown_refl _ _⟩⟩
                    · intro a w2 ha hg hd
                      have h15 : a.eval (.tmp 203) = .bool false := hd 15 (by decide) 203 rfl
                      exact .inl ⟨wanted_of (g := 15) (d := 203) rfl rfl h15, wp_load2 (B := B24) rfl ((ha.eval (s := 24) (by decide)).trans rfl) (cells_of (E24.out.on (grown_trans G6.out hg))).1 (cells_of (E24.out.on (grown_trans G6.out hg))).2 ⟨_, rfl, rfl, grown_refl _ _⟩⟩
                    · intro a w2 ha hg hd
                      have h15 : a.eval (.tmp 203) = .bool false := hd 15 (by decide) 203 rfl
                      exact .inl ⟨wanted_of (g := 15) (d := 203) rfl rfl h15, wp_load2 (B := B25) rfl ((ha.eval (s := 25) (by decide)).trans rfl) (cells_of (E25.out.on (grown_trans G6.out hg))).1 (cells_of (E25.out.on (grown_trans G6.out hg))).2 ⟨_, rfl, rfl, grown_refl _ _⟩⟩
                    · intro a w2 ha hg hd
                      have h15 : a.eval (.tmp 203) = .bool false := hd 15 (by decide) 203 rfl
                      have h1 : a.eval (.tmp 205) = .agg #[.slice ax bs.length cs, .slice asp qs.length csp] := hd 17 (by decide) 205 rfl
                      have h2 : a.eval (.tmp 206) = .agg #[.slice at' bt.length ct, .slice atp qt.length ctp] := hd 18 (by decide) 206 rfl
                      exact .inl ⟨wanted_of (g := 15) (d := 203) rfl rfl h15, wp_lit2 (.tmp 205) (.tmp 206) _ _ _ _ rfl h1 h2 (EV.out.on (grown_trans G6.out hg)).2.1.1 (EV.out.on (grown_trans G6.out hg)).2.2.1 HQS.out HQT.out (fun v w3 hs g => ⟨_, rfl, hs, g⟩)⟩
                    · intro a w2 ha hg hd
                      have h15 : a.eval (.tmp 203) = .bool false := hd 15 (by decide) 203 rfl
                      exact .inl ⟨wanted_of (g := 15) (d := 203) rfl rfl h15, wp_move (v := .slice au us3.length cu) rfl ((ha.eval (s := 27) (by decide)).trans rfl) ⟨_, rfl, rfl, grown_refl _ _⟩⟩
                    · intro a w2 ha hg hd
                      have h15 : a.eval (.tmp 203) = .bool false := hd 15 (by decide) 203 rfl
                      have h0 : a.eval (.tmp 204) = .int .i64 nv := hd 16 (by decide) 204 rfl
                      have h4 : SetsX w2 (a.eval (.tmp 207)) [((.slice ax bs.length cs, .slice asp qs.length csp), (bs, qs)), ((.slice at' bt.length ct, .slice atp qt.length ctp), (bt, qt))] := hd 19 (by decide) 207 rfl
                      have h5 : a.eval (.tmp 208) = .slice au us3.length cu := hd 20 (by decide) 208 rfl
                      exact .inl ⟨wanted_of (g := 15) (d := 203) rfl rfl h15, oper_call 209 22 _ _ _ _ _ _ Try.f22 _ Try.func22 (by kernel_rfl) rfl [.int .i64 nv, a.eval (.tmp 207), .slice au us3.length cu] (by simp only [List.map_cons, List.map_nil]; rw [h0, h5]) _ (HP2.out _ _ _ h4 (VV.out.on (grown_trans G6.out hg)).2) (fun e w3 hh => ⟨_, hh.1, _, rfl, rfl, hh.2⟩)⟩
                    · intro a w2 ha hg hd
                      have h15 : a.eval (.tmp 203) = .bool false := hd 15 (by decide) 203 rfl
                      exact .inl ⟨wanted_of (g := 15) (d := 203) rfl rfl h15, wp_move (v := .int .i64 nv) rfl ((ha.eval (s := 21) (by decide)).trans rfl) ⟨_, rfl, rfl, grown_refl _ _⟩⟩
                    · intro a w2 ha hg hd
                      have h15 : a.eval (.tmp 203) = .bool false := hd 15 (by decide) 203 rfl
                      exact .inl ⟨wanted_of (g := 15) (d := 203) rfl rfl h15, wp_load2 (B := B24) rfl ((ha.eval (s := 24) (by decide)).trans rfl) (cells_of (E24.out.on (grown_trans G6.out hg))).1 (cells_of (E24.out.on (grown_trans G6.out hg))).2 ⟨_, rfl, rfl, grown_refl _ _⟩⟩
                    · intro a w2 ha hg hd
                      have h15 : a.eval (.tmp 203) = .bool false := hd 15 (by decide) 203 rfl
                      exact .inl ⟨wanted_of (g := 15) (d := 203) rfl rfl h15, wp_load2 (B := B25) rfl ((ha.eval (s := 25) (by decide)).trans rfl) (cells_of (E25.out.on (grown_trans G6.out hg))).1 (cells_of (E25.out.on (grown_trans G6.out hg))).2 ⟨_, rfl, rfl, grown_refl _ _⟩⟩
                    · intro a w2 ha hg hd
                      have h15 : a.eval (.tmp 203) = .bool false := hd 15 (by decide) 203 rfl
                      have h1 : a.eval (.tmp 211) = .agg #[.slice ax bs.length cs, .slice asp qs.length csp] := hd 23 (by decide) 211 rfl
                      have h2 : a.eval (.tmp 212) = .agg #[.slice at' bt.length ct, .slice atp qt.length ctp] := hd 24 (by decide) 212 rfl
                      exact .inl ⟨wanted_of (g := 15) (d := 203) rfl rfl h15, wp_lit2 (.tmp 211) (.tmp 212) _ _ _ _ rfl h1 h2 (EV.out.on (grown_trans G6.out hg)).2.1.1 (EV.out.on (grown_trans G6.out hg)).2.2.1 HQS.out HQT.out (fun v w3 hs g => ⟨_, rfl, hs, g⟩)⟩
                    · intro a w2 ha hg hd
                      have h15 : a.eval (.tmp 203) = .bool false := hd 15 (by decide) 203 rfl
                      exact .inl ⟨wanted_of (g := 15) (d := 203) rfl rfl h15, wp_move (v := .slice au us3.length cu) rfl ((ha.eval (s := 27) (by decide)).trans rfl) ⟨_, rfl, rfl, grown_refl _ _⟩⟩
                    · intro a w2 ha hg hd
                      have h15 : a.eval (.tmp 203) = .bool false := hd 15 (by decide) 203 rfl
                      have h0 : a.eval (.tmp 210) = .int .i64 nv := hd 22 (by decide) 210 rfl
                      have h4 : SetsX w2 (a.eval (.tmp 213)) [((.slice ax bs.length cs, .slice asp qs.length csp), (bs, qs)), ((.slice at' bt.length ct, .slice atp qt.length ctp), (bt, qt))] := hd 25 (by decide) 213 rfl
                      have h5 : a.eval (.tmp 214) = .slice au us3.length cu := hd 26 (by decide) 214 rfl
                      exact .inl ⟨wanted_of (g := 15) (d := 203) rfl rfl h15, oper_call 215 23 _ _ _ _ _ _ Try.f23 _ Try.func23 (by kernel_rfl) rfl [.int .i64 nv, a.eval (.tmp 213), .slice au us3.length cu] (by simp only [List.map_cons, List.map_nil]; rw [h0, h5]) _ (HR2.out _ _ _ h4 (VV.out.on (grown_trans G6.out hg)).2) (fun e w3 hh => ⟨_, hh.1, _, rfl, rfl, hh.2⟩)⟩
                    · intro a w2 ha hg hd
                      have h15 : a.eval (.tmp 203) = .bool false := hd 15 (by decide) 203 rfl
                      have h6 : a.eval (.tmp 209) = .bool b2 := hd 21 (by decide) 209 rfl
                      have h7 : a.eval (.tmp 215) = .bool b2 := hd 27 (by decide) 215 rfl
                      exact .inl ⟨wanted_of (g := 15) (d := 203) rfl rfl h15, wp_neq rfl h6 h7 ⟨_, rfl, rfl, grown_refl _ _⟩⟩
                    · intro a w2 ha hg hd
                      have h15 : a.eval (.tmp 203) = .bool false := hd 15 (by decide) 203 rfl
                      have h6 : a.eval (.tmp 216) = .bool false := hd 28 (by decide) 216 rfl
                      exact .inl ⟨wanted_none rfl, wp_pick (v := .bool false) rfl h15 h6 ⟨_, rfl, rfl, grown_refl _ _⟩⟩
                  · intro vs w44 hg hv
                    have hv29 : vs 29 = .bool false := hv 29 217 rfl
                    replace G6 := Lib.hid (grown_trans G6.out hg)
                    clear hg hv HP1 HP2 HR1 HR2 HUL
                    simp only [putAll, Nat.reduceAdd, hv29]
                    clear hv29
                    go_simp
                    obtain ⟨x9, y9, z9, hP, hR, -, -, -⟩ := shift_u nv bs us3 qs HQS.out
                    have HP := Lib.hid hP; have HR := Lib.hid hR
                    clear hP hR
                    have ca0 := (cells_of (E24.out.on G6.out)).1; have ca1 := (cells_of (E24.out.on G6.out)).2
                    go_wp2_with fail
                    clear ca0 ca1
                    refine (HP.out _ _ _ (EV.out.on G6.out).2.1.1 (VV.out.on G6.out).2).mono ?_
                    rintro e w45 ⟨sv1, rfl, hl, hg⟩
                    have HL1 := Lib.hid hl
                    replace G6 := Lib.hid (grown_trans G6.out hg)
                    obtain ⟨p1, n1, c1, pp1, nn1, cc1, rfl⟩ := linV_open hl
                    clear hl hg
                    have ca0 : ∀ o : Obj, (w45.alloc o).cell? ⟨B24, 0, none⟩ = some (.slice ax bs.length cs) := fun o => (cells_of (E24.out.on (grown_trans G6.out (World.grownBy_alloc _ _ none)))).1
                    have ca1 : ∀ o : Obj, (w45.alloc o).cell? ⟨B24, 1, none⟩ = some (.slice asp qs.length csp) := fun o => (cells_of (E24.out.on (grown_trans G6.out (World.grownBy_alloc _ _ none)))).2
                    have cb0 : ∀ o : Obj, (w45.alloc o).cell? ⟨B25, 0, none⟩ = some (.slice at' bt.length ct) := fun o => (cells_of (E25.out.on (grown_trans G6.out (World.grownBy_alloc _ _ none)))).1
                    have cb1 : ∀ o : Obj, (w45.alloc o).cell? ⟨B25, 1, none⟩ = some (.slice atp qt.length ctp) := fun o => (cells_of (E25.out.on (grown_trans G6.out (World.grownBy_alloc _ _ none)))).2
                    go_wp2_with fail
                    clear ca0 ca1 cb0 cb1
                    have kb : (w45.alloc (.cells #[.slice p1 n1 c1, .slice pp1 nn1 cc1] 26)).heap[w45.heap.size]? = some (.cells #[.slice p1 n1 c1, .slice pp1 nn1 cc1] 26 (0, 0)) := heap_new _ rfl
                    have hg : w45.grownBy (w45.alloc (.cells #[.slice p1 n1 c1, .slice pp1 nn1 cc1] 26)) none := World.grownBy_alloc _ _ none
                    generalize (w45.alloc (.cells #[.slice p1 n1 c1, .slice pp1 nn1 cc1] 26)) = W8 at *
                    have E32 := Lib.hid (Ev.box (d := d) kb (by have := (HS.out.step G6.out).lt; omega))
                    replace G6 := Lib.hid (grown_trans G6.out hg)
                    replace HL1 := Lib.hid (HL1.out.same hg)
                    obtain ⟨B32, hB32⟩ : ∃ B32, w45.heap.size = B32 := ⟨_, rfl⟩
                    rw [hB32] at E32 ⊢
                    clear kb hg hB32
                    refine (HR.out _ _ _ (EV.out.on G6.out).2.1.1 (VV.out.on G6.out).2).mono ?_
                    rintro e w46 ⟨sv2, rfl, hl, hg⟩
                    replace HL1 := Lib.hid (HL1.out.same hg); replace E32 := Lib.hid (E32.out.step hg)
                    have HL2 := Lib.hid hl
                    replace G6 := Lib.hid (grown_trans G6.out hg)
                    obtain ⟨p2, n2, c2, pp2, nn2, cc2, rfl⟩ := linV_open hl
                    clear hl hg
                    have ce0 : ∀ o : Obj, (w46.alloc o).cell? ⟨B32, 0, none⟩ = some (.slice p1 n1 c1) := fun o => (cells_of (E32.out.on (World.grownBy_alloc _ _ none))).1
                    have ce1 : ∀ o : Obj, (w46.alloc o).cell? ⟨B32, 1, none⟩ = some (.slice pp1 nn1 cc1) := fun o => (cells_of (E32.out.on (World.grownBy_alloc _ _ none))).2
                    have ca0 : ∀ o : Obj, (w46.alloc o).cell? ⟨B24, 0, none⟩ = some (.slice ax bs.length cs) := fun o => (cells_of (E24.out.on (grown_trans G6.out (World.grownBy_alloc _ _ none)))).1
                    have ca1 : ∀ o : Obj, (w46.alloc o).cell? ⟨B24, 1, none⟩ = some (.slice asp qs.length csp) := fun o => (cells_of (E24.out.on (grown_trans G6.out (World.grownBy_alloc _ _ none)))).2
                    have cb0 : ∀ o : Obj, (w46.alloc o).cell? ⟨B25, 0, none⟩ = some (.slice at' bt.length ct) := fun o => (cells_of (E25.out.on (grown_trans G6.out (World.grownBy_alloc _ _ none)))).1
                    have cb1 : ∀ o : Obj, (w46.alloc o).cell? ⟨B25, 1, none⟩ = some (.slice atp qt.length ctp) := fun o => (cells_of (E25.out.on (grown_trans G6.out (World.grownBy_alloc _ _ none)))).2
                    go_wp2_with fail
                    clear ca0 ca1 cb0 cb1 ce0 ce1
                    have kb : (w46.alloc (.cells #[.slice p2 n2 c2, .slice pp2 nn2 cc2] 26)).heap[w46.heap.size]? = some (.cells #[.slice p2 n2 c2, .slice pp2 nn2 cc2] 26 (0, 0)) := heap_new _ rfl
                    have hg : w46.grownBy (w46.alloc (.cells #[.slice p2 n2 c2, .slice pp2 nn2 cc2] 26)) none := World.grownBy_alloc _ _ none
                    replace E32 := Lib.hid (E32.out.step hg); replace HL1 := Lib.hid (HL1.out.same hg)
                    generalize (w46.alloc (.cells #[.slice p2 n2 c2, .slice pp2 nn2 cc2] 26)) = W9 at *
                    have E34 := Lib.hid (Ev.box (d := d) kb (by have := (HS.out.step G6.out).lt; omega))
                    replace G6 := Lib.hid (grown_trans G6.out hg)
                    replace HL2 := Lib.hid (HL2.out.same hg)
                    obtain ⟨B34, hB34⟩ : ∃ B34, w46.heap.size = B34 := ⟨_, rfl⟩
                    rw [hB34] at E34 ⊢
                    clear kb hg hB34
                    clear HP HR
                    refine (same13_yes HL1.out HL2.out).mono ?_
                    rintro e w47 ⟨rfl, hg⟩
                    replace G6 := Lib.hid (grown_trans G6.out hg)
                    clear hg HL1 HL2 E32 E34
                    go_wp2_with fail
                    go_roundw
                    case rel => exact ⟨t + 1, by go_num, by omega, G6⟩
                    case measure => (simp [intOf]; try omega)
                · obtain rfl : t = 3 := by omega
                  have h4 : ¬ (((3 : Nat) : Int)) < 3 := by omega
                  obtain ⟨x9, y9, z9, hP, hR⟩ := sum_u nv bs bt qs qt HQS.out HQT.out
                  have HP := Lib.hid hP; have HR := Lib.hid hR
                  clear hP hR
                  have ca0 := (cells_of (E24.out.on G6.out)).1; have ca1 := (cells_of (E24.out.on G6.out)).2
                  have cb0 := (cells_of (E25.out.on G6.out)).1; have cb1 := (cells_of (E25.out.on G6.out)).2
                  go_wp2_with fail
                  clear ca0 ca1 cb0 cb1
                  refine (HP.out _ _ _ (EV.out.on G6.out).2.1.1 (EV.out.on G6.out).2.2.1).mono ?_
                  rintro e w45 ⟨sv1, rfl, hl, hg⟩
                  have HL1 := Lib.hid hl
                  replace G6 := Lib.hid (grown_trans G6.out hg)
                  obtain ⟨p1, n1, c1, pp1, nn1, cc1, rfl⟩ := linV_open hl
                  clear hl hg
                  have ca0 : ∀ o : Obj, (w45.alloc o).cell? ⟨B24, 0, none⟩ = some (.slice ax bs.length cs) := fun o => (cells_of (E24.out.on (grown_trans G6.out (World.grownBy_alloc _ _ none)))).1
                  have ca1 : ∀ o : Obj, (w45.alloc o).cell? ⟨B24, 1, none⟩ = some (.slice asp qs.length csp) := fun o => (cells_of (E24.out.on (grown_trans G6.out (World.grownBy_alloc _ _ none)))).2
                  have cb0 : ∀ o : Obj, (w45.alloc o).cell? ⟨B25, 0, none⟩ = some (.slice at' bt.length ct) := fun o => (cells_of (E25.out.on (grown_trans G6.out (World.grownBy_alloc _ _ none)))).1
                  have cb1 : ∀ o : Obj, (w45.alloc o).cell? ⟨B25, 1, none⟩ = some (.slice atp qt.length ctp) := fun o => (cells_of (E25.out.on (grown_trans G6.out (World.grownBy_alloc _ _ none)))).2
                  go_wp2_with fail
                  clear ca0 ca1 cb0 cb1
                  have kb : (w45.alloc (.cells #[.slice p1 n1 c1, .slice pp1 nn1 cc1] 26)).heap[w45.heap.size]? = some (.cells #[.slice p1 n1 c1, .slice pp1 nn1 cc1] 26 (0, 0)) := heap_new _ rfl
                  have hg : w45.grownBy (w45.alloc (.cells #[.slice p1 n1 c1, .slice pp1 nn1 cc1] 26)) none := World.grownBy_alloc _ _ none
                  generalize (w45.alloc (.cells #[.slice p1 n1 c1, .slice pp1 nn1 cc1] 26)) = W8 at *
                  have E36 := Lib.hid (Ev.box (d := d) kb (by have := (HS.out.step G6.out).lt; omega))
                  replace G6 := Lib.hid (grown_trans G6.out hg)
                  replace HL1 := Lib.hid (HL1.out.same hg)
                  obtain ⟨B36, hB36⟩ : ∃ B36, w45.heap.size = B36 := ⟨_, rfl⟩
                  rw [hB36] at E36 ⊢
                  clear kb hg hB36
                  refine (HR.out _ _ _ (EV.out.on G6.out).2.1.1 (EV.out.on G6.out).2.2.1).mono ?_
                  rintro e w46 ⟨sv2, rfl, hl, hg⟩
                  replace HL1 := Lib.hid (HL1.out.same hg); replace E36 := Lib.hid (E36.out.step hg)
                  have HL2 := Lib.hid hl
                  replace G6 := Lib.hid (grown_trans G6.out hg)
                  obtain ⟨p2, n2, c2, pp2, nn2, cc2, rfl⟩ := linV_open hl
                  clear hl hg
                  have ca0 : ∀ o : Obj, (w46.alloc o).cell? ⟨B24, 0, none⟩ = some (.slice ax bs.length cs) := fun o => (cells_of (E24.out.on (grown_trans G6.out (World.grownBy_alloc _ _ none)))).1
                  have ca1 : ∀ o : Obj, (w46.alloc o).cell? ⟨B24, 1, none⟩ = some (.slice asp qs.length csp) := fun o => (cells_of (E24.out.on (grown_trans G6.out (World.grownBy_alloc _ _ none)))).2
                  have cb0 : ∀ o : Obj, (w46.alloc o).cell? ⟨B25, 0, none⟩ = some (.slice at' bt.length ct) := fun o => (cells_of (E25.out.on (grown_trans G6.out (World.grownBy_alloc _ _ none)))).1
                  have cb1 : ∀ o : Obj, (w46.alloc o).cell? ⟨B25, 1, none⟩ = some (.slice atp qt.length ctp) := fun o => (cells_of (E25.out.on (grown_trans G6.out (World.grownBy_alloc _ _ none)))).2
                  go_wp2_with fail
                  clear ca0 ca1 cb0 cb1
                  have kb : (w46.alloc (.cells #[.slice p2 n2 c2, .slice pp2 nn2 cc2] 26)).heap[w46.heap.size]? = some (.cells #[.slice p2 n2 c2, .slice pp2 nn2 cc2] 26 (0, 0)) := heap_new _ rfl
                  have hg : w46.grownBy (w46.alloc (.cells #[.slice p2 n2 c2, .slice pp2 nn2 cc2] 26)) none := World.grownBy_alloc _ _ none
                  replace E36 := Lib.hid (E36.out.step hg); replace HL1 := Lib.hid (HL1.out.same hg)
                  generalize (w46.alloc (.cells #[.slice p2 n2 c2, .slice pp2 nn2 cc2] 26)) = W9 at *
                  have E38 := Lib.hid (Ev.box (d := d) kb (by have := (HS.out.step G6.out).lt; omega))
                  replace G6 := Lib.hid (grown_trans G6.out hg)
                  replace HL2 := Lib.hid (HL2.out.same hg)
                  obtain ⟨B38, hB38⟩ : ∃ B38, w46.heap.size = B38 := ⟨_, rfl⟩
                  rw [hB38] at E38 ⊢
                  clear kb hg hB38
                  clear HP HR
                  obtain ⟨b1', hP, hR⟩ := within_u nv bs qs bt qt HQS.out HQT.out
                  have HP := Lib.hid hP; have HR := Lib.hid hR
                  clear hP hR
                  have l0 : ∀ x : Later W9, x.to.cell? ⟨B36, 0, none⟩ = some (.slice p1 n1 c1) := fun x => (cells_of (E36.out.on x.grown)).1
                  have l1 : ∀ x : Later W9, x.to.cell? ⟨B36, 1, none⟩ = some (.slice pp1 nn1 cc1) := fun x => (cells_of (E36.out.on x.grown)).2
                  have l2 : ∀ x : Later W9, x.to.cell? ⟨B38, 0, none⟩ = some (.slice p2 n2 c2) := fun x => (cells_of (E38.out.on x.grown)).1
                  have l3 : ∀ x : Later W9, x.to.cell? ⟨B38, 1, none⟩ = some (.slice pp2 nn2 cc2) := fun x => (cells_of (E38.out.on x.grown)).2
                  have l4 : ∀ x : Later W9, x.to.cell? ⟨B24, 0, none⟩ = some (.slice ax bs.length cs) := fun x => (cells_of (E24.out.on (grown_trans G6.out x.grown))).1
                  have l5 : ∀ x : Later W9, x.to.cell? ⟨B24, 1, none⟩ = some (.slice asp qs.length csp) := fun x => (cells_of (E24.out.on (grown_trans G6.out x.grown))).2
                  have l6 : ∀ x : Later W9, x.to.cell? ⟨B25, 0, none⟩ = some (.slice at' bt.length ct) := fun x => (cells_of (E25.out.on (grown_trans G6.out x.grown))).1
                  have l7 : ∀ x : Later W9, x.to.cell? ⟨B25, 1, none⟩ = some (.slice atp qt.length ctp) := fun x => (cells_of (E25.out.on (grown_trans G6.out x.grown))).2
                  have d1 : (z9 != z9) = false := by simp
                  have d2 : (b1' != b1') = false := by simp
                  refine wp_region_later (by kernel_rfl) (by kernel_rfl) ?_
                  repeat (go_big_quiet_step ((first | (go_at_call 26; exact Calls.later (same13_yes (HL1.out.same (Later.grown _)) (HL2.out.same (Later.grown _)))) | (go_at_call 29; exact Calls.later (HP.out _ _ _ (EV.out.on (grown_trans G6.out (Later.grown _))).2.1.1 (EV.out.on (grown_trans G6.out (Later.grown _))).2.2.1)) | (go_at_call 30; exact Calls.later (HR.out _ _ _ (EV.out.on (grown_trans G6.out (Later.grown _))).2.1.1 (EV.out.on (grown_trans G6.out (Later.grown _))).2.2.1)))))
                  refine wpQuiet_nil ?_
                  rintro _ ⟨x, rfl⟩
                  have hg := x.grown
                  replace G6 := Lib.hid (grown_trans G6.out hg)
                  clear l0 l1 l2 l3 l4 l5 l6 l7 d1 d2 HL1 HL2 E36 E38 HP HR hg
                  generalize x.to = w47 at *
                  clear x
                  obtain ⟨EA, EB, E1, E2, EL1, EL2, E3, E4, E5, EPr⟩ := AZ.out
                  have GE := grown_trans GJ.out (G6.out.but d)
                  replace EA := Lib.hid (EA.out.deal GE); replace EB := Lib.hid (EB.out.deal GE); replace E1 := Lib.hid (E1.out.deal GE); replace E2 := Lib.hid (E2.out.deal GE); replace EL1 := Lib.hid (EL1.out.deal GE); replace EL2 := Lib.hid (EL2.out.deal GE); replace E3 := Lib.hid (E3.out.deal GE); replace E4 := Lib.hid (E4.out.deal GE); replace E5 := Lib.hid (E5.out.deal GE); replace EPr := Lib.hid (EPr.out.deal GE)
                  replace EU := Lib.hid (EU.out.step G6.out); replace EX := Lib.hid (EX.out.step G6.out); replace ET := Lib.hid (ET.out.step G6.out); replace HS := Lib.hid (HS.out.step G6.out)
                  clear GE
                  go_wp2_with fail
                  go_roundw
                  case rel => exact ⟨j + 1, by go_num, by omega, EA, EB, EU, EX, ET, E1, E2, EL1, EL2, E3, E4, E5, HS, EPr⟩
                  case measure => (simp [intOf]; try omega)
            · obtain rfl : j = 4 := by omega
              have g2 : ¬ (((4 : Nat) : Int)) < 4 := by omega
              go_wp2_with fail
              go_roundw
              case rel => exact ⟨k + 1, by go_num, by omega, EA, EB, EU, EX, ET, E1, E2, EL1, EL2, E3, E4, E5, HS⟩
              case measure => (simp [intOf]; try omega)
        · obtain rfl : k = 2 := by omega
          have g1 : ¬ (((2 : Nat) : Int)) < 2 := by omega
          go_wp2_with fail
          go_ret
          exact ⟨rfl, below_of (grown_trans HGW.out HS.out.2.1)⟩

end Go.Proofs.Ytoaoheblaidhmaa
