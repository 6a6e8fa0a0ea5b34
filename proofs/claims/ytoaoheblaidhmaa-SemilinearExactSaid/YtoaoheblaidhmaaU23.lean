/- Texts Vp in one. -/
import Derived.Test.YtoaoheblaidhmaaU21
import Derived.Test.YtoaoheblaidhmaaU22
import Derived.Test.YtoaoheblaidhmaaU18
namespace Go.Proofs.Ytoaoheblaidhmaa
open Go.RowKit
set_option linter.unusedVariables false

/-- A slice of slices, all of it behind a block. -/
def AllB (D : Nat → Prop) (v : Value) (ps : List Row) : Prop := (∀ g, v.ownBlock = some g → D g) ∧ ∀ p ∈ ps, ∀ g, p.1.ownBlock = some g → D g
def GotB (D : Nat → Prop) (rs : List (List Int)) (w : World) (e : Ending) (w' : World) : Prop := ∃ v qs, e = .returned v ∧ RowsP w' v qs ∧ Good v ∧ qs.map Prod.snd = rs ∧ w.grownBy w' none ∧ AllB D v qs
theorem allB_put {D : Nat → Prop} {k : Nat} {u v : Value} {ps : List Row} {p : Row} (h : AllB D u ps) (hp : ∀ g, p.1.ownBlock = some g → D g) (hv : ∀ g, v.ownBlock = some g → D g) : AllB D v ([] ++ ps.take k ++ [p] ++ ps.drop k) := by
  refine ⟨hv, fun q hq g hg => ?_⟩
  simp only [List.nil_append, List.mem_append, List.mem_singleton] at hq
  rcases hq with (hq | rfl) | hq
  · exact h.2 q (List.mem_of_mem_take hq) g hg
  · exact hp g hg
  · exact h.2 q (List.mem_of_mem_drop hq) g hg

set_option maxRecDepth 100000 in
set_option maxHeartbeats 4000000 in
theorem put_if (D : Nat → Prop) (vl vr : Value) (ps : List Row) (r : List Int) (w : World) (h : RowsP w vl ps) (hgl : Good vl) (h' : RowOk w (vr, r)) (hl : ps.length ≤ 1000000) (hlr : r.length ≤ 1000000) (hfd : ∀ g, w.heap.size ≤ g → D g) (hfr : AllB D vl ps) :
    Calls Try.prog 34 #[vl, vr] w (GotB D (putL (ps.map Prod.snd) r) w) := by
  have HFR := Lib.hid hfr; have HFD := Lib.hid hfd
  have H := Lib.hid h; have H' := Lib.hid h'; have HGL := Lib.hid hgl
  obtain ⟨a, cap, rfl, -, -, -⟩ := h
  clear h' hgl hfr hfd
  go_enter Try.func34, Try.ntmps34
  go_wp2_with fail
  go_loopw [5] (fun i wr => ∃ k n : Nat, k ≤ ps.length ∧ i = .int .i64 k ∧ Hid (∀ j, j < k → compareI ((ps.map Prod.snd)[j]?.getD []) r < 0) ∧ wr = w.drewN n) (fun i _ => ps.length - (intOf i).toNat)
  case atStart => exact ⟨0, 0, Nat.zero_le _, rfl, Lib.hid (by omega), rfl⟩
  case round =>
    obtain ⟨k, n, hk, rfl, HA, rfl⟩ := hrel
    by_cases hlt : k < ps.length
    · have h1 : (k : Int) < (ps.length : Int) := by omega
      have h1' : decide (k < ps.length) = true := by simpa using hlt
      obtain ⟨_, _, hv, _, hc, hr⟩ := H.out
      simp only [Value.slice.injEq] at hv
      obtain ⟨rfl, -, -⟩ := hv
      obtain ⟨b, off, rfl, hx⟩ := RowsP.at hc hlt
      have R1 := Lib.hid (hr _ (List.getElem_mem hlt))
      have S1 := Lib.hid (snd_at ps k hlt)
      clear hc hr
      generalize ps[k] = p at *
      by_cases hp : compareI p.2 r < 0
      · have h3 : decide (compareI p.2 r < 0) = true := by simpa using hp
        have HP := Lib.hid hp
        clear hp
        go_wp2_with fail
        refine (rcompare_any _ _ _ _ _ (R1.out.same (grown_drewN _ _ none)).1 (H'.out.same (grown_drewN _ _ none)).1).mono ?_
        rintro e w1 ⟨rfl, m, rfl⟩
        go_wp2_with fail
        go_roundw
        case rel => exact ⟨k + 1, n + m, by omega, by go_num, Lib.hid (fun j hj => by
          rcases Nat.lt_or_ge j k with h | h
          · exact HA.out j h
          · obtain rfl : j = k := by omega
            rw [S1.out]; exact HP.out), by simp⟩
        case measure => simp [intOf]; omega
      · have h3 : decide (compareI p.2 r < 0) = false := by simpa using hp
        have HP := Lib.hid (Int.not_lt.1 hp)
        clear hp
        go_wp2_with fail
        refine (rcompare_any _ _ _ _ _ (R1.out.same (grown_drewN _ _ none)).1 (H'.out.same (grown_drewN _ _ none)).1).mono ?_
        rintro e w1 ⟨rfl, m, rfl⟩
        go_wp2_with fail
        by_cases he : p.2 = r
        · have h4 : (p.2 == r) = true := by simp [he]
          have HE := Lib.hid he
          clear he
          refine (same_any _ _ _ _ _ (R1.out.same (grown_drewN _ _ none)).1 (H'.out.same (grown_drewN _ _ none)).1).mono ?_
          rintro e w2 ⟨rfl, m2, rfl⟩
          go_wp2_with fail
          go_ret
          exact ⟨_, ps, rfl, H.out.same (grown_drewN _ _ none), HGL.out, by rw [putL_at r (ps.map Prod.snd) k (by simpa using hk) HA.out (fun _ => by rw [S1.out]; exact Int.not_lt.2 HP.out), if_pos ⟨by simpa using hlt, by rw [S1.out, HE.out]⟩], grown_drewN _ _ none, HFR.out⟩
        · have h4 : (p.2 == r) = false := by simp [he]
          have HE : Hid (putL (ps.map Prod.snd) r = (ps.map Prod.snd).take k ++ r :: (ps.map Prod.snd).drop k) := Lib.hid (by rw [putL_at r (ps.map Prod.snd) k (by simpa using hk) HA.out (fun _ => by rw [S1.out]; exact Int.not_lt.2 HP.out), if_neg (by rw [S1.out]; exact fun h => he h.2)])
          clear he
          refine (same_any _ _ _ _ _ (R1.out.same (grown_drewN _ _ none)).1 (H'.out.same (grown_drewN _ _ none)).1).mono ?_
          rintro e w2 ⟨rfl, m2, rfl⟩
          obtain ⟨at', ct, hrun, hrt⟩ := rows_tail H.out HGL.out hk
          have RT := Lib.hid hrt
          have RH := Lib.hid (rows_head H.out hk)
          have HRW := Lib.hid (rows_rows H.out)
          have G : Hid (w.grownBy (w.drewN (n + m + m2)).drew none) := Lib.hid (grown_trans (grown_drewN _ _ none) (grown_drew _ none))
          have hk9 : ([] : List Row).length + (ps.take k).length ≤ 1000000000000 := by simp; omega
          have hk10 : (ps.take k).length ≤ 1000000000000 := by simp; omega
          have hk11 : ∀ p : Row, ([] ++ ps.take k ++ [p]).length + (ps.drop k).length ≤ 1000000000000 := by intro p; simp; omega
          have j1 : (0 : Int) ≤ (k : Int) := by omega
          have j2 : (k : Int) ≤ (cap : Int) := by have := HGL.out.2 _ _ _ rfl; omega
          clear hrt
          go_wp2_with fail
          go_region_law (first
            | (refine step_app_all rfl (.const (.slice none 0 0)) (.tmp 36) rfl _ (.slice none 0 0) [] (by kernel_rfl) (OwnP.nil _ _) (.slice (some ⟨b, off, none⟩) k cap) (ps.take k) (by kernel_rfl) (RH.out.same (by first | exact G.out | exact grown_after G.out)) (nil_far _) hk9 (Nat.le_refl _) ?_; intro a37 n37 c37 w37 hn37 ho hg; have C37 := Lib.hid ho; replace G : Hid (w.grownBy w37 none) := Lib.hid (grown_trans (by first | exact G.out | exact grown_after G.out) hg); have B37 := G.out.size; clear hn37 ho hg)
            | (refine step_call 39 57 _ _ _ _ _ Try.f57 _ Try.func57 (by kernel_rfl) rfl [vr] (by kernel_rfl) _ (rcopy_any _ _ _ (H'.out.same (by first | exact G.out | exact grown_after G.out)) hlr) ?_; rintro e w39 ⟨v39, rfl, ho, hg⟩; obtain ⟨a39, c39, rfl⟩ := ownI_open ho; refine ⟨_, rfl, ?_⟩; have F39 := Lib.hid (copy_far C37.out ho); have D39 : Hid (∀ g, (Value.slice a39 r.length c39).ownBlock = some g → D g) := Lib.hid (fun g h => HFD.out _ (Nat.le_trans (World.grownBy.size (by first | exact G.out | exact grown_after G.out)) (ho.fresh g h).1)); have C39 := Lib.hid (ho.row H'.out.bdd); replace G : Hid (w.grownBy w39 none) := Lib.hid (grown_trans (by first | exact G.out | exact grown_after G.out) hg); replace C37 := Lib.hid (C37.out.same hg); clear ho hg)
            | (refine step_app_row rfl (.tmp 37) (.tmp 40) rfl _ (.slice a37 n37 c37) _ (by kernel_rfl) (C37.out.same (World.grownBy_alloc _ _ none)) w39.heap.size (.slice a39 r.length c39, r) (by kernel_rfl) (cell_new rfl) (C39.out.same (World.grownBy_alloc _ _ none)) F39.out hk10 (Nat.le_trans G.out.size (World.grownBy_alloc w39 _ none).size) ?_; intro v41 w41 ho hg; have C41 := Lib.hid ho; replace G : Hid (w.grownBy w41 none) := Lib.hid (grown_then (by first | exact G.out | exact grown_after G.out) hg (fun j hj => .inl (C37.out.fresh j hj).1)); clear ho hg)
            | (refine step_app_all rfl (.tmp 41) (.tmp 44) rfl _ v41 _ (by kernel_rfl) C41.out (.slice at' (ps.length - k) ct) (ps.drop k) (by kernel_rfl) (RT.out.same G.out) (far_of (fun p hp => HRW.out p (List.mem_of_mem_drop hp)) C41.out (Nat.le_refl _)) (hk11 _) G.out.size ?_; intro a45 n45 c45 w45 hn45 ho hg; have C45 := Lib.hid ho; replace G : Hid (w.grownBy w45 none) := Lib.hid (grown_then G.out hg (fun j hj => .inl (C41.out.fresh j hj).1)); clear hn45 ho hg))
          all_goals
            go_wp2_with fail
            go_ret
            exact ⟨_, _, rfl, C45.out.rows, C45.out.good, by rw [HE.out, ← List.map_take, ← List.map_drop]; simp, G.out, allB_put HFR.out D39.out (fun g h => HFD.out _ (C45.out.fresh g h).1)⟩
    · have h1 : ¬ (k : Int) < (ps.length : Int) := by omega
      have h1' : decide (k < ps.length) = false := by simpa using hlt
      have HE : Hid (putL (ps.map Prod.snd) r = (ps.map Prod.snd).take k ++ r :: (ps.map Prod.snd).drop k) := Lib.hid (by rw [putL_at r (ps.map Prod.snd) k (by simpa using hk) HA.out (fun h => absurd h (by simpa using hlt)), if_neg (fun h => hlt (by simpa using h.1))])
      go_wp2_with fail
      obtain ⟨at', ct, hrun, hrt⟩ := rows_tail H.out HGL.out hk
      have RT := Lib.hid hrt
      have RH := Lib.hid (rows_head H.out hk)
      have HRW := Lib.hid (rows_rows H.out)
      have G : Hid (w.grownBy (w.drewN n).drew none) := Lib.hid (grown_trans (grown_drewN _ _ none) (grown_drew _ none))
      have hk9 : ([] : List Row).length + (ps.take k).length ≤ 1000000000000 := by simp; omega
      have hk10 : (ps.take k).length ≤ 1000000000000 := by simp; omega
      have hk11 : ∀ p : Row, ([] ++ ps.take k ++ [p]).length + (ps.drop k).length ≤ 1000000000000 := by intro p; simp; omega
      have j1 : (0 : Int) ≤ (k : Int) := by omega
      have j2 : (k : Int) ≤ (cap : Int) := by have := HGL.out.2 _ _ _ rfl; omega
      clear hrt
      go_wp2_with fail
      go_region_law (first
        | (refine step_app_all rfl (.const (.slice none 0 0)) (.tmp 36) rfl _ (.slice none 0 0) [] (by kernel_rfl) (OwnP.nil _ _) (.slice a k cap) (ps.take k) (by kernel_rfl) (RH.out.same (by first | exact G.out | exact grown_after G.out)) (nil_far _) hk9 (Nat.le_refl _) ?_; intro a37 n37 c37 w37 hn37 ho hg; have C37 := Lib.hid ho; replace G : Hid (w.grownBy w37 none) := Lib.hid (grown_trans (by first | exact G.out | exact grown_after G.out) hg); have B37 := G.out.size; clear hn37 ho hg)
        | (refine step_call 39 57 _ _ _ _ _ Try.f57 _ Try.func57 (by kernel_rfl) rfl [vr] (by kernel_rfl) _ (rcopy_any _ _ _ (H'.out.same (by first | exact G.out | exact grown_after G.out)) hlr) ?_; rintro e w39 ⟨v39, rfl, ho, hg⟩; obtain ⟨a39, c39, rfl⟩ := ownI_open ho; refine ⟨_, rfl, ?_⟩; have F39 := Lib.hid (copy_far C37.out ho); have D39 : Hid (∀ g, (Value.slice a39 r.length c39).ownBlock = some g → D g) := Lib.hid (fun g h => HFD.out _ (Nat.le_trans (World.grownBy.size (by first | exact G.out | exact grown_after G.out)) (ho.fresh g h).1)); have C39 := Lib.hid (ho.row H'.out.bdd); replace G : Hid (w.grownBy w39 none) := Lib.hid (grown_trans (by first | exact G.out | exact grown_after G.out) hg); replace C37 := Lib.hid (C37.out.same hg); clear ho hg)
        | (refine step_app_row rfl (.tmp 37) (.tmp 40) rfl _ (.slice a37 n37 c37) _ (by kernel_rfl) (C37.out.same (World.grownBy_alloc _ _ none)) w39.heap.size (.slice a39 r.length c39, r) (by kernel_rfl) (cell_new rfl) (C39.out.same (World.grownBy_alloc _ _ none)) F39.out hk10 (Nat.le_trans G.out.size (World.grownBy_alloc w39 _ none).size) ?_; intro v41 w41 ho hg; have C41 := Lib.hid ho; replace G : Hid (w.grownBy w41 none) := Lib.hid (grown_then (by first | exact G.out | exact grown_after G.out) hg (fun j hj => .inl (C37.out.fresh j hj).1)); clear ho hg)
        | (refine step_app_all rfl (.tmp 41) (.tmp 44) rfl _ v41 _ (by kernel_rfl) C41.out (.slice at' (ps.length - k) ct) (ps.drop k) (by kernel_rfl) (RT.out.same G.out) (far_of (fun p hp => HRW.out p (List.mem_of_mem_drop hp)) C41.out (Nat.le_refl _)) (hk11 _) G.out.size ?_; intro a45 n45 c45 w45 hn45 ho hg; have C45 := Lib.hid ho; replace G : Hid (w.grownBy w45 none) := Lib.hid (grown_then G.out hg (fun j hj => .inl (C41.out.fresh j hj).1)); clear hn45 ho hg))
      all_goals
        go_wp2_with fail
        go_ret
        exact ⟨_, _, rfl, C45.out.rows, C45.out.good, by rw [HE.out, ← List.map_take, ← List.map_drop]; simp, G.out, allB_put HFR.out D39.out (fun g h => HFD.out _ (C45.out.fresh g h).1)⟩

set_option maxRecDepth 100000 in
set_option maxHeartbeats 3000000 in
theorem Sum_big (n : Nat) (u1 u2 : SetE) (w : World) (h1 : SetOk w n u1) (h2 : SetOk w n u2) (hs16 : ∃ x ∈ sumL u1.2.1 u2.2.1, 16 < x) :
    Calls Try.prog 27 #[.int .i64 (n : Int), .agg #[u1.1.1, u1.1.2], .agg #[u2.1.1, u2.1.2]] w (GotX w) := by
  obtain ⟨⟨x1, y1⟩, b, ps⟩ := u1
  obtain ⟨⟨x2, y2⟩, c, ps2⟩ := u2
  dsimp only at hs16 ⊢
  have H1 := Lib.hid h1; have H2 := Lib.hid h2; have HS16 := Lib.hid hs16
  have hn1 := h1.2.1
  have hn4 := h1.2.2.1
  dsimp only [SetOk] at h1 h2
  obtain ⟨⟨vb, vp, qs, he, hrb, hrp, hgp, rfl⟩, hval⟩ := h1
  obtain ⟨⟨vb', vp', rs, he', hrb', hrp', hgp', rfl⟩, hval'⟩ := h2
  simp only [Value.agg.injEq, Array.mk.injEq, List.cons.injEq, and_true] at he he'
  obtain ⟨rfl, rfl⟩ := he
  obtain ⟨rfl, rfl⟩ := he'
  have HRB := Lib.hid hrb; have HRP := Lib.hid hrp; have HV := Lib.hid hval; have HRB2 := Lib.hid hrb'; have HRP2 := Lib.hid hrp'; have HV2 := Lib.hid hval'
  obtain ⟨⟨ab, cb, hvb, -, -, -⟩, -, -⟩ := hrb
  obtain ⟨ap, cp, hvp, -, -, -⟩ := hrp
  obtain ⟨⟨ac, cc, hvc, -, -, -⟩, -, -⟩ := hrb'
  obtain ⟨aq, cq, hvq, -, -, -⟩ := hrp'
  dsimp only at hvb hvc
  subst hvb hvp hvc hvq
  clear hval hgp hval' hgp' hs16
  have hq3 : qs.length ≤ 3 := by have := HV.out.2.2.2.2.2.1; rwa [List.length_map] at this
  have hr3 : rs.length ≤ 3 := by have := HV2.out.2.2.2.2.2.1; rwa [List.length_map] at this
  go_enter Try.func27, Try.ntmps27
  go_wp2_with fail
  obtain ⟨k1, k2, k3⟩ := three_any w (.slice ab b.length cb) (.slice ap qs.length cp) (.slice ac c.length cc) (.slice aq rs.length cq) (.slice none 0 0) (.slice none 0 0) 26
  have hg3 : w.grownBy (((w.alloc (.cells #[.slice ab b.length cb, .slice ap qs.length cp] 26)).alloc (.cells #[.slice ac c.length cc, .slice aq rs.length cq] 26)).alloc (.cells #[.slice none 0 0, .slice none 0 0] 26)) none := grown_after (grown_after (grown_after (grown_refl _ _)))
  generalize (((w.alloc (.cells #[.slice ab b.length cb, .slice ap qs.length cp] 26)).alloc (.cells #[.slice ac c.length cc, .slice aq rs.length cq] 26)).alloc (.cells #[.slice none 0 0, .slice none 0 0] 26)) = W3 at *
  have G3 := Lib.hid hg3; have K0 := Lib.hid (cells_of k1); have K1 := Lib.hid (cells_of k2); have K2 := Lib.hid k3
  have hb3 : w.heap.size + 1 + 1 < W3.heap.size := (Array.getElem?_eq_some_iff.1 k3).1
  clear k1 k2 k3 hg3
  have hnn : ∀ g : Nat, some g ≠ (none : Option Nat) := by intro g; simp
  have GX : Hid (W3.grownBy W3.drew none) := Lib.hid (grown_drew _ none)
  go_region_held3 (fun w' => w'.cell? ⟨w.heap.size, 0, none⟩ = some (.slice ab b.length cb) ∧ w'.cell? ⟨w.heap.size, 1, none⟩ = some (.slice ap qs.length cp) ∧ w'.cell? ⟨w.heap.size + 1, 0, none⟩ = some (.slice ac c.length cc) ∧ w'.cell? ⟨w.heap.size + 1, 1, none⟩ = some (.slice aq rs.length cq)) (first | exact ⟨GX.out.cell K0.out.1 (hnn _), GX.out.cell K0.out.2 (hnn _), GX.out.cell K1.out.1 (hnn _), GX.out.cell K1.out.2 (hnn _)⟩ | exact ⟨(grown_after GX.out).cell K0.out.1 (hnn _), (grown_after GX.out).cell K0.out.2 (hnn _), (grown_after GX.out).cell K1.out.1 (hnn _), (grown_after GX.out).cell K1.out.2 (hnn _)⟩ | exact ⟨(grown_after (grown_after GX.out)).cell K0.out.1 (hnn _), (grown_after (grown_after GX.out)).cell K0.out.2 (hnn _), (grown_after (grown_after GX.out)).cell K1.out.1 (hnn _), (grown_after (grown_after GX.out)).cell K1.out.2 (hnn _)⟩ | exact ⟨GY.out.cell K0.out.1 (hnn _), GY.out.cell K0.out.2 (hnn _), GY.out.cell K1.out.1 (hnn _), GY.out.cell K1.out.2 (hnn _)⟩ | exact ⟨(grown_after GY.out).cell K0.out.1 (hnn _), (grown_after GY.out).cell K0.out.2 (hnn _), (grown_after GY.out).cell K1.out.1 (hnn _), (grown_after GY.out).cell K1.out.2 (hnn _)⟩) (first
    | (go_at_call 14; (with_reducible change Calls _ _ #[_, .slice (some ⟨W3.heap.size, 0, none⟩) 1 1] ((W3.alloc (.cells #[.slice ab b.length cb, .slice ap qs.length cp] 26)).drew) _); refine (check_any n hn1 hn4 [(.slice ab b.length cb, .slice ap qs.length cp)] (W3.heap.size) 0 1 _ ((show CellsS (W3.alloc (.cells #[.slice ab b.length cb, .slice ap qs.length cp] 26)) (W3.heap.size) 0 [(.slice ab b.length cb, .slice ap qs.length cp)] from cells_one (heap_new _ rfl)).same (grown_drew _ none)) (by intro u hu; rw [List.mem_singleton.1 hu]; exact ⟨_, _, (H1.out.same (grown_trans G3.out (grown_trans (grown_after (grown_refl W3 none)) (grown_drew _ none)))).1, H1.out.2⟩) (by simp)).mono ?_; rintro e w13 ⟨rfl, hg⟩; have HG13 := Lib.hid hg; replace GX : Hid (W3.grownBy w13 none) := Lib.hid (grown_trans (grown_trans (grown_after (grown_refl W3 none)) (grown_drew _ none)) hg); clear hg)
    | (go_at_call 14; (with_reducible change Calls _ _ #[_, .slice (some ⟨W3.heap.size, 0, none⟩) 1 1] (((W3.alloc (.cells #[.slice ab b.length cb, .slice ap qs.length cp] 26)).alloc (.cells #[.slice ac c.length cc, .slice aq rs.length cq] 26)).drew) _); refine (check_any n hn1 hn4 [(.slice ab b.length cb, .slice ap qs.length cp)] (W3.heap.size) 0 1 _ ((show CellsS ((W3.alloc (.cells #[.slice ab b.length cb, .slice ap qs.length cp] 26)).alloc (.cells #[.slice ac c.length cc, .slice aq rs.length cq] 26)) (W3.heap.size) 0 [(.slice ab b.length cb, .slice ap qs.length cp)] from cells_one (heap_old _ (heap_new _ rfl))).same (grown_drew _ none)) (by intro u hu; rw [List.mem_singleton.1 hu]; exact ⟨_, _, (H1.out.same (grown_trans G3.out (grown_trans (grown_after (grown_after (grown_refl W3 none))) (grown_drew _ none)))).1, H1.out.2⟩) (by simp)).mono ?_; rintro e w13 ⟨rfl, hg⟩; have HG13 := Lib.hid hg; replace GX : Hid (W3.grownBy w13 none) := Lib.hid (grown_trans (grown_trans (grown_after (grown_after (grown_refl W3 none))) (grown_drew _ none)) hg); clear hg)
    | (go_at_call 14; (with_reducible change Calls _ _ #[_, .slice (some ⟨W3.heap.size + 1, 0, none⟩) 1 1] (((W3.alloc (.cells #[.slice ac c.length cc, .slice aq rs.length cq] 26)).alloc (.cells #[.slice ab b.length cb, .slice ap qs.length cp] 26)).drew) _); refine (check_any n hn1 hn4 [(.slice ab b.length cb, .slice ap qs.length cp)] (W3.heap.size + 1) 0 1 _ ((show CellsS ((W3.alloc (.cells #[.slice ac c.length cc, .slice aq rs.length cq] 26)).alloc (.cells #[.slice ab b.length cb, .slice ap qs.length cp] 26)) (W3.heap.size + 1) 0 [(.slice ab b.length cb, .slice ap qs.length cp)] from cells_one (heap_new _ (by show _ = (W3.heap.push _).size; simp))).same (grown_drew _ none)) (by intro u hu; rw [List.mem_singleton.1 hu]; exact ⟨_, _, (H1.out.same (grown_trans G3.out (grown_trans (grown_after (grown_after (grown_refl W3 none))) (grown_drew _ none)))).1, H1.out.2⟩) (by simp)).mono ?_; rintro e w13 ⟨rfl, hg⟩; have HG13 := Lib.hid hg; replace GX : Hid (W3.grownBy w13 none) := Lib.hid (grown_trans (grown_trans (grown_after (grown_after (grown_refl W3 none))) (grown_drew _ none)) hg); clear hg)
    | (go_at_call 14; (with_reducible change Calls _ _ #[_, .slice (some ⟨w13.heap.size, 0, none⟩) 1 1] (w13.alloc (.cells #[.slice ac c.length cc, .slice aq rs.length cq] 26)) _); refine (check_any n hn1 hn4 [(.slice ac c.length cc, .slice aq rs.length cq)] (w13.heap.size) 0 1 _ (show CellsS (w13.alloc (.cells #[.slice ac c.length cc, .slice aq rs.length cq] 26)) (w13.heap.size) 0 [(.slice ac c.length cc, .slice aq rs.length cq)] from cells_one (heap_new _ rfl)) (by intro u hu; rw [List.mem_singleton.1 hu]; exact ⟨_, _, (H2.out.same (grown_trans G3.out (grown_after GX.out))).1, H2.out.2⟩) (by simp)).mono ?_; rintro e w17 ⟨rfl, hg⟩; have GY : Hid (W3.grownBy w17 none) := Lib.hid (grown_trans (grown_after GX.out) hg); clear hg)
    | (go_at_call 14; (with_reducible change Calls _ _ #[_, .slice (some ⟨W3.heap.size + 1, 0, none⟩) 1 1] (w13) _); refine (check_any n hn1 hn4 [(.slice ac c.length cc, .slice aq rs.length cq)] (W3.heap.size + 1) 0 1 _ (((show CellsS ((W3.alloc (.cells #[.slice ab b.length cb, .slice ap qs.length cp] 26)).alloc (.cells #[.slice ac c.length cc, .slice aq rs.length cq] 26)) (W3.heap.size + 1) 0 [(.slice ac c.length cc, .slice aq rs.length cq)] from cells_one (heap_new _ (by show _ = (W3.heap.push _).size; simp))).same (grown_drew _ none)).same HG13.out) (by intro u hu; rw [List.mem_singleton.1 hu]; exact ⟨_, _, (H2.out.same (grown_trans G3.out (GX.out))).1, H2.out.2⟩) (by simp)).mono ?_; rintro e w17 ⟨rfl, hg⟩; have GY : Hid (W3.grownBy w17 none) := Lib.hid (grown_trans (GX.out) hg); clear hg)
    | (go_at_call 14; (with_reducible change Calls _ _ #[_, .slice (some ⟨W3.heap.size, 0, none⟩) 1 1] (w13) _); refine (check_any n hn1 hn4 [(.slice ac c.length cc, .slice aq rs.length cq)] (W3.heap.size) 0 1 _ (((show CellsS ((W3.alloc (.cells #[.slice ac c.length cc, .slice aq rs.length cq] 26)).alloc (.cells #[.slice ab b.length cb, .slice ap qs.length cp] 26)) (W3.heap.size) 0 [(.slice ac c.length cc, .slice aq rs.length cq)] from cells_one (heap_old _ (heap_new _ rfl))).same (grown_drew _ none)).same HG13.out) (by intro u hu; rw [List.mem_singleton.1 hu]; exact ⟨_, _, (H2.out.same (grown_trans G3.out (GX.out))).1, H2.out.2⟩) (by simp)).mono ?_; rintro e w17 ⟨rfl, hg⟩; have GY : Hid (W3.grownBy w17 none) := Lib.hid (grown_trans (GX.out) hg); clear hg)
    | (go_at_call 51; refine (or_none _ _ _ (by simp) (by simp)).mono ?_; rintro e w19 ⟨rfl, hw19⟩; subst hw19))
  all_goals
    clear HG13 GX
    go_wp2_with fail
    have hcc : ((w17.alloc (.cells #[.int .i64 0, .int .i64 0] 34)).alloc (.cells #[.slice ap qs.length cp, .slice aq rs.length cq] 24)).heap[w17.heap.size + 1]? = some (.cells #[.slice ap qs.length cp, .slice aq rs.length cq] 24 (0, 0)) := heap_new _ (by show _ = (w17.heap.push _).size; simp)
    have hgg : W3.grownBy ((w17.alloc (.cells #[.int .i64 0, .int .i64 0] 34)).alloc (.cells #[.slice ap qs.length cp, .slice aq rs.length cq] 24)) none := grown_after (grown_after GY.out)
    generalize ((w17.alloc (.cells #[.int .i64 0, .int .i64 0] 34)).alloc (.cells #[.slice ap qs.length cp, .slice aq rs.length cq] 24)) = w5 at *
    have GG := Lib.hid hgg
    refine (concatR_any (w17.heap.size + 1) 2 _ _ qs rs w5 (cells_of hcc).1 (cells_of hcc).2 (HRP.out.same (grown_trans G3.out GG.out)) (HRP2.out.same (grown_trans G3.out GG.out)) (by omega) (by omega)).mono ?_
    rintro e w29 ⟨v9, rfl, ho, hg⟩
    obtain ⟨ls, hls⟩ : ∃ l, l = qs ++ rs := ⟨_, rfl⟩
    rw [← hls] at ho
    have O29 := Lib.hid ho; have G29 := Lib.hid (grown_trans GG.out hg); have B29 := Lib.hid GG.out.size
    have HLS := Lib.hid hls
    clear ho hg hcc hgg hls
    generalize w5.heap.size = b5 at *
    obtain ⟨a9, c9, rfl⟩ := O29.out.slice
    have HLN : Hid (∀ p ∈ ls, p.2.length = n) := Lib.hid (by
      rw [HLS.out]
      intro p hp
      rcases List.mem_append.1 hp with hp | hp
      · exact (HV.out.2.2.2.2.1 _ (List.mem_map_of_mem hp)).1.1
      · exact (HV2.out.2.2.2.2.1 _ (List.mem_map_of_mem hp)).1.1)
    have HL6 : Hid (ls.length ≤ 6) := Lib.hid (by rw [HLS.out]; simp; omega)
    go_wp2_with fail
    refine (sortn_any n (.slice a9 ls.length c9) ls b5 w29 O29.out (by have := HL6.out; omega) HLN.out).mono ?_
    rintro e w31 ⟨rfl, ps', hp, hs, ho, hg⟩
    have PP := Lib.hid hp; have PS := Lib.hid hs; have O31 := Lib.hid ho
    have G31 := Lib.hid (grown_then G29.out hg (fun j hj => .inl (Nat.le_trans B29.out (O29.out.fresh j hj).1)))
    have HL7 : Hid (ps'.length ≤ 6) := Lib.hid (by rw [hp.length_eq]; exact HL6.out)
    clear hp hs ho hg
    go_wp2_with fail
    refine (compact_any (.slice a9 ls.length c9) ps' b5 w31 O31.out (by have := HL7.out; omega)).mono ?_
    rintro e w33 ⟨v33, rfl, ho, hg, hv⟩
    have O33 := Lib.hid ho
    have G33 := Lib.hid (grown_then G31.out hg (fun j hj => .inl (Nat.le_trans B29.out (O31.out.fresh j hj).1)))
    have HASC : Hid ((cpt ps' ps'.length).map Prod.snd = ascL (qs.map Prod.snd ++ rs.map Prod.snd)) := Lib.hid (by
      obtain ⟨h1, h2⟩ := cpt_asc ps' PS.out ps'.length (Nat.le_refl _)
      refine asc_unique _ _ h1 (ascL_asc _) fun x => ?_
      rw [h2 x, ascL_mem, List.take_length, ← List.map_append, ← HLS.out]
      exact (PP.out.map Prod.snd).mem_iff)
    have HCL : Hid (∀ q ∈ cpt ps' ps'.length, q.2.length = n) := Lib.hid (fun q hq => HLN.out q (PP.out.mem_iff.1 (cpt_mem ps' _ (Nat.le_refl _) q hq)))
    clear ho hg hv
    generalize cpt ps' ps'.length = zs at *
    obtain ⟨a33, c33, rfl⟩ := O33.out.slice
    have HAL : Hid ((ascL (qs.map Prod.snd ++ rs.map Prod.snd)).length = zs.length) := Lib.hid (by rw [← HASC.out, List.length_map])
    have x0 := G33.out.cell K0.out.1 (hnn _); have z0 := G33.out.cell K1.out.1 (hnn _)
    have H33 := Lib.hid ((G33.out.block _ hb3 (by simp)).trans K2.out)
    go_wp2_with fail
    refine (add_any _ _ b c _ (HRB.out.same (grown_trans G3.out G33.out)) (HRB2.out.same (grown_trans G3.out G33.out)) (by rw [HV.out.2.2.1, HV2.out.2.2.1]) (by rw [HV.out.2.2.1]; omega) (fun x hx => by have := HV.out.2.2.2.1 x hx; omega) (fun x hx => by have := HV2.out.2.2.2.1 x hx; omega)).mono ?_
    rintro e w38 ⟨v38, rfl, ho, hg⟩
    obtain ⟨a38, c38, rfl⟩ := ownI_open ho
    have R38 := Lib.hid (ho.row (fun x hx => by have := sumL_hi HV.out.2.2.2.1 HV2.out.2.2.2.1 x hx; omega))
    have F38 : Hid (∀ g, (Value.slice a38 (sumL b c).length c38).ownBlock = some g → W3.heap.size ≤ g) := Lib.hid (fun g h => Nat.le_trans G33.out.size (ho.fresh g h).1)
    have G38 := Lib.hid (grown_trans G33.out hg)
    have Q38 := Lib.hid (O33.out.rows.same hg)
    have H38 := Lib.hid (box_none H33.out hg)
    have hlt38 : w.heap.size + 1 + 1 < w38.heap.size := (Array.getElem?_eq_some_iff.1 H38.out).1
    clear ho hg x0 z0
    have hsl1 : 1 ≤ (sumL b c).length := by rw [sumL_len HV.out.2.2.1 HV2.out.2.2.1]; exact hn1
    go_wp2_with fail
    refine (limited_big _ _ (sumL b c) zs _ R38.out Q38.out hsl1 HS16.out).mono ?_
    rintro e w40 ⟨rfl, hg⟩
    have G40 := Lib.hid (grown_trans G38.out hg)
    obtain ⟨p1, p2, p3, p4, p5⟩ := put_set (x := .slice none 0 0) (y := .slice none 0 0) (box_none H38.out hg)
    have P1 := Lib.hid p1
    clear hg p1
    go_wp2_with fail
    clear p2 p3 p4 p5
    have GW := Lib.hid (set_two1 (w.heap.size + 1 + 1) w40 (.slice none 0 0) (.slice none 0 0))
    generalize ((w40.setCell ⟨w.heap.size + 1 + 1, 0, none⟩ (.slice none 0 0)).setCell ⟨w.heap.size + 1 + 1, 1, none⟩ (.slice none 0 0)) = W at *
    refine bodyPost_ret (results_set2 rfl _ _ (w.heap.size + 1 + 1) _ _ _ _ rfl P1.out Try.underlying26 (by kernel_rfl)) rfl ?_
    exact ⟨rfl, grown_then (grown_trans G3.out G40.out) GW.out (by rintro j ⟨⟩; exact .inl (by omega))⟩

end Go.Proofs.Ytoaoheblaidhmaa
