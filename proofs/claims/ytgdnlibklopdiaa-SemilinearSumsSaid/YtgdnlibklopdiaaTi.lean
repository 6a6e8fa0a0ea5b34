/- Put, and where its rows lie. -/
import Derived.Test.YtgdnlibklopdiaaTh
namespace Go.Proofs.Ytgdnlibklopdiaa
open Go.RowKit
set_option linter.unusedVariables false

/-- A slice of slices, all of it behind a block. -/
def FarR (d : Nat) (v : Value) (ps : List Row) : Prop := (∀ g, v.ownBlock = some g → d < g) ∧ ∀ p ∈ ps, ∀ g, p.1.ownBlock = some g → d < g
def GotF (d : Nat) (rs : List (List Int)) (w : World) (e : Ending) (w' : World) : Prop := ∃ v qs, e = .returned v ∧ RowsP w' v qs ∧ Good v ∧ qs.map Prod.snd = rs ∧ w.grownBy w' none ∧ FarR d v qs
theorem farR_put {d k : Nat} {u v : Value} {ps : List Row} {p : Row} (h : FarR d u ps) (hp : ∀ g, p.1.ownBlock = some g → d < g) (hv : ∀ g, v.ownBlock = some g → d < g) : FarR d v ([] ++ ps.take k ++ [p] ++ ps.drop k) := by
  refine ⟨hv, fun q hq g hg => ?_⟩
  simp only [List.nil_append, List.mem_append, List.mem_singleton] at hq
  rcases hq with (hq | rfl) | hq
  · exact h.2 q (List.mem_of_mem_take hq) g hg
  · exact hp g hg
  · exact h.2 q (List.mem_of_mem_drop hq) g hg

set_option maxRecDepth 100000 in
set_option maxHeartbeats 4000000 in
theorem put_far (d : Nat) (vl vr : Value) (ps : List Row) (r : List Int) (w : World) (h : RowsP w vl ps) (hgl : Good vl) (h' : RowOk w (vr, r)) (hl : ps.length ≤ 1000000) (hlr : r.length ≤ 1000000) (hfd : d < w.heap.size) (hfr : FarR d vl ps) :
    Calls Try.prog 63 #[vl, vr] w (GotF d (putL (ps.map Prod.snd) r) w) := by
  have HFR := Lib.hid hfr; have HFD := Lib.hid hfd
  have H := Lib.hid h; have H' := Lib.hid h'; have HGL := Lib.hid hgl
  obtain ⟨a, cap, rfl, -, -, -⟩ := h
  clear h' hgl hfr hfd
  go_enter Try.func63, Try.ntmps63
  go_wp2_with fail
  go_loopw [5] (fun i wr => ∃ k n : Nat, k ≤ ps.length ∧ i = .int .i64 k ∧ Hid (∀ j, j < k → compareI ((ps.map Prod.snd)[j]?.getD []) r < 0) ∧ wr = w.drewN n) (fun i _ => ps.length - (intOf i).toNat)
  case atStart => exact ⟨0, 0, Nat.zero_le _, rfl, Lib.hid (by omega), rfl⟩
  case round =>
    obtain ⟨k, n, hk, rfl, HA, rfl⟩ := hrel
    by_cases hlt : k < ps.length
    · have h1 : (k : Int) < (ps.length : Int) := by omega
      have h1' : decide (k < ps.length) = true := by simpa using hlt
      obtain ⟨_, _, hv, _, hc, hr⟩ := H.out
      simp only [Value.slice.injEq] at hv
      obtain ⟨rfl, -, -⟩ := hv
      obtain ⟨b, off, rfl, hx⟩ := RowsP.at hc hlt
      have R1 := Lib.hid (hr _ (List.getElem_mem hlt))
      have S1 := Lib.hid (snd_at ps k hlt)
      clear hc hr
      generalize ps[k] = p at *
      by_cases hp : compareI p.2 r < 0
      · have h3 : decide (compareI p.2 r < 0) = true := by simpa using hp
        have HP := Lib.hid hp
        clear hp
        go_wp2_with fail
        refine (rcompare_any _ _ _ _ _ (R1.out.same (grown_drewN _ _ none)).1 (H'.out.same (grown_drewN _ _ none)).1).mono ?_
        rintro e w1 ⟨rfl, m, rfl⟩
        go_wp2_with fail
        go_roundw
        case rel => exact ⟨k + 1, n + m, by omega, by go_num, Lib.hid (fun j hj => by
          rcases Nat.lt_or_ge j k with h | h
          · exact HA.out j h
          · obtain rfl : j = k := by omega
            rw [S1.out]; exact HP.out), by simp⟩
        case measure => simp [intOf]; omega
      · have h3 : decide (compareI p.2 r < 0) = false := by simpa using hp
        have HP := Lib.hid (Int.not_lt.1 hp)
        clear hp
        go_wp2_with fail
        refine (rcompare_any _ _ _ _ _ (R1.out.same (grown_drewN _ _ none)).1 (H'.out.same (grown_drewN _ _ none)).1).mono ?_
        rintro e w1 ⟨rfl, m, rfl⟩
        go_wp2_with fail
        by_cases he : p.2 = r
        · have h4 : (p.2 == r) = true := by simp [he]
          have HE := Lib.hid he
          clear he
          refine (same_any _ _ _ _ _ (R1.out.same (grown_drewN _ _ none)).1 (H'.out.same (grown_drewN _ _ none)).1).mono ?_
          rintro e w2 ⟨rfl, m2, rfl⟩
          go_wp2_with fail
          go_ret
          exact ⟨_, ps, rfl, H.out.same (grown_drewN _ _ none), HGL.out, by rw [putL_at r (ps.map Prod.snd) k (by simpa using hk) HA.out (fun _ => by rw [S1.out]; exact Int.not_lt.2 HP.out), if_pos ⟨by simpa using hlt, by rw [S1.out, HE.out]⟩], grown_drewN _ _ none, HFR.out⟩
        · have h4 : (p.2 == r) = false := by simp [he]
          have HE : Hid (putL (ps.map Prod.snd) r = (ps.map Prod.snd).take k ++ r :: (ps.map Prod.snd).drop k) := Lib.hid (by rw [putL_at r (ps.map Prod.snd) k (by simpa using hk) HA.out (fun _ => by rw [S1.out]; exact Int.not_lt.2 HP.out), if_neg (by rw [S1.out]; exact fun h => he h.2)])
          clear he
          refine (same_any _ _ _ _ _ (R1.out.same (grown_drewN _ _ none)).1 (H'.out.same (grown_drewN _ _ none)).1).mono ?_
          rintro e w2 ⟨rfl, m2, rfl⟩
          obtain ⟨at', ct, hrun, hrt⟩ := rows_tail H.out HGL.out hk
          have RT := Lib.hid hrt
          have RH := Lib.hid (rows_head H.out hk)
          have HRW := Lib.hid (rows_rows H.out)
          have G : Hid (w.grownBy (w.drewN (n + m + m2)).drew none) := Lib.hid (grown_trans (grown_drewN _ _ none) (grown_drew _ none))
          have hk9 : ([] : List Row).length + (ps.take k).length ≤ 1000000000000 := by simp; omega
          have hk10 : (ps.take k).length ≤ 1000000000000 := by simp; omega
          have hk11 : ∀ p : Row, ([] ++ ps.take k ++ [p]).length + (ps.drop k).length ≤ 1000000000000 := by intro p; simp; omega
          have j1 : (0 : Int) ≤ (k : Int) := by omega
          have j2 : (k : Int) ≤ (cap : Int) := by have := HGL.out.2 _ _ _ rfl; omega
          clear hrt
          go_wp2_with fail
          go_region_law (first
            | (refine step_app_all rfl (.const (.slice none 0 0)) (.tmp 36) rfl _ (.slice none 0 0) [] (by kernel_rfl) (OwnP.nil _ _) (.slice (some ⟨b, off, none⟩) k cap) (ps.take k) (by kernel_rfl) (RH.out.same (by first | exact G.out | exact grown_after G.out)) (nil_far _) hk9 (Nat.le_refl _) ?_; intro a37 n37 c37 w37 hn37 ho hg; have C37 := Lib.hid ho; replace G : Hid (w.grownBy w37 none) := Lib.hid (grown_trans (by first | exact G.out | exact grown_after G.out) hg); have B37 := G.out.size; clear hn37 ho hg)
            | (refine step_call 39 88 _ _ _ _ _ Try.f88 _ Try.func88 (by kernel_rfl) rfl [vr] (by kernel_rfl) _ (rcopy_any _ _ _ (H'.out.same (by first | exact G.out | exact grown_after G.out)) hlr) ?_; rintro e w39 ⟨v39, rfl, ho, hg⟩; obtain ⟨a39, c39, rfl⟩ := ownI_open ho; refine ⟨_, rfl, ?_⟩; have F39 := Lib.hid (copy_far C37.out ho); have D39 : Hid (∀ g, (Value.slice a39 r.length c39).ownBlock = some g → d < g) := Lib.hid (fun g h => Nat.lt_of_lt_of_le HFD.out (Nat.le_trans (World.grownBy.size (by first | exact G.out | exact grown_after G.out)) (ho.fresh g h).1)); have C39 := Lib.hid (ho.row H'.out.bdd); replace G : Hid (w.grownBy w39 none) := Lib.hid (grown_trans (by first | exact G.out | exact grown_after G.out) hg); replace C37 := Lib.hid (C37.out.same hg); clear ho hg)
            | (refine step_app_row rfl (.tmp 37) (.tmp 40) rfl _ (.slice a37 n37 c37) _ (by kernel_rfl) (C37.out.same (World.grownBy_alloc _ _ none)) w39.heap.size (.slice a39 r.length c39, r) (by kernel_rfl) (cell_new rfl) (C39.out.same (World.grownBy_alloc _ _ none)) F39.out hk10 (Nat.le_trans G.out.size (World.grownBy_alloc w39 _ none).size) ?_; intro v41 w41 ho hg; have C41 := Lib.hid ho; replace G : Hid (w.grownBy w41 none) := Lib.hid (grown_then (by first | exact G.out | exact grown_after G.out) hg (fun j hj => .inl (C37.out.fresh j hj).1)); clear ho hg)
            | (refine step_app_all rfl (.tmp 41) (.tmp 44) rfl _ v41 _ (by kernel_rfl) C41.out (.slice at' (ps.length - k) ct) (ps.drop k) (by kernel_rfl) (RT.out.same G.out) (far_of (fun p hp => HRW.out p (List.mem_of_mem_drop hp)) C41.out (Nat.le_refl _)) (hk11 _) G.out.size ?_; intro a45 n45 c45 w45 hn45 ho hg; have C45 := Lib.hid ho; replace G : Hid (w.grownBy w45 none) := Lib.hid (grown_then G.out hg (fun j hj => .inl (C41.out.fresh j hj).1)); clear hn45 ho hg))
          all_goals
            go_wp2_with fail
            go_ret
            exact ⟨_, _, rfl, C45.out.rows, C45.out.good, by rw [HE.out, ← List.map_take, ← List.map_drop]; simp, G.out, farR_put HFR.out D39.out (fun g h => Nat.lt_of_lt_of_le HFD.out (C45.out.fresh g h).1)⟩
    · have h1 : ¬ (k : Int) < (ps.length : Int) := by omega
      have h1' : decide (k < ps.length) = false := by simpa using hlt
      have HE : Hid (putL (ps.map Prod.snd) r = (ps.map Prod.snd).take k ++ r :: (ps.map Prod.snd).drop k) := Lib.hid (by rw [putL_at r (ps.map Prod.snd) k (by simpa using hk) HA.out (fun h => absurd h (by simpa using hlt)), if_neg (fun h => hlt (by simpa using h.1))])
      go_wp2_with fail
      obtain ⟨at', ct, hrun, hrt⟩ := rows_tail H.out HGL.out hk
      have RT := Lib.hid hrt
      have RH := Lib.hid (rows_head H.out hk)
      have HRW := Lib.hid (rows_rows H.out)
      have G : Hid (w.grownBy (w.drewN n).drew none) := Lib.hid (grown_trans (grown_drewN _ _ none) (grown_drew _ none))
      have hk9 : ([] : List Row).length + (ps.take k).length ≤ 1000000000000 := by simp; omega
      have hk10 : (ps.take k).length ≤ 1000000000000 := by simp; omega
      have hk11 : ∀ p : Row, ([] ++ ps.take k ++ [p]).length + (ps.drop k).length ≤ 1000000000000 := by intro p; simp; omega
      have j1 : (0 : Int) ≤ (k : Int) := by omega
      have j2 : (k : Int) ≤ (cap : Int) := by have := HGL.out.2 _ _ _ rfl; omega
      clear hrt
      go_wp2_with fail
      go_region_law (first
        | (refine step_app_all rfl (.const (.slice none 0 0)) (.tmp 36) rfl _ (.slice none 0 0) [] (by kernel_rfl) (OwnP.nil _ _) (.slice a k cap) (ps.take k) (by kernel_rfl) (RH.out.same (by first | exact G.out | exact grown_after G.out)) (nil_far _) hk9 (Nat.le_refl _) ?_; intro a37 n37 c37 w37 hn37 ho hg; have C37 := Lib.hid ho; replace G : Hid (w.grownBy w37 none) := Lib.hid (grown_trans (by first | exact G.out | exact grown_after G.out) hg); have B37 := G.out.size; clear hn37 ho hg)
        | (refine step_call 39 88 _ _ _ _ _ Try.f88 _ Try.func88 (by kernel_rfl) rfl [vr] (by kernel_rfl) _ (rcopy_any _ _ _ (H'.out.same (by first | exact G.out | exact grown_after G.out)) hlr) ?_; rintro e w39 ⟨v39, rfl, ho, hg⟩; obtain ⟨a39, c39, rfl⟩ := ownI_open ho; refine ⟨_, rfl, ?_⟩; have F39 := Lib.hid (copy_far C37.out ho); have D39 : Hid (∀ g, (Value.slice a39 r.length c39).ownBlock = some g → d < g) := Lib.hid (fun g h => Nat.lt_of_lt_of_le HFD.out (Nat.le_trans (World.grownBy.size (by first | exact G.out | exact grown_after G.out)) (ho.fresh g h).1)); have C39 := Lib.hid (ho.row H'.out.bdd); replace G : Hid (w.grownBy w39 none) := Lib.hid (grown_trans (by first | exact G.out | exact grown_after G.out) hg); replace C37 := Lib.hid (C37.out.same hg); clear ho hg)
        | (refine step_app_row rfl (.tmp 37) (.tmp 40) rfl _ (.slice a37 n37 c37) _ (by kernel_rfl) (C37.out.same (World.grownBy_alloc _ _ none)) w39.heap.size (.slice a39 r.length c39, r) (by kernel_rfl) (cell_new rfl) (C39.out.same (World.grownBy_alloc _ _ none)) F39.out hk10 (Nat.le_trans G.out.size (World.grownBy_alloc w39 _ none).size) ?_; intro v41 w41 ho hg; have C41 := Lib.hid ho; replace G : Hid (w.grownBy w41 none) := Lib.hid (grown_then (by first | exact G.out | exact grown_after G.out) hg (fun j hj => .inl (C37.out.fresh j hj).1)); clear ho hg)
        | (refine step_app_all rfl (.tmp 41) (.tmp 44) rfl _ v41 _ (by kernel_rfl) C41.out (.slice at' (ps.length - k) ct) (ps.drop k) (by kernel_rfl) (RT.out.same G.out) (far_of (fun p hp => HRW.out p (List.mem_of_mem_drop hp)) C41.out (Nat.le_refl _)) (hk11 _) G.out.size ?_; intro a45 n45 c45 w45 hn45 ho hg; have C45 := Lib.hid ho; replace G : Hid (w.grownBy w45 none) := Lib.hid (grown_then G.out hg (fun j hj => .inl (C41.out.fresh j hj).1)); clear hn45 ho hg))
      all_goals
        go_wp2_with fail
        go_ret
        exact ⟨_, _, rfl, C45.out.rows, C45.out.good, by rw [HE.out, ← List.map_take, ← List.map_drop]; simp, G.out, farR_put HFR.out D39.out (fun g h => Nat.lt_of_lt_of_le HFD.out (C45.out.fresh g h).1)⟩

end Go.Proofs.Ytgdnlibklopdiaa
