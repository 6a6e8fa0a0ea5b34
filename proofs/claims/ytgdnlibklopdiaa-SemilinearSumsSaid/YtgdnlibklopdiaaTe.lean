/- Within at valid sets. -/
import Derived.Test.YtgdnlibklopdiaaTd
namespace Go.Proofs.Ytgdnlibklopdiaa
open Go.RowKit
set_option linter.unusedVariables false

theorem make_run (n : Nat) (hn : n ≤ 1000) : ∃ cs : Array Value, cs.toList = (List.replicate n (0 : Int)).map (Value.int .i64) ∧ ∀ W, (Instr.makeSlice 22 (.int .i64 (n : Int)) (.int .i64 (n : Int))).run Try.prog W = .ok (.slice (some ⟨W.heap.size, 0, none⟩) n n) (W.alloc (.cells cs 3)) := by
  obtain ⟨i, hi, hz0, hz1, hz2⟩ := info_parts info_int
  refine ⟨madeCells (Value.int .i64 0).cells (n * 1), by rw [Nat.mul_one, List.map_replicate]; simp [Value.cells, toList_madeCells_one], fun W => ?_⟩
  have := run_make (P := Try.prog) W 22 3 i (.int .i64 0) Try.underlying22 hi hz0 .i64 .i64 (n : Int) (n : Int) (by omega) (by omega) (by rw [hz2]; omega) (by omega)
  rw [hz1] at this
  simpa using this

theorem lessL_zero : ∀ (n : Nat) (p : List Int), p.length = n → lessL p (List.replicate n 0) = p
  | 0, [], _ => rfl
  | n + 1, x :: p, h => by
    have := lessL_zero n p (by simpa using h)
    simp only [lessL, List.replicate_succ, List.zipWith_cons_cons, Int.sub_zero] at this ⊢
    rw [this]
  | 0, _ :: _, h => by simp at h
  | _ + 1, [], h => by simp at h
theorem ValidS.cone {n : Nat} {b : List Int} {ps : List (List Int)} (h : ValidS n b ps) : ValidS n (List.replicate n 0) ps :=
  ⟨h.1, h.2.1, by simp, fun x hx => by have := List.eq_of_mem_replicate hx; omega, h.2.2.2.2.1, h.2.2.2.2.2.1, h.2.2.2.2.2.2⟩

/-- A set is within another one. -/
def WithinP (b1 : List Int) (ps1 : List (List Int)) (b2 : List Int) (ps2 : List (List Int)) : Prop := SolE ps2 (lessL b1 b2) ∧ ∀ p ∈ ps1, SolE ps2 p

theorem cells_of {w : World} {g : Nat} {x y : Value} {e : TypeId} {f : Nat × Nat} (h : w.heap[g]? = some (.cells #[x, y] e f)) : w.cell? ⟨g, 0, none⟩ = some x ∧ w.cell? ⟨g, 1, none⟩ = some y :=
  ⟨by unfold World.cell?; dsimp only; rw [h]; rfl, by unfold World.cell?; dsimp only; rw [h]; rfl⟩
theorem three_boxes (w : World) (x1 y1 x2 y2 : Value) (e : TypeId) :
    (((w.alloc (.cells #[x1, y1] e)).alloc (.cells #[x2, y2] e)).alloc (.cells #[x1, y1] e)).heap[w.heap.size]? = some (.cells #[x1, y1] e (0, 0)) ∧
    (((w.alloc (.cells #[x1, y1] e)).alloc (.cells #[x2, y2] e)).alloc (.cells #[x1, y1] e)).heap[w.heap.size + 1]? = some (.cells #[x2, y2] e (0, 0)) ∧
    (((w.alloc (.cells #[x1, y1] e)).alloc (.cells #[x2, y2] e)).alloc (.cells #[x1, y1] e)).heap[w.heap.size + 1 + 1]? = some (.cells #[x1, y1] e (0, 0)) :=
  ⟨heap_old _ (heap_old _ (heap_new _ rfl)), heap_old _ (heap_new _ (by show _ = (w.heap.push _).size; simp)), heap_new _ (by show _ = ((w.heap.push _).push _).size; simp)⟩
theorem row_blk {w : World} {g : Nat} {cs : Array Value} {e : TypeId} {f : Nat × Nat} (xs : List Int) (n cap : Nat) (h : w.heap[g]? = some (.cells cs e f)) (hn : xs.length = n) (hm : n ≤ maxLen)
    (hb : ∀ x ∈ xs, -9223372036854775808 ≤ x ∧ x ≤ 9223372036854775807) (hc : cs.toList.take n = xs.map (Value.int .i64)) (hk : n ≤ cap) : RowOk w (.slice (some ⟨g, 0, none⟩) n cap, xs) := by
  refine ⟨ints_blk xs n cap h hn hm hb hc, Good.some _ hk, fun g' hg => ?_⟩
  simp only [Value.ownBlock, Option.some.injEq] at hg
  subst hg
  exact (Array.getElem?_eq_some_iff.1 h).1
theorem anyS_one {u : SetE} {v : List Int} : AnyS [u] v ↔ SolE u.2.2 (lessL v u.2.1) :=
  ⟨fun ⟨u', hu, hs⟩ => by rw [List.mem_singleton.1 hu] at hs; exact hs, fun h => ⟨u, by simp, h⟩⟩

set_option maxRecDepth 100000 in
set_option maxHeartbeats 1500000 in
theorem Within_any (n : Nat) (u1 u2 : SetE) (w : World) (h1 : SetOk w n u1) (h2 : SetOk w n u2) :
    Calls Try.prog 51 #[.int .i64 (n : Int), .agg #[u1.1.1, u1.1.2], .agg #[u2.1.1, u2.1.2]] w (SaysP (WithinP u1.2.1 u1.2.2 u2.2.1 u2.2.2) w) := by
  obtain ⟨⟨x1, y1⟩, b1, ps1⟩ := u1
  obtain ⟨⟨x2, y2⟩, b2, ps2⟩ := u2
  dsimp only
  have H1 := Lib.hid h1; have H2 := Lib.hid h2
  have hn1 := h1.2.1
  have hn4 := h1.2.2.1
  dsimp only [SetOk] at h1 h2
  obtain ⟨⟨vb, vp, qs, he, hrb, hrp, hgp, rfl⟩, hval⟩ := h1
  obtain ⟨⟨vb', vp', qs', he', hrb', hrp', hgp', rfl⟩, hval'⟩ := h2
  have HRP2 := Lib.hid hrp'; have HGP2 := Lib.hid hgp'; have HV2 := Lib.hid hval'
  obtain ⟨⟨ab', cb', hvb', -, -, -⟩, -, -⟩ := hrb'
  obtain ⟨ap', cp', hvp', -, -, -⟩ := hrp'
  simp only [Value.agg.injEq, Array.mk.injEq, List.cons.injEq, and_true] at he he'
  obtain ⟨rfl, rfl⟩ := he
  obtain ⟨rfl, rfl⟩ := he'
  have HRB := Lib.hid hrb; have HRP := Lib.hid hrp; have HV := Lib.hid hval
  obtain ⟨⟨ab, cb, hvb, -, -, -⟩, -, -⟩ := hrb
  obtain ⟨ap, cp, hvp, -, -, -⟩ := hrp
  dsimp only at hvb hvb'
  subst hvb hvp hvb' hvp'
  clear hval hgp hval' hgp'
  have hq3 : qs.length ≤ 3 := by have := HV.out.2.2.2.2.2.1; rwa [List.length_map] at this
  go_enter Try.func51, Try.ntmps51
  go_wp2_with fail
  obtain ⟨k1, k2, k3⟩ := three_boxes w (.slice ab b1.length cb) (.slice ap qs.length cp) (.slice ab' b2.length cb') (.slice ap' qs'.length cp') 49
  have hg3 : w.grownBy (((w.alloc (.cells #[.slice ab b1.length cb, .slice ap qs.length cp] 49)).alloc (.cells #[.slice ab' b2.length cb', .slice ap' qs'.length cp'] 49)).alloc (.cells #[.slice ab b1.length cb, .slice ap qs.length cp] 49)) none := grown_after (grown_after (grown_after (grown_refl _ _)))
  generalize (((w.alloc (.cells #[.slice ab b1.length cb, .slice ap qs.length cp] 49)).alloc (.cells #[.slice ab' b2.length cb', .slice ap' qs'.length cp'] 49)).alloc (.cells #[.slice ab b1.length cb, .slice ap qs.length cp] 49)) = W at *
  refine (check_any n hn1 hn4 [(.slice ab b1.length cb, .slice ap qs.length cp)] (w.heap.size + 1 + 1) 0 1 W (cells_one k3) (by intro u hu; rw [List.mem_singleton.1 hu]; exact ⟨_, _, (H1.out.same hg3).1, H1.out.2⟩) (by simp)).mono ?_
  rintro e w2 ⟨rfl, hg2⟩
  have G2 := Lib.hid (grown_trans hg3 hg2)
  have a0 := hg2.cell (cells_of k1).1 (by simp); have a1 := hg2.cell (cells_of k1).2 (by simp)
  have b0 := hg2.cell (cells_of k2).1 (by simp); have b1' := hg2.cell (cells_of k2).2 (by simp)
  have A1 := Lib.hid a1; have B1 := Lib.hid b1'
  have a0' := (World.grownBy_alloc w2 (.cells #[.slice ab' b2.length cb', .slice ap' qs'.length cp'] 49) none).cell a0 (by simp)
  clear k1 k2 k3 hg3 hg2
  go_wp2_with fail
  have hsl : Hid (CellsS (w2.alloc (.cells #[.slice ab' b2.length cb', .slice ap' qs'.length cp'] 49)) w2.heap.size 0 ([((.slice ab' b2.length cb', .slice ap' qs'.length cp'), (b2, qs'.map Prod.snd))].map Prod.fst)) := Lib.hid (cells_one (heap_new _ rfl))
  have G2a := Lib.hid (World.grownBy_alloc w2 (.cells #[.slice ab' b2.length cb', .slice ap' qs'.length cp'] 49) none)
  clear a0 a1 b0 b1' a0'
  refine (has_any n w2.heap.size 0 1 [((.slice ab' b2.length cb', .slice ap' qs'.length cp'), (b2, qs'.map Prod.snd))] _ b1 _ hn1 hn4 hsl.out (by intro u hu; rw [List.mem_singleton.1 hu]; exact H2.out.same (grown_trans G2.out G2a.out)) (by simp) (HRB.out.same (grown_trans G2.out G2a.out)) HV.out.2.2.1 (withB_iff.2 fun x hx => by have := HV.out.2.2.2.1 x hx; omega)).mono ?_
  rintro e w3 ⟨B, rfl, hB, hg3⟩
  have HB := Lib.hid (hB.trans anyS_one)
  have G3a := grown_trans G2a.out hg3
  have G3 := Lib.hid (grown_trans G2.out G3a)
  have a1 := G3a.cell A1.out (by simp); have b1' := G3a.cell B1.out (by simp)
  clear hB hg3 G3a hsl G2a A1 B1
  dsimp only at HB
  cases B with
  | false =>
    go_wp2_with fail
    go_ret
    exact ⟨false, rfl, ⟨fun h => by simp at h, fun h => absurd (HB.out.2 h.1) (by simp)⟩, G3.out⟩
  | true =>
    have HB1 := Lib.hid (HB.out.1 rfl)
    have A1 := Lib.hid a1
    have B3 := Lib.hid (G3.out.size)
    clear HB
    obtain ⟨cs, hcs, hmk⟩ := make_run n (by omega)
    have bb2 : (w3.alloc (.cells cs 3)).cell? ⟨w.heap.size + 1, 1, none⟩ = some (.slice ap' qs'.length cp') := (World.grownBy_alloc w3 _ none).cell b1' (by simp)
    have b3 : (w3.alloc (.cells #[.slice none 0 0, .slice none 0 0] 49)).cell? ⟨w.heap.size + 1, 1, none⟩ = some (.slice ap' qs'.length cp') := (World.grownBy_alloc w3 _ none).cell b1' (by simp)
    have b4 : ((w3.alloc (.cells cs 3)).alloc (.cells #[.slice none 0 0, .slice none 0 0] 49)).cell? ⟨w.heap.size + 1, 1, none⟩ = some (.slice ap' qs'.length cp') := (World.grownBy_alloc _ _ none).cell bb2 (by simp)
    have b5 : ((w3.alloc (.cells #[.slice none 0 0, .slice none 0 0] 49)).alloc (.cells cs 3)).cell? ⟨w.heap.size + 1, 1, none⟩ = some (.slice ap' qs'.length cp') := (World.grownBy_alloc _ _ none).cell b3 (by simp)
    go_wp2_with fail
    go_region
    · generalize hX : World.drew _ = X
      have hxr : X.heap[w3.heap.size]? = some (.cells cs 3 (0, 0)) := by rw [← hX]; exact (heap_old _ (heap_new _ rfl))
      have hxb : X.heap[w3.heap.size + 1]? = some (.cells #[.slice (some ⟨w3.heap.size, 0, none⟩) n n, .slice ap' qs'.length cp'] 49 (0, 0)) := by rw [← hX]; exact (heap_new _ (by show _ = (w3.heap.push _).size; simp))
      have hxg : w3.grownBy X none := by rw [← hX]; exact grown_trans (grown_after (grown_after (grown_refl _ _))) (grown_drew _ none)
      have RX : Hid (RowOk X (.slice (some ⟨w3.heap.size, 0, none⟩) n n, List.replicate n 0)) := Lib.hid (row_blk _ n n hxr (by simp) (by simp only [maxLen]; omega) (fun x hx => by have := List.eq_of_mem_replicate hx; omega) (by rw [← hcs]; rw [List.take_of_length_le (by rw [hcs]; simp)]) (Nat.le_refl _))
      have CX := Lib.hid (cells_of hxb)
      have AX := Lib.hid (hxg.cell A1.out (by simp))
      have GX := Lib.hid (grown_trans G3.out hxg)
      clear hX hxr hxb hxg hmk hcs b1' a1 b3 b4 b5 bb2
      have ax := AX.out
      go_wp2_with fail
      clear ax
      go_loopw [34] (fun i wr => ∃ k : Nat, i = .int .i64 k ∧ k ≤ qs.length ∧ Hid (∀ j, (hj : j < qs.length) → j < k → SolE (qs'.map Prod.snd) (qs[j]).2) ∧ Hid (X.grownBy wr none)) (fun i _ => qs.length - (intOf i).toNat)
      case atStart => exact ⟨0, rfl, Nat.zero_le _, Lib.hid (by omega), Lib.hid (grown_refl _ _)⟩
      case round =>
        obtain ⟨k, rfl, hk, hn, hg⟩ := hrel
        rename World => wk
        by_cases hlt : k < qs.length
        · have h1 : (k : Int) < (qs.length : Int) := by omega
          obtain ⟨_, _, hv, _, hc, hrow⟩ := HRP.out.same (grown_trans GX.out hg.out)
          simp only [Value.slice.injEq] at hv
          obtain ⟨rfl, -, -⟩ := hv
          obtain ⟨b9, o9, rfl, hx⟩ := RowsP.at hc hlt
          have HRK := Lib.hid (hrow _ (List.getElem_mem hlt))
          have HPK : Hid (PerOk n (qs[k]).2) := Lib.hid (HV.out.2.2.2.2.1 _ (List.mem_map_of_mem (List.getElem_mem hlt)))
          have HN : Hid (SolE (qs'.map Prod.snd) (qs[k]).2 → ∀ j, (hj : j < qs.length) → j < k + 1 → SolE (qs'.map Prod.snd) (qs[j]).2) := Lib.hid (by
            intro hyes j hj hjk
            by_cases he : j = k
            · subst he; exact hyes
            · exact hn.out j hj (by omega))
          have HM : Hid ((qs[k]).2 ∈ qs.map Prod.snd) := Lib.hid (List.mem_map_of_mem (List.getElem_mem hlt))
          have x0 := hg.out.cell CX.out.1 (by simp); have x1 := hg.out.cell CX.out.2 (by simp)
          clear hc hrow hn
          generalize qs[k] = q at *
          obtain ⟨qv, p⟩ := q
          obtain ⟨⟨ak, ck, hvk, -, -, -⟩, -, -⟩ := HRK.out
          dsimp only at hx hvk HPK HN HM
          subst hvk
          go_wp2_with fail
          refine (Times_any n _ _ (List.replicate n 0) p (qs'.map Prod.snd) _ ⟨_, _, qs', rfl, RX.out.same hg.out, HRP2.out.same (grown_trans GX.out hg.out), HGP2.out, rfl⟩ HV2.out.cone HRK.out HPK.out.1.1 (withB_iff.2 fun x hx => ⟨HPK.out.1.2 x hx, by have := HPK.out.2.2 x hx; omega⟩)).mono ?_
          rintro e w5 ⟨r, hlr, v5, rfl, -, hg5⟩
          rw [lessL_zero n p HPK.out.1.1] at hlr
          have HI := Lib.hid hlr.iff
          have G5 := Lib.hid (grown_trans hg.out hg5)
          clear hlr hg5 x0 x1
          generalize r.isSome = B at *
          cases B with
          | true =>
            go_wp2_with fail
            go_roundw
            case rel => exact ⟨k + 1, by go_num, by omega, Lib.hid (HN.out (HI.out.1 (by simp))), G5⟩
            case measure => simp [intOf]; omega
          | false =>
            go_wp2_with fail
            go_ret
            exact ⟨false, rfl, ⟨fun h => by simp at h, fun h => absurd (HI.out.2 (h.2 _ HM.out)) (by simp)⟩, grown_trans GX.out G5.out⟩
        · have h1 : ¬ (k : Int) < (qs.length : Int) := by omega
          go_wp2_with fail
          go_ret
          exact ⟨true, rfl, ⟨fun _ => ⟨HB1.out, fun p hp => by
            obtain ⟨q, hq, rfl⟩ := List.mem_map.1 hp
            obtain ⟨j, hj, rfl⟩ := List.getElem_of_mem hq
            exact hn.out j hj (by omega)⟩, fun _ => rfl⟩, grown_trans GX.out hg.out⟩
    · generalize hX : World.drew _ = X
      have hxr : X.heap[w3.heap.size + 1]? = some (.cells cs 3 (0, 0)) := by rw [← hX]; exact (heap_new _ (by show _ = (w3.heap.push _).size; simp))
      have hxb : X.heap[w3.heap.size]? = some (.cells #[.slice (some ⟨w3.heap.size + 1, 0, none⟩) n n, .slice ap' qs'.length cp'] 49 (0, 0)) := by rw [← hX]; exact (heap_old _ (heap_new _ rfl))
      have hxg : w3.grownBy X none := by rw [← hX]; exact grown_trans (grown_after (grown_after (grown_refl _ _))) (grown_drew _ none)
      have RX : Hid (RowOk X (.slice (some ⟨w3.heap.size + 1, 0, none⟩) n n, List.replicate n 0)) := Lib.hid (row_blk _ n n hxr (by simp) (by simp only [maxLen]; omega) (fun x hx => by have := List.eq_of_mem_replicate hx; omega) (by rw [← hcs]; rw [List.take_of_length_le (by rw [hcs]; simp)]) (Nat.le_refl _))
      have CX := Lib.hid (cells_of hxb)
      have AX := Lib.hid (hxg.cell A1.out (by simp))
      have GX := Lib.hid (grown_trans G3.out hxg)
      clear hX hxr hxb hxg hmk hcs b1' a1 b3 b4 b5 bb2
      have ax := AX.out
      go_wp2_with fail
      clear ax
      go_loopw [34] (fun i wr => ∃ k : Nat, i = .int .i64 k ∧ k ≤ qs.length ∧ Hid (∀ j, (hj : j < qs.length) → j < k → SolE (qs'.map Prod.snd) (qs[j]).2) ∧ Hid (X.grownBy wr none)) (fun i _ => qs.length - (intOf i).toNat)
      case atStart => exact ⟨0, rfl, Nat.zero_le _, Lib.hid (by omega), Lib.hid (grown_refl _ _)⟩
      case round =>
        obtain ⟨k, rfl, hk, hn, hg⟩ := hrel
        rename World => wk
        by_cases hlt : k < qs.length
        · have h1 : (k : Int) < (qs.length : Int) := by omega
          obtain ⟨_, _, hv, _, hc, hrow⟩ := HRP.out.same (grown_trans GX.out hg.out)
          simp only [Value.slice.injEq] at hv
          obtain ⟨rfl, -, -⟩ := hv
          obtain ⟨b9, o9, rfl, hx⟩ := RowsP.at hc hlt
          have HRK := Lib.hid (hrow _ (List.getElem_mem hlt))
          have HPK : Hid (PerOk n (qs[k]).2) := Lib.hid (HV.out.2.2.2.2.1 _ (List.mem_map_of_mem (List.getElem_mem hlt)))
          have HN : Hid (SolE (qs'.map Prod.snd) (qs[k]).2 → ∀ j, (hj : j < qs.length) → j < k + 1 → SolE (qs'.map Prod.snd) (qs[j]).2) := Lib.hid (by
            intro hyes j hj hjk
            by_cases he : j = k
            · subst he; exact hyes
            · exact hn.out j hj (by omega))
          have HM : Hid ((qs[k]).2 ∈ qs.map Prod.snd) := Lib.hid (List.mem_map_of_mem (List.getElem_mem hlt))
          have x0 := hg.out.cell CX.out.1 (by simp); have x1 := hg.out.cell CX.out.2 (by simp)
          clear hc hrow hn
          generalize qs[k] = q at *
          obtain ⟨qv, p⟩ := q
          obtain ⟨⟨ak, ck, hvk, -, -, -⟩, -, -⟩ := HRK.out
          dsimp only at hx hvk HPK HN HM
          subst hvk
          go_wp2_with fail
          refine (Times_any n _ _ (List.replicate n 0) p (qs'.map Prod.snd) _ ⟨_, _, qs', rfl, RX.out.same hg.out, HRP2.out.same (grown_trans GX.out hg.out), HGP2.out, rfl⟩ HV2.out.cone HRK.out HPK.out.1.1 (withB_iff.2 fun x hx => ⟨HPK.out.1.2 x hx, by have := HPK.out.2.2 x hx; omega⟩)).mono ?_
          rintro e w5 ⟨r, hlr, v5, rfl, -, hg5⟩
          rw [lessL_zero n p HPK.out.1.1] at hlr
          have HI := Lib.hid hlr.iff
          have G5 := Lib.hid (grown_trans hg.out hg5)
          clear hlr hg5 x0 x1
          generalize r.isSome = B at *
          cases B with
          | true =>
            go_wp2_with fail
            go_roundw
            case rel => exact ⟨k + 1, by go_num, by omega, Lib.hid (HN.out (HI.out.1 (by simp))), G5⟩
            case measure => simp [intOf]; omega
          | false =>
            go_wp2_with fail
            go_ret
            exact ⟨false, rfl, ⟨fun h => by simp at h, fun h => absurd (HI.out.2 (h.2 _ HM.out)) (by simp)⟩, grown_trans GX.out G5.out⟩
        · have h1 : ¬ (k : Int) < (qs.length : Int) := by omega
          go_wp2_with fail
          go_ret
          exact ⟨true, rfl, ⟨fun _ => ⟨HB1.out, fun p hp => by
            obtain ⟨q, hq, rfl⟩ := List.mem_map.1 hp
            obtain ⟨j, hj, rfl⟩ := List.getElem_of_mem hq
            exact hn.out j hj (by omega)⟩, fun _ => rfl⟩, grown_trans GX.out hg.out⟩

end Go.Proofs.Ytgdnlibklopdiaa
