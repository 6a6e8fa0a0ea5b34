/- Texts Te, Vk in one. -/
import Derived.Test.YtoaoheblaidhmaaU14
import Derived.BigRegion
namespace Go.Proofs.Ytoaoheblaidhmaa
open Go.RowKit
set_option linter.unusedVariables false

theorem make_run (n : Nat) (hn : n ≤ 1000) : ∃ cs : Array Value, cs.toList = (List.replicate n (0 : Int)).map (Value.int .i64) ∧ ∀ W, (Instr.makeSlice 22 (.int .i64 (n : Int)) (.int .i64 (n : Int))).run Try.prog W = .ok (.slice (some ⟨W.heap.size, 0, none⟩) n n) (W.alloc (.cells cs 3)) := by
  obtain ⟨i, hi, hz0, hz1, hz2⟩ := info_parts info_int
  refine ⟨madeCells (Value.int .i64 0).cells (n * 1), by rw [Nat.mul_one, List.map_replicate]; simp [Value.cells, toList_madeCells_one], fun W => ?_⟩
  have := run_make (P := Try.prog) W 22 3 i (.int .i64 0) Try.underlying22 hi hz0 .i64 .i64 (n : Int) (n : Int) (by omega) (by omega) (by rw [hz2]; omega) (by omega)
  rw [hz1] at this
  simpa using this

theorem lessL_zero : ∀ (n : Nat) (p : List Int), p.length = n → lessL p (List.replicate n 0) = p
  | 0, [], _ => rfl
  | n + 1, x :: p, h => by
    have := lessL_zero n p (by simpa using h)
    simp only [lessL, List.replicate_succ, List.zipWith_cons_cons, Int.sub_zero] at this ⊢
    rw [this]
  | 0, _ :: _, h => by simp at h
  | _ + 1, [], h => by simp at h
theorem ValidS.cone {n : Nat} {b : List Int} {ps : List (List Int)} (h : ValidS n b ps) : ValidS n (List.replicate n 0) ps :=
  ⟨h.1, h.2.1, by simp, fun x hx => by have := List.eq_of_mem_replicate hx; omega, h.2.2.2.2.1, h.2.2.2.2.2.1, h.2.2.2.2.2.2⟩

/-- A set is within another one. -/
def WithinP (b1 : List Int) (ps1 : List (List Int)) (b2 : List Int) (ps2 : List (List Int)) : Prop := SolE ps2 (lessL b1 b2) ∧ ∀ p ∈ ps1, SolE ps2 p

theorem cells_of {w : World} {g : Nat} {x y : Value} {e : TypeId} {f : Nat × Nat} (h : w.heap[g]? = some (.cells #[x, y] e f)) : w.cell? ⟨g, 0, none⟩ = some x ∧ w.cell? ⟨g, 1, none⟩ = some y :=
  ⟨by unfold World.cell?; dsimp only; rw [h]; rfl, by unfold World.cell?; dsimp only; rw [h]; rfl⟩
theorem three_boxes (w : World) (x1 y1 x2 y2 : Value) (e : TypeId) :
    (((w.alloc (.cells #[x1, y1] e)).alloc (.cells #[x2, y2] e)).alloc (.cells #[x1, y1] e)).heap[w.heap.size]? = some (.cells #[x1, y1] e (0, 0)) ∧
    (((w.alloc (.cells #[x1, y1] e)).alloc (.cells #[x2, y2] e)).alloc (.cells #[x1, y1] e)).heap[w.heap.size + 1]? = some (.cells #[x2, y2] e (0, 0)) ∧
    (((w.alloc (.cells #[x1, y1] e)).alloc (.cells #[x2, y2] e)).alloc (.cells #[x1, y1] e)).heap[w.heap.size + 1 + 1]? = some (.cells #[x1, y1] e (0, 0)) :=
  ⟨heap_old _ (heap_old _ (heap_new _ rfl)), heap_old _ (heap_new _ (by show _ = (w.heap.push _).size; simp)), heap_new _ (by show _ = ((w.heap.push _).push _).size; simp)⟩
theorem row_blk {w : World} {g : Nat} {cs : Array Value} {e : TypeId} {f : Nat × Nat} (xs : List Int) (n cap : Nat) (h : w.heap[g]? = some (.cells cs e f)) (hn : xs.length = n) (hm : n ≤ maxLen)
    (hb : ∀ x ∈ xs, -9223372036854775808 ≤ x ∧ x ≤ 9223372036854775807) (hc : cs.toList.take n = xs.map (Value.int .i64)) (hk : n ≤ cap) : RowOk w (.slice (some ⟨g, 0, none⟩) n cap, xs) := by
  refine ⟨ints_blk xs n cap h hn hm hb hc, Good.some _ hk, fun g' hg => ?_⟩
  simp only [Value.ownBlock, Option.some.injEq] at hg
  subst hg
  exact (Array.getElem?_eq_some_iff.1 h).1
theorem anyS_one {u : SetE} {v : List Int} : AnyS [u] v ↔ SolE u.2.2 (lessL v u.2.1) :=
  ⟨fun ⟨u', hu, hs⟩ => by rw [List.mem_singleton.1 hu] at hs; exact hs, fun h => ⟨u, by simp, h⟩⟩

set_option maxRecDepth 100000 in
set_option maxHeartbeats 1500000 in
theorem Within_any (n : Nat) (u1 u2 : SetE) (w : World) (h1 : SetOk w n u1) (h2 : SetOk w n u2) :
    Calls Try.prog 29 #[.int .i64 (n : Int), .agg #[u1.1.1, u1.1.2], .agg #[u2.1.1, u2.1.2]] w (SaysP (WithinP u1.2.1 u1.2.2 u2.2.1 u2.2.2) w) := by
  obtain ⟨⟨x1, y1⟩, b1, ps1⟩ := u1
  obtain ⟨⟨x2, y2⟩, b2, ps2⟩ := u2
  dsimp only
  have H1 := Lib.hid h1; have H2 := Lib.hid h2
  have hn1 := h1.2.1
  have hn4 := h1.2.2.1
  dsimp only [SetOk] at h1 h2
  obtain ⟨⟨vb, vp, qs, he, hrb, hrp, hgp, rfl⟩, hval⟩ := h1
  obtain ⟨⟨vb', vp', qs', he', hrb', hrp', hgp', rfl⟩, hval'⟩ := h2
  have HRP2 := Lib.hid hrp'; have HGP2 := Lib.hid hgp'; have HV2 := Lib.hid hval'
  obtain ⟨⟨ab', cb', hvb', -, -, -⟩, -, -⟩ := hrb'
  obtain ⟨ap', cp', hvp', -, -, -⟩ := hrp'
  simp only [Value.agg.injEq, Array.mk.injEq, List.cons.injEq, and_true] at he he'
  obtain ⟨rfl, rfl⟩ := he
  obtain ⟨rfl, rfl⟩ := he'
  have HRB := Lib.hid hrb; have HRP := Lib.hid hrp; have HV := Lib.hid hval
  obtain ⟨⟨ab, cb, hvb, -, -, -⟩, -, -⟩ := hrb
  obtain ⟨ap, cp, hvp, -, -, -⟩ := hrp
  dsimp only at hvb hvb'
  subst hvb hvp hvb' hvp'
  clear hval hgp hval' hgp'
  have hq3 : qs.length ≤ 3 := by have := HV.out.2.2.2.2.2.1; rwa [List.length_map] at this
  go_enter Try.func29, Try.ntmps29
  go_wp2_with fail
  obtain ⟨k1, k2, k3⟩ := three_boxes w (.slice ab b1.length cb) (.slice ap qs.length cp) (.slice ab' b2.length cb') (.slice ap' qs'.length cp') 26
  have hg3 : w.grownBy (((w.alloc (.cells #[.slice ab b1.length cb, .slice ap qs.length cp] 26)).alloc (.cells #[.slice ab' b2.length cb', .slice ap' qs'.length cp'] 26)).alloc (.cells #[.slice ab b1.length cb, .slice ap qs.length cp] 26)) none := grown_after (grown_after (grown_after (grown_refl _ _)))
  generalize (((w.alloc (.cells #[.slice ab b1.length cb, .slice ap qs.length cp] 26)).alloc (.cells #[.slice ab' b2.length cb', .slice ap' qs'.length cp'] 26)).alloc (.cells #[.slice ab b1.length cb, .slice ap qs.length cp] 26)) = W at *
  refine (check_any n hn1 hn4 [(.slice ab b1.length cb, .slice ap qs.length cp)] (w.heap.size + 1 + 1) 0 1 W (cells_one k3) (by intro u hu; rw [List.mem_singleton.1 hu]; exact ⟨_, _, (H1.out.same hg3).1, H1.out.2⟩) (by simp)).mono ?_
  rintro e w2 ⟨rfl, hg2⟩
  have G2 := Lib.hid (grown_trans hg3 hg2)
  have a0 := hg2.cell (cells_of k1).1 (by simp); have a1 := hg2.cell (cells_of k1).2 (by simp)
  have b0 := hg2.cell (cells_of k2).1 (by simp); have b1' := hg2.cell (cells_of k2).2 (by simp)
  have A1 := Lib.hid a1; have B1 := Lib.hid b1'
  have a0' := (World.grownBy_alloc w2 (.cells #[.slice ab' b2.length cb', .slice ap' qs'.length cp'] 26) none).cell a0 (by simp)
  clear k1 k2 k3 hg3 hg2
  go_wp2_with fail
  have hsl : Hid (CellsS (w2.alloc (.cells #[.slice ab' b2.length cb', .slice ap' qs'.length cp'] 26)) w2.heap.size 0 ([((.slice ab' b2.length cb', .slice ap' qs'.length cp'), (b2, qs'.map Prod.snd))].map Prod.fst)) := Lib.hid (cells_one (heap_new _ rfl))
  have G2a := Lib.hid (World.grownBy_alloc w2 (.cells #[.slice ab' b2.length cb', .slice ap' qs'.length cp'] 26) none)
  clear a0 a1 b0 b1' a0'
  refine (has_any n w2.heap.size 0 1 [((.slice ab' b2.length cb', .slice ap' qs'.length cp'), (b2, qs'.map Prod.snd))] _ b1 _ hn1 hn4 hsl.out (by intro u hu; rw [List.mem_singleton.1 hu]; exact H2.out.same (grown_trans G2.out G2a.out)) (by simp) (HRB.out.same (grown_trans G2.out G2a.out)) HV.out.2.2.1 (withB_iff.2 fun x hx => by have := HV.out.2.2.2.1 x hx; omega)).mono ?_
  rintro e w3 ⟨B, rfl, hB, hg3⟩
  have HB := Lib.hid (hB.trans anyS_one)
  have G3a := grown_trans G2a.out hg3
  have G3 := Lib.hid (grown_trans G2.out G3a)
  have a1 := G3a.cell A1.out (by simp); have b1' := G3a.cell B1.out (by simp)
  clear hB hg3 G3a hsl G2a A1 B1
  dsimp only at HB
  cases B with
  | false =>
    go_wp2_with fail
    go_ret
    exact ⟨false, rfl, ⟨fun h => by simp at h, fun h => absurd (HB.out.2 h.1) (by simp)⟩, G3.out⟩
  | true =>
    have HB1 := Lib.hid (HB.out.1 rfl)
    have A1 := Lib.hid a1
    have B3 := Lib.hid (G3.out.size)
    clear HB
    obtain ⟨cs, hcs, hmk⟩ := make_run n (by omega)
    have bb2 : (w3.alloc (.cells cs 3)).cell? ⟨w.heap.size + 1, 1, none⟩ = some (.slice ap' qs'.length cp') := (World.grownBy_alloc w3 _ none).cell b1' (by simp)
    have b3 : (w3.alloc (.cells #[.slice none 0 0, .slice none 0 0] 26)).cell? ⟨w.heap.size + 1, 1, none⟩ = some (.slice ap' qs'.length cp') := (World.grownBy_alloc w3 _ none).cell b1' (by simp)
    have b4 : ((w3.alloc (.cells cs 3)).alloc (.cells #[.slice none 0 0, .slice none 0 0] 26)).cell? ⟨w.heap.size + 1, 1, none⟩ = some (.slice ap' qs'.length cp') := (World.grownBy_alloc _ _ none).cell bb2 (by simp)
    have b5 : ((w3.alloc (.cells #[.slice none 0 0, .slice none 0 0] 26)).alloc (.cells cs 3)).cell? ⟨w.heap.size + 1, 1, none⟩ = some (.slice ap' qs'.length cp') := (World.grownBy_alloc _ _ none).cell b3 (by simp)
    go_wp2_with fail
    go_region
    · generalize hX : World.drew _ = X
      have hxr : X.heap[w3.heap.size]? = some (.cells cs 3 (0, 0)) := by rw [← hX]; exact (heap_old _ (heap_new _ rfl))
      have hxb : X.heap[w3.heap.size + 1]? = some (.cells #[.slice (some ⟨w3.heap.size, 0, none⟩) n n, .slice ap' qs'.length cp'] 26 (0, 0)) := by rw [← hX]; exact (heap_new _ (by show _ = (w3.heap.push _).size; simp))
      have hxg : w3.grownBy X none := by rw [← hX]; exact grown_trans (grown_after (grown_after (grown_refl _ _))) (grown_drew _ none)
      have RX : Hid (RowOk X (.slice (some ⟨w3.heap.size, 0, none⟩) n n, List.replicate n 0)) := Lib.hid (row_blk _ n n hxr (by simp) (by simp only [maxLen]; omega) (fun x hx => by have := List.eq_of_mem_replicate hx; omega) (by rw [← hcs]; rw [List.take_of_length_le (by rw [hcs]; simp)]) (Nat.le_refl _))
      have CX := Lib.hid (cells_of hxb)
      have AX := Lib.hid (hxg.cell A1.out (by simp))
      have GX := Lib.hid (grown_trans G3.out hxg)
      clear hX hxr hxb hxg hmk hcs b1' a1 b3 b4 b5 bb2
      have ax := AX.out
      go_wp2_with fail
      clear ax
      go_loopw [34] (fun i wr => ∃ k : Nat, i = .int .i64 k ∧ k ≤ qs.length ∧ Hid (∀ j, (hj : j < qs.length) → j < k → SolE (qs'.map Prod.snd) (qs[j]).2) ∧ Hid (X.grownBy wr none)) (fun i _ => qs.length - (intOf i).toNat)
      case atStart => exact ⟨0, rfl, Nat.zero_le _, Lib.hid (by omega), Lib.hid (grown_refl _ _)⟩
      case round =>
        obtain ⟨k, rfl, hk, hn, hg⟩ := hrel
        rename World => wk
        by_cases hlt : k < qs.length
        · have h1 : (k : Int) < (qs.length : Int) := by omega
          obtain ⟨_, _, hv, _, hc, hrow⟩ := HRP.out.same (grown_trans GX.out hg.out)
          simp only [Value.slice.injEq] at hv
          obtain ⟨rfl, -, -⟩ := hv
          obtain ⟨b9, o9, rfl, hx⟩ := RowsP.at hc hlt
          have HRK := Lib.hid (hrow _ (List.getElem_mem hlt))
          have HPK : Hid (PerOk n (qs[k]).2) := Lib.hid (HV.out.2.2.2.2.1 _ (List.mem_map_of_mem (List.getElem_mem hlt)))
          have HN : Hid (SolE (qs'.map Prod.snd) (qs[k]).2 → ∀ j, (hj : j < qs.length) → j < k + 1 → SolE (qs'.map Prod.snd) (qs[j]).2) := Lib.hid (by
            intro hyes j hj hjk
            by_cases he : j = k
            · subst he; exact hyes
            · exact hn.out j hj (by omega))
          have HM : Hid ((qs[k]).2 ∈ qs.map Prod.snd) := Lib.hid (List.mem_map_of_mem (List.getElem_mem hlt))
          have x0 := hg.out.cell CX.out.1 (by simp); have x1 := hg.out.cell CX.out.2 (by simp)
          clear hc hrow hn
          generalize qs[k] = q at *
          obtain ⟨qv, p⟩ := q
          obtain ⟨⟨ak, ck, hvk, -, -, -⟩, -, -⟩ := HRK.out
          dsimp only at hx hvk HPK HN HM
          subst hvk
          go_wp2_with fail
          refine (Times_any n _ _ (List.replicate n 0) p (qs'.map Prod.snd) _ ⟨_, _, qs', rfl, RX.out.same hg.out, HRP2.out.same (grown_trans GX.out hg.out), HGP2.out, rfl⟩ HV2.out.cone HRK.out HPK.out.1.1 (withB_iff.2 fun x hx => ⟨HPK.out.1.2 x hx, by have := HPK.out.2.2 x hx; omega⟩)).mono ?_
          rintro e w5 ⟨r, hlr, v5, rfl, -, hg5⟩
          rw [lessL_zero n p HPK.out.1.1] at hlr
          have HI := Lib.hid hlr.iff
          have G5 := Lib.hid (grown_trans hg.out hg5)
          clear hlr hg5 x0 x1
          generalize r.isSome = B at *
          cases B with
          | true =>
            go_wp2_with fail
            go_roundw
            case rel => exact ⟨k + 1, by go_num, by omega, Lib.hid (HN.out (HI.out.1 (by simp))), G5⟩
            case measure => simp [intOf]; omega
          | false =>
            go_wp2_with fail
            go_ret
            exact ⟨false, rfl, ⟨fun h => by simp at h, fun h => absurd (HI.out.2 (h.2 _ HM.out)) (by simp)⟩, grown_trans GX.out G5.out⟩
        · have h1 : ¬ (k : Int) < (qs.length : Int) := by omega
          go_wp2_with fail
          go_ret
          exact ⟨true, rfl, ⟨fun _ => ⟨HB1.out, fun p hp => by
            obtain ⟨q, hq, rfl⟩ := List.mem_map.1 hp
            obtain ⟨j, hj, rfl⟩ := List.getElem_of_mem hq
            exact hn.out j hj (by omega)⟩, fun _ => rfl⟩, grown_trans GX.out hg.out⟩
    · generalize hX : World.drew _ = X
      have hxr : X.heap[w3.heap.size + 1]? = some (.cells cs 3 (0, 0)) := by rw [← hX]; exact (heap_new _ (by show _ = (w3.heap.push _).size; simp))
      have hxb : X.heap[w3.heap.size]? = some (.cells #[.slice (some ⟨w3.heap.size + 1, 0, none⟩) n n, .slice ap' qs'.length cp'] 26 (0, 0)) := by rw [← hX]; exact (heap_old _ (heap_new _ rfl))
      have hxg : w3.grownBy X none := by rw [← hX]; exact grown_trans (grown_after (grown_after (grown_refl _ _))) (grown_drew _ none)
      have RX : Hid (RowOk X (.slice (some ⟨w3.heap.size + 1, 0, none⟩) n n, List.replicate n 0)) := Lib.hid (row_blk _ n n hxr (by simp) (by simp only [maxLen]; omega) (fun x hx => by have := List.eq_of_mem_replicate hx; omega) (by rw [← hcs]; rw [List.take_of_length_le (by rw [hcs]; simp)]) (Nat.le_refl _))
      have CX := Lib.hid (cells_of hxb)
      have AX := Lib.hid (hxg.cell A1.out (by simp))
      have GX := Lib.hid (grown_trans G3.out hxg)
      clear hX hxr hxb hxg hmk hcs b1' a1 b3 b4 b5 bb2
      have ax := AX.out
      go_wp2_with fail
      clear ax
      go_loopw [34] (fun i wr => ∃ k : Nat, i = .int .i64 k ∧ k ≤ qs.length ∧ Hid (∀ j, (hj : j < qs.length) → j < k → SolE (qs'.map Prod.snd) (qs[j]).2) ∧ Hid (X.grownBy wr none)) (fun i _ => qs.length - (intOf i).toNat)
      case atStart => exact ⟨0, rfl, Nat.zero_le _, Lib.hid (by omega), Lib.hid (grown_refl _ _)⟩
      case round =>
        obtain ⟨k, rfl, hk, hn, hg⟩ := hrel
        rename World => wk
        by_cases hlt : k < qs.length
        · have h1 : (k : Int) < (qs.length : Int) := by omega
          obtain ⟨_, _, hv, _, hc, hrow⟩ := HRP.out.same (grown_trans GX.out hg.out)
          simp only [Value.slice.injEq] at hv
          obtain ⟨rfl, -, -⟩ := hv
          obtain ⟨b9, o9, rfl, hx⟩ := RowsP.at hc hlt
          have HRK := Lib.hid (hrow _ (List.getElem_mem hlt))
          have HPK : Hid (PerOk n (qs[k]).2) := Lib.hid (HV.out.2.2.2.2.1 _ (List.mem_map_of_mem (List.getElem_mem hlt)))
          have HN : Hid (SolE (qs'.map Prod.snd) (qs[k]).2 → ∀ j, (hj : j < qs.length) → j < k + 1 → SolE (qs'.map Prod.snd) (qs[j]).2) := Lib.hid (by
            intro hyes j hj hjk
            by_cases he : j = k
            · subst he; exact hyes
            · exact hn.out j hj (by omega))
          have HM : Hid ((qs[k]).2 ∈ qs.map Prod.snd) := Lib.hid (List.mem_map_of_mem (List.getElem_mem hlt))
          have x0 := hg.out.cell CX.out.1 (by simp); have x1 := hg.out.cell CX.out.2 (by simp)
          clear hc hrow hn
          generalize qs[k] = q at *
          obtain ⟨qv, p⟩ := q
          obtain ⟨⟨ak, ck, hvk, -, -, -⟩, -, -⟩ := HRK.out
          dsimp only at hx hvk HPK HN HM
          subst hvk
          go_wp2_with fail
          refine (Times_any n _ _ (List.replicate n 0) p (qs'.map Prod.snd) _ ⟨_, _, qs', rfl, RX.out.same hg.out, HRP2.out.same (grown_trans GX.out hg.out), HGP2.out, rfl⟩ HV2.out.cone HRK.out HPK.out.1.1 (withB_iff.2 fun x hx => ⟨HPK.out.1.2 x hx, by have := HPK.out.2.2 x hx; omega⟩)).mono ?_
          rintro e w5 ⟨r, hlr, v5, rfl, -, hg5⟩
          rw [lessL_zero n p HPK.out.1.1] at hlr
          have HI := Lib.hid hlr.iff
          have G5 := Lib.hid (grown_trans hg.out hg5)
          clear hlr hg5 x0 x1
          generalize r.isSome = B at *
          cases B with
          | true =>
            go_wp2_with fail
            go_roundw
            case rel => exact ⟨k + 1, by go_num, by omega, Lib.hid (HN.out (HI.out.1 (by simp))), G5⟩
            case measure => simp [intOf]; omega
          | false =>
            go_wp2_with fail
            go_ret
            exact ⟨false, rfl, ⟨fun h => by simp at h, fun h => absurd (HI.out.2 (h.2 _ HM.out)) (by simp)⟩, grown_trans GX.out G5.out⟩
        · have h1 : ¬ (k : Int) < (qs.length : Int) := by omega
          go_wp2_with fail
          go_ret
          exact ⟨true, rfl, ⟨fun _ => ⟨HB1.out, fun p hp => by
            obtain ⟨q, hq, rfl⟩ := List.mem_map.1 hp
            obtain ⟨j, hj, rfl⟩ := List.getElem_of_mem hq
            exact hn.out j hj (by omega)⟩, fun _ => rfl⟩, grown_trans GX.out hg.out⟩

end Go.Proofs.Ytoaoheblaidhmaa

namespace Go.Proofs.Ytoaoheblaidhmaa
open Go.RowKit
set_option linter.unusedVariables false

def BothF (n : Int) (b1 : List Int) (q1 : List Row) (b2 : List Int) (q2 : List Row) : Prop := CheckF n [((.slice none 0 0, .slice none 0 0), (b1, q1))] 0 ∧ CheckF n [((.slice none 0 0, .slice none 0 0), (b2, q2))] 0
theorem checkF_val {n : Int} {x y x' y' : Value} {b : List Int} {q : List Row} {err : Int} (h : CheckF n [((x, y), (b, q))] err) : CheckF n [((x', y'), (b, q))] err := by
  cases h with
  | dim h => exact .dim h
  | many h1 h2 h3 => simp at h3
  | bad k err hk h1 h2 h3 h4 h5 h6 =>
    obtain rfl : k = 0 := by simpa using hk
    exact .bad 0 err (by simp) h1 h2 (by simp) (fun j hj h => by omega) h5 h6
  | ok h1 h2 h3 h4 => exact .ok h1 h2 (by simp) (fun j hj => by
      obtain rfl : j = 0 := by simpa using hj
      exact h4 0 (by simp))
theorem checkF_zero {n : Int} {x y : Value} {b : List Int} {q : List Row} (h : CheckF n [((x, y), (b, q))] 0) : ∃ N : Nat, n = (N : Int) ∧ 1 ≤ N ∧ N ≤ 4 ∧ ValidS N b (q.map Prod.snd) := by
  have h1 := (checkF_one h).1 rfl
  obtain ⟨N, rfl⟩ : ∃ N : Nat, n = (N : Int) := ⟨n.toNat, by omega⟩
  refine ⟨N, rfl, by omega, by omega, fault_valid (by omega) (by omega) ?_⟩
  have := h1.2.2
  simpa using this
theorem checkF_len {n : Int} {x y : Value} {b : List Int} {q : List Row} (h : CheckF n [((x, y), (b, q))] 0) : 1 ≤ b.length := by
  obtain ⟨N, -, h1, -, hv⟩ := checkF_zero h
  rw [hv.2.2.1]; exact h1
section
variable {n : Int} {b1 b2 : List Int} {q1 q2 : List Row} {sv1 sv2 : Value} {w : World}
set_option maxRecDepth 100000 in
set_option maxHeartbeats 1000000 in
theorem Within_bad (h1 : LinX w sv1 b1 q1) (hq1 : q1.length ≤ 20) (h2 : LinX w sv2 b2 q2) (hq2 : q2.length ≤ 20) (hb : ¬ BothF n b1 q1 b2 q2) :
    Calls Try.prog 29 #[.int .i64 n, sv1, sv2] w fun e w' => e = .returned (.bool false) ∧ w.grownBy w' none := by
  have H1 := Lib.hid h1; have H2 := Lib.hid h2
  obtain ⟨vb, vp, rfl, hrb, ⟨ap, cp, rfl, -⟩, -⟩ := h1
  obtain ⟨vb', vp', rfl, hrb', ⟨ap', cp', rfl, -⟩, -⟩ := h2
  have HRB := Lib.hid hrb
  obtain ⟨⟨ab, cb, hvb, -⟩, -, -⟩ := hrb
  obtain ⟨⟨ab', cb', hvb', -⟩, -, -⟩ := hrb'
  dsimp only at hvb hvb'
  subst hvb hvb'
  have HBD := Lib.hid hb
  clear hb
  go_enter Try.func29, Try.ntmps29
  go_wp2_with fail
  obtain ⟨k1, k2, k3⟩ := three_boxes w (.slice ab b1.length cb) (.slice ap q1.length cp) (.slice ab' b2.length cb') (.slice ap' q2.length cp') 26
  have hg3 : w.grownBy (((w.alloc (.cells #[.slice ab b1.length cb, .slice ap q1.length cp] 26)).alloc (.cells #[.slice ab' b2.length cb', .slice ap' q2.length cp'] 26)).alloc (.cells #[.slice ab b1.length cb, .slice ap q1.length cp] 26)) none := grown_after (grown_after (grown_after (grown_refl _ _)))
  generalize (((w.alloc (.cells #[.slice ab b1.length cb, .slice ap q1.length cp] 26)).alloc (.cells #[.slice ab' b2.length cb', .slice ap' q2.length cp'] 26)).alloc (.cells #[.slice ab b1.length cb, .slice ap q1.length cp] 26)) = W at *
  refine (check_is n _ _ W (setsX_one k3 (H1.out.same hg3) hq1)).mono ?_
  rintro e w2 ⟨err, rfl, hf, hg2⟩
  have HF := Lib.hid hf
  have G2 := Lib.hid (grown_trans hg3 hg2)
  have a0 := hg2.cell (cells_of k1).1 (by simp)
  have b0 := hg2.cell (cells_of k2).1 (by simp); have b1' := hg2.cell (cells_of k2).2 (by simp)
  have a0' := (World.grownBy_alloc w2 (.cells #[.slice ab' b2.length cb', .slice ap' q2.length cp'] 26) none).cell a0 (by simp)
  clear k1 k2 k3 hg3 hg2 hf
  by_cases he : err = 0
  · subst he
    have G2a := Lib.hid (World.grownBy_alloc w2 (.cells #[.slice ab' b2.length cb', .slice ap' q2.length cp'] 26) none)
    have HNF : Hid (∀ B : Bool, (B = true ↔ CheckF n [((.slice ab' b2.length cb', .slice ap' q2.length cp'), (b2, q2))] 0 ∧ HasP [((.slice ab' b2.length cb', .slice ap' q2.length cp'), (b2, q2))] b1) → B = false) := Lib.hid (fun B hB => by
      cases B with
      | false => rfl
      | true => exact absurd ⟨checkF_val HF.out, checkF_val (hB.1 rfl).1⟩ HBD.out)
    go_wp2_with fail
    refine (has_is n _ [((.slice ab' b2.length cb', .slice ap' q2.length cp'), (b2, q2))] _ b1 _ (setsX_one (heap_new _ rfl) (H2.out.same (grown_trans G2.out G2a.out)) hq2) ((HRB.out.same (grown_trans G2.out G2a.out)).ok (checkF_len HF.out))).mono ?_
    rintro e w3 ⟨B, rfl, hB, hg3⟩
    have G3 := Lib.hid (grown_trans (grown_trans G2.out G2a.out) hg3)
    obtain rfl := HNF.out B hB
    clear hB hg3 a0 a0' b0 b1'
    go_wp2_with fail
    go_ret
    exact ⟨rfl, G3.out⟩
  · have q1 : (err != 0) = true := by simpa using he
    clear he
    go_wp2_with fail
    go_ret
    exact ⟨rfl, G2.out⟩
set_option maxRecDepth 100000 in
set_option maxHeartbeats 2000000 in
theorem rWithin_any (h1 : LinX w sv1 b1 q1) (hq1 : q1.length ≤ 20) (h2 : LinX w sv2 b2 q2) (hq2 : q2.length ≤ 20) :
    Calls Try.prog 30 #[.int .i64 n, sv1, sv2] w (SaysP (BothF n b1 q1 b2 q2 ∧ WithinP b1 (q1.map Prod.snd) b2 (q2.map Prod.snd)) w) := by
  have H1 := Lib.hid h1; have H2 := Lib.hid h2
  obtain ⟨vb, vp, rfl, hrb, hp0, -⟩ := h1
  obtain ⟨vb', vp', rfl, hrb', hp0', hgd'⟩ := h2
  have HRB := Lib.hid hrb; have HP0 := Lib.hid hp0; have HP0' := Lib.hid hp0'; have HGD := Lib.hid hgd'
  obtain ⟨ap, cp, rfl, -⟩ := hp0
  obtain ⟨ap', cp', rfl, -⟩ := hp0'
  obtain ⟨⟨ab, cb, hvb, -⟩, -, -⟩ := hrb
  obtain ⟨⟨ab', cb', hvb', -⟩, -, -⟩ := hrb'
  dsimp only at hvb hvb'
  subst hvb hvb'
  clear hgd'
  go_enter Try.func30, Try.ntmps30
  go_wp2_with fail
  obtain ⟨k1, k2, k3⟩ := three_boxes w (.slice ab b1.length cb) (.slice ap q1.length cp) (.slice ab' b2.length cb') (.slice ap' q2.length cp') 26
  have hg3 : w.grownBy (((w.alloc (.cells #[.slice ab b1.length cb, .slice ap q1.length cp] 26)).alloc (.cells #[.slice ab' b2.length cb', .slice ap' q2.length cp'] 26)).alloc (.cells #[.slice ab b1.length cb, .slice ap q1.length cp] 26)) none := grown_after (grown_after (grown_after (grown_refl _ _)))
  generalize (((w.alloc (.cells #[.slice ab b1.length cb, .slice ap q1.length cp] 26)).alloc (.cells #[.slice ab' b2.length cb', .slice ap' q2.length cp'] 26)).alloc (.cells #[.slice ab b1.length cb, .slice ap q1.length cp] 26)) = W at *
  refine (rcheck13_is n _ _ W (setsX_one k3 (H1.out.same hg3) hq1)).mono ?_
  rintro e w2 ⟨err, rfl, hf, hg2⟩
  have HF := Lib.hid hf
  have G2 := Lib.hid (grown_trans hg3 hg2)
  have a0 := hg2.cell (cells_of k1).1 (by simp); have a1 := hg2.cell (cells_of k1).2 (by simp)
  have b0 := hg2.cell (cells_of k2).1 (by simp); have b1' := hg2.cell (cells_of k2).2 (by simp)
  have A0 := Lib.hid a0; have A1 := Lib.hid a1; have B0 := Lib.hid b0; have B1 := Lib.hid b1'
  clear k1 k2 k3 hg3 hg2 hf a0 a1
  by_cases he : err = 0
  case neg =>
    have q1 : (err != 0) = true := by simpa using he
    have HNE := Lib.hid he
    clear he
    go_wp2_with fail
    go_ret
    exact ⟨false, rfl, ⟨fun h => (by cases h), fun h => absurd (HF.out.one (checkF_val h.1.1)) HNE.out⟩, G2.out⟩
  subst he
  have G2a := Lib.hid (World.grownBy_alloc w2 (.cells #[.slice ab' b2.length cb', .slice ap' q2.length cp'] 26) none)
  go_wp2_with fail
  refine (rcheck13_is n _ _ _ (setsX_one (heap_new _ rfl) (H2.out.same (grown_trans G2.out G2a.out)) hq2)).mono ?_
  rintro e w3 ⟨err, rfl, hf, hg3⟩
  have HF2 := Lib.hid hf
  have G3 := Lib.hid (grown_trans (grown_trans G2.out G2a.out) hg3)
  have a0 := hg3.cell (G2a.out.cell A0.out (by simp)) (by simp); have a1 := hg3.cell (G2a.out.cell A1.out (by simp)) (by simp)
  have b0' := hg3.cell (G2a.out.cell B0.out (by simp)) (by simp); have b1'' := hg3.cell (G2a.out.cell B1.out (by simp)) (by simp)
  clear hf hg3 A0 A1 B0 B1 b0 b1'
  by_cases he : err = 0
  case neg =>
    have q1 : (err != 0) = true := by simpa using he
    have HNE := Lib.hid he
    clear he
    go_wp2_with fail
    go_ret
    exact ⟨false, rfl, ⟨fun h => (by cases h), fun h => absurd (HF2.out.one (checkF_val h.1.2)) HNE.out⟩, G3.out⟩
  subst he
  obtain ⟨N, rfl, hN1, hN4, hv1⟩ := checkF_zero HF.out
  have HV1 := Lib.hid hv1
  have HV2 : Hid (ValidS N b2 (q2.map Prod.snd)) := Lib.hid (by
    obtain ⟨M, e, -, -, h⟩ := checkF_zero HF2.out
    have : M = N := by omega
    rw [← this]; exact h)
  have HVX : Hid (ValidX b2 q2) := Lib.hid (by
    have h := HV2.out
    exact ⟨by rw [h.2.2.1]; exact hN1, by rw [h.2.2.1]; exact hN4, fault_ok (by rw [h.2.2.1]; exact h)⟩)
  have HBF : Hid (BothF (N : Int) b1 q1 b2 q2) := Lib.hid ⟨checkF_val HF.out, checkF_val HF2.out⟩
  have HQ1 : Hid (RowsP w (.slice ap q1.length cp) q1) := Lib.hid (HP0.out.toP1 (fun p hp => by rw [(HV1.out.2.2.2.2.1 _ (List.mem_map_of_mem hp)).1.1]; exact hN1))
  have HQ2 : Hid (RowsP w (.slice ap' q2.length cp') q2) := Lib.hid (HP0'.out.toP1 HVX.out.ne)
  have hq13 : q1.length ≤ 3 := by have := HV1.out.2.2.2.2.2.1; rwa [List.length_map] at this
  have hq23 : q2.length ≤ 3 := by have := HV2.out.2.2.2.2.2.1; rwa [List.length_map] at this
  have HTM := Lib.hid (rTimes_any (H2.out.same G3.out) hq2 ((HRB.out.same G3.out).ok (by show 1 ≤ b1.length; rw [HV1.out.2.2.1]; exact hN1)) HVX.out (by rw [HV1.out.2.2.1, HV2.out.2.2.1]) (withB_iff.2 fun x hx => by have := HV1.out.2.2.2.1 x hx; omega))
  clear hv1
  go_wp2_with fail
  refine HTM.out.mono ?_
  rintro e w4 ⟨r, hlr, v4, rfl, -, hg4⟩
  have HI := Lib.hid hlr.iff
  have G4 := Lib.hid (grown_trans G3.out hg4)
  have A1 := Lib.hid (hg4.cell a1 (by simp)); have B1 := Lib.hid (hg4.cell b1'' (by simp))
  clear hlr hg4 a0 a1 b0' b1'' HTM
  cases hB : r.isSome with
  | false =>
    have HNS : Hid (¬ SolE (q2.map Prod.snd) (lessL b1 b2)) := Lib.hid (fun h => by have := HI.out.2 h; rw [hB] at this; cases this)
    clear hB
    go_wp2_with fail
    go_ret
    exact ⟨false, rfl, ⟨fun h => (by cases h), fun h => absurd h.2.1 HNS.out⟩, G4.out⟩
  | true =>
  have HS1 : Hid (SolE (q2.map Prod.snd) (lessL b1 b2)) := Lib.hid (HI.out.1 hB)
  clear hB HI
  go_wp2_with fail
  go_loopw [9] (fun i wr => ∃ k : Nat, i = .int .i64 k ∧ k ≤ q1.length ∧ Hid (∀ j, (hj : j < q1.length) → j < k → SolE (q2.map Prod.snd) (q1[j]).2) ∧ Hid (w4.grownBy wr none)) (fun i _ => q1.length - (intOf i).toNat)
  case atStart => exact ⟨0, rfl, Nat.zero_le _, Lib.hid (by omega), Lib.hid (grown_refl _ _)⟩
  case round =>
    obtain ⟨k, rfl, hk, hn, hg⟩ := hrel
    rename World => wk
    have G5 := Lib.hid (grown_trans G4.out hg.out)
    have a1 := hg.out.cell A1.out (by simp)
    by_cases hlt : k < q1.length
    · have h1 : (k : Int) < (q1.length : Int) := by omega
      have i1 : IntKind.i64.wrap ((k : Int) + 1) = (k : Int) + 1 := IntWalk.i64_in _ (by omega)
      obtain ⟨_, _, hv, _, hc, hrow⟩ := HQ1.out.same G5.out
      simp only [Value.slice.injEq] at hv
      obtain ⟨rfl, -, -⟩ := hv
      obtain ⟨b9, o9, rfl, hx⟩ := RowsP.at hc hlt
      have HRK := Lib.hid (hrow _ (List.getElem_mem hlt))
      have HPK : Hid (PerOk N (q1[k]).2) := Lib.hid (HV1.out.2.2.2.2.1 _ (List.mem_map_of_mem (List.getElem_mem hlt)))
      have HN : Hid (SolE (q2.map Prod.snd) (q1[k]).2 → ∀ j, (hj : j < q1.length) → j < k + 1 → SolE (q2.map Prod.snd) (q1[j]).2) := Lib.hid (by
        intro hyes j hj hjk
        by_cases he : j = k
        · subst he; exact hyes
        · exact hn.out j hj (by omega))
      have HM : Hid ((q1[k]).2 ∈ q1.map Prod.snd) := Lib.hid (List.mem_map_of_mem (List.getElem_mem hlt))
      have b1 := hg.out.cell B1.out (by simp)
      clear hc hrow hn
      generalize q1[k] = q at *
      obtain ⟨qv, p⟩ := q
      obtain ⟨⟨ak, ck, hvk, -, -, -⟩, -, -⟩ := HRK.out
      dsimp only at hx hvk HPK HN HM
      subst hvk
      have HTC := Lib.hid (rtimes_any N hN1 (by omega) q2 (.slice ap' q2.length cp') (.slice ak p.length ck) p wk.drew (HQ2.out.same (grown_trans G5.out (grown_drew _ none))) HGD.out (HRK.out.same (grown_drew _ none)) HPK.out.1.1 (fun q hq => HV2.out.2.2.2.2.1 _ (List.mem_map_of_mem hq)) (fun x hx => by have h3 := HPK.out.1.2 x hx; have h4 := HPK.out.2.2 x hx; omega) (by omega))
      have a1d : wk.drew.cell? ⟨w.heap.size, 1, none⟩ = some (.slice (some ⟨b9, o9, none⟩) q1.length cp) := a1
      have b1d : wk.drew.cell? ⟨w.heap.size + 1, 1, none⟩ = some (.slice ap' q2.length cp') := b1
      have hxd : wk.drew.cell? ⟨b9, o9 + k, none⟩ = some (.slice ak p.length ck) := hx
      go_wp2_with fail
      go_region_law (refine step_call 48 42 _ _ _ _ _ Try.f42 _ Try.func42 (by kernel_rfl) rfl [.slice ap' q2.length cp', .slice ak p.length ck] (by kernel_rfl) _ HTC.out ?_; rintro e w6 ⟨r2, hlr2, v6, rfl, -, hg6⟩; have HI2 := Lib.hid hlr2.iff; have G6 := Lib.hid (grown_trans hg.out (grown_trans (grown_drew wk none) hg6)); clear hlr2 hg6; refine ⟨_, rfl, ?_⟩)
      all_goals
        clear a1 b1 a1d b1d hx hxd HTC
        obtain ⟨B2, hB2⟩ : ∃ B2, r2.isSome = B2 := ⟨_, rfl⟩
        rw [hB2] at HI2
        cases B2 with
        | false =>
          have HNS : Hid (¬ SolE (q2.map Prod.snd) p) := Lib.hid (fun h => by have := HI2.out.2 h; cases this)
          rw [hB2]
          clear hB2
          go_wp2_with fail
          go_ret
          exact ⟨false, rfl, ⟨fun h => (by cases h), fun h => absurd (h.2.2 p HM.out) HNS.out⟩, grown_trans G4.out G6.out⟩
        | true =>
          have HN2 := Lib.hid (HN.out (HI2.out.1 rfl))
          rw [hB2]
          clear hB2
          go_wp2_with fail
          go_roundw
          case rel => exact ⟨k + 1, by go_num, by omega, HN2, G6⟩
          case measure => (simp [intOf]; try omega)
    · have h1 : ¬ (k : Int) < (q1.length : Int) := by omega
      go_wp2_with fail
      go_ret
      exact ⟨true, rfl, ⟨fun _ => ⟨HBF.out, HS1.out, fun p hp => by
        obtain ⟨q, hq, rfl⟩ := List.mem_map.1 hp
        obtain ⟨j, hj, rfl⟩ := List.getElem_of_mem hq
        exact hn.out j hj (by omega)⟩, fun _ => rfl⟩, G5.out⟩
end
/-- One answer for both sides. -/
theorem within_u (n : Int) (b1 : List Int) (q1 : List Row) (b2 : List Int) (q2 : List Row) (hq1 : q1.length ≤ 20) (hq2 : q2.length ≤ 20) : ∃ B : Bool, (∀ w s1 s2, LinX w s1 b1 q1 → LinX w s2 b2 q2 → Calls Try.prog 29 #[.int .i64 n, s1, s2] w fun e w' => e = .returned (.bool B) ∧ w.grownBy w' none) ∧ ∀ w s1 s2, LinX w s1 b1 q1 → LinX w s2 b2 q2 → Calls Try.prog 30 #[.int .i64 n, s1, s2] w fun e w' => e = .returned (.bool B) ∧ w.grownBy w' none := by
  by_cases hb : BothF n b1 q1 b2 q2
  · obtain ⟨N, rfl, hN1, hN4, hv1⟩ := checkF_zero hb.1
    obtain ⟨M, e, -, -, hv2⟩ := checkF_zero hb.2
    obtain rfl : N = M := by omega
    have hp : ∀ w s1 s2, LinX w s1 b1 q1 → LinX w s2 b2 q2 → Calls Try.prog 29 #[.int .i64 (N : Int), s1, s2] w (SaysP (WithinP b1 (q1.map Prod.snd) b2 (q2.map Prod.snd)) w) := fun w s1 s2 h k => by
      have h' := h.lin (by rw [hv1.2.2.1]; exact hN1) (fun p hp => by rw [(hv1.2.2.2.2.1 _ (List.mem_map_of_mem hp)).1.1]; exact hN1)
      have k' := k.lin (by rw [hv2.2.2.1]; exact hN1) (fun p hp => by rw [(hv2.2.2.2.2.1 _ (List.mem_map_of_mem hp)).1.1]; exact hN1)
      obtain ⟨x1, y1, rfl, -⟩ := h
      obtain ⟨x2, y2, rfl, -⟩ := k
      exact Within_any N ((x1, y1), (b1, q1.map Prod.snd)) ((x2, y2), (b2, q2.map Prod.snd)) w ⟨h', hv1⟩ ⟨k', hv2⟩
    by_cases hw : WithinP b1 (q1.map Prod.snd) b2 (q2.map Prod.snd)
    · exact ⟨true, fun w s1 s2 h k => (hp w s1 s2 h k).mono fun e w' hh => saysP_u hh (by simp [hw]), fun w s1 s2 h k => (rWithin_any h hq1 k hq2).mono fun e w' hh => saysP_u hh (by simp [hw, hb])⟩
    · exact ⟨false, fun w s1 s2 h k => (hp w s1 s2 h k).mono fun e w' hh => saysP_u hh (by simp [hw]), fun w s1 s2 h k => (rWithin_any h hq1 k hq2).mono fun e w' hh => saysP_u hh (by simp [hw])⟩
  · exact ⟨false, fun w s1 s2 h k => Within_bad h hq1 k hq2 hb, fun w s1 s2 h k => (rWithin_any h hq1 k hq2).mono fun e w' hh => saysP_u hh (by simp [hb])⟩
end Go.Proofs.Ytoaoheblaidhmaa
