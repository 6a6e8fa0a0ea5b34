/- Rows cut, cloned, joined; the first error. -/
import Derived.Test.YtahffjoehjpfkaaEv
import Derived.Test.YtahffjoehjpfkaaRw
import Derived.Test.YtahffjoehjpfkaaXc
import Derived.Test.YtahffjoehjpfkaaNa
import Derived.Laws.CopyOwn
import Derived.Lib.MinMax
namespace Go.Proofs.Ytahffjoehjpfkaa
open Go.RowKit
set_option linter.unusedVariables false

theorem snd_take (ps : List Row) (k : Nat) (h : k < ps.length) : (ps.take (k + 1)).map Prod.snd = (ps.take k).map Prod.snd ++ [(ps[k]).2] := by rw [List.take_succ_eq_append_getElem h, List.map_append]; rfl

theorem far_of {w wc : World} {base : Nat} {v : Value} {ps qs : List Row} (hr : ∀ p ∈ ps, RowOk w p) (h : OwnP wc base v qs) (hb : w.heap.size ≤ base) : ∀ q ∈ ps, ∀ g, q.1.ownBlock = some g → v.ownBlock ≠ some g := by
  intro q hq g h1 h2
  have a1 := (hr q hq).2.2 g h1
  have a2 := (h.fresh g h2).1
  omega

theorem rows_rows {w : World} {v : Value} {ps : List Row} (h : RowsP w v ps) : ∀ p ∈ ps, RowOk w p := by
  obtain ⟨_, _, _, _, _, hr⟩ := h
  exact hr
theorem OwnP.good {w : World} {base : Nat} {v : Value} {ps : List Row} (h : OwnP w base v ps) : Good v := by
  rcases h.1.2 with ⟨rfl, h0⟩ | ⟨g, cap, cur, rfl, _, _, hn, _⟩
  · exact Good.nil
  · exact Good.some _ hn
theorem ownI_open {w : World} {base : Nat} {v : Value} {xs : List Int} (h : OwnI w base v xs) : ∃ a c, v = .slice a xs.length c := by
  rcases h.2 with ⟨hv, h0⟩ | ⟨g, cap, cur, hv, _⟩
  · exact ⟨none, 0, by rw [hv, h0]⟩
  · exact ⟨_, cap, hv⟩
theorem RowOk.bdd {w : World} {v : Value} {xs : List Int} (h : RowOk w (v, xs)) : ∀ x ∈ xs, -9223372036854775808 ≤ x ∧ x ≤ 9223372036854775807 := by
  obtain ⟨⟨_, _, _, _, hb, _⟩, _⟩ := h
  exact hb
theorem copied {w : World} {base g n cap : Nat} {zs xs : List Int} (h : OwnI w base (.slice (some ⟨g, 0, none⟩) n cap) zs) (hl : xs.length = n) :
    ∃ cur, w.heap[g]? = some (.cells cur 3 (0, 0)) ∧ n ≤ cur.size ∧ ∀ (W : World), W = w.setRow g (xs.map (Value.int .i64) ++ cur.toList.drop xs.length).toArray →
      OwnI W base (.slice (some ⟨g, 0, none⟩) n cap) xs ∧ w.grownBy W (some g) := by
  rcases h.2 with ⟨h', _⟩ | ⟨g', cap', cur, h', hb, hh, hn, hm, hs, ht⟩
  · simp at h'
  · simp only [Value.slice.injEq, Option.some.injEq, Addr.mk.injEq] at h'
    obtain ⟨⟨rfl, -⟩, h2, rfl⟩ := h'
    have hzl : zs.length = n := h2.symm
    rw [Nat.mul_one] at hs
    refine ⟨cur, hh, by omega, ?_⟩
    rintro W rfl
    refine ⟨⟨by simp, .inr ⟨g, cap, _, by rw [hl], hb, setRow_heap _ _ _ _ _ _ hh, by omega, hm, ?_, ?_⟩⟩, ?_⟩
    · simp <;> omega
    · simp [hl]
    · exact ⟨rfl, rfl, rfl, by simp [World.setRow], fun k _ hk => setRow_other w g k _ (by intro e; exact hk (by rw [e]))⟩


set_option maxRecDepth 20000 in
theorem rows_tail1 {w : World} {a : Option Addr} {n cap k : Nat} {ps : List Row} (h : RowsP w (.slice a n cap) ps) (hg : Good (.slice a n cap)) (hk : k ≤ ps.length) :
    ∃ a' c', (∀ w', (Instr.slice 28 (.slice a n cap) (some (.int .i64 (k : Int))) none none).run Try.prog w' = .ok (.slice a' (n - k) c') w') ∧ RowsP w (.slice a' (n - k) c') (ps.drop k) ∧ Good (.slice a' (n - k) c') := by
  obtain ⟨i, hi, hz0, hz1, hz2⟩ := info_parts info_row
  have h' := h
  obtain ⟨a1, cap1, hv, hl, hc, hr⟩ := h
  simp only [Value.slice.injEq] at hv
  obtain ⟨rfl, rfl, rfl⟩ := hv
  have hcap := hg.2 _ _ _ rfl
  have hrun : ∀ w', (Instr.slice 28 (.slice a ps.length cap) (some (.int .i64 (k : Int))) none none).run Try.prog w' = .ok (.slice (if cap = k then a else a.map (·.add k)) (ps.length - k) (cap - k)) w' := by
    intro w'
    rw [run_slice_l w' 28 a ps.length cap Try.underlying28 .i64 (k : Int) (by omega) (by omega)]
    rw [show Try.prog.elem 28 = 22 by kernel_rfl]
    simp [sizeOf, typeInfo, hi, hz1, sliced, Result.andThen]
  have hr' : ∀ p ∈ ps.drop k, RowOk w p := fun p hp => hr p (List.mem_of_mem_drop hp)
  have hlen : (ps.drop k).length = ps.length - k := List.length_drop
  refine ⟨_, _, hrun, ?_, ?_, ?_⟩
  · rcases hc with rfl | ⟨b, off, rfl, hc⟩
    · exact ⟨if cap = k then a else a.map (·.add k), cap - k, by simp, by simp, .inl (by simp), by simp⟩
    · by_cases hck : cap = k
      · rw [if_pos hck]
        exact ⟨some ⟨b, off, none⟩, cap - k, by rw [hlen], by omega, .inl (List.drop_eq_nil_of_le (by omega)), hr'⟩
      · rw [if_neg hck]
        have he : (⟨b, off, none⟩ : Addr).add k = ⟨b, off + k, none⟩ := by unfold Addr.add; split <;> simp_all
        simp only [Option.map_some, he]
        refine ⟨some ⟨b, off + k, none⟩, cap - k, by rw [hlen], by omega, .inr ⟨b, off + k, rfl, fun i hi => ?_⟩, hr'⟩
        rw [hlen] at hi
        rw [show off + k + i = off + (k + i) by omega, hc (k + i) (by omega), List.getElem?_drop]
  · intro n' c' e
    simp only [Value.slice.injEq] at e
    have : a = none := by
      have := e.1
      split at this
      · exact this
      · simpa using this
    subst this
    have := hg.1 _ _ rfl
    omega
  · intro a1 n1 c1 e
    simp only [Value.slice.injEq] at e
    omega

theorem src_cells {w : World} {b off : Nat} {xs : List Int} (hc : ∀ i, i < xs.length → w.cell? ⟨b, off + i, none⟩ = some (.int .i64 (xs[i]?.getD 0))) :
    ∀ j u, (xs.map (Value.int .i64))[j]? = some u → w.cell? ((⟨b, off, none⟩ : Addr).add j) = some u := by
  intro j u hj
  have hj' : j < xs.length := by
    have := (List.getElem?_eq_some_iff.1 hj).1
    simpa using this
  have e : (⟨b, off, none⟩ : Addr).add j = ⟨b, off + j, none⟩ := by unfold Addr.add; split <;> simp_all
  rw [e, hc j hj']
  simp [hj'] at hj
  simp [hj', hj]

set_option maxRecDepth 20000 in
set_option maxHeartbeats 1000000 in
theorem cloneInts_any (v : Value) (xs : List Int) (w : World) (h : RowOk w (v, xs)) (h1 : 1 ≤ xs.length) (hl : xs.length ≤ 1000000) :
    Calls Try.prog 78 #[v] w (Made xs w) := by
  have H := Lib.hid h
  obtain ⟨⟨a, cap, hv, -, -, -⟩, -, -⟩ := h
  simp only at hv
  subst hv
  have hne : ¬ (xs.length : Int) = 0 := by omega
  go_enter Try.func78, Try.ntmps78
  go_wp2_with (at_make; refine make_int rfl _ _ rfl xs.length rfl rfl (by omega) ?_)
  intro w1 ho hg
  have G1 := Lib.hid hg
  have HM : Hid (w1.heap.size > w.heap.size) := Lib.hid (ho.fresh _ rfl).2
  obtain ⟨cur, hh, hsz, hW⟩ := copied ho rfl
  have HW := Lib.hid hW
  obtain ⟨⟨a1, cap1, hv1, -, -, hc⟩, -⟩ := (H.out.same hg)
  simp only [Value.slice.injEq] at hv1
  obtain ⟨rfl, -, -⟩ := hv1
  rcases hc with rfl | ⟨b, off, rfl, hc⟩
  · simp at h1
  dsimp only at hc
  clear ho hg hW
  go_wp2_with (refine wpList_copy_own rfl _ _ 22 22 rfl 3 Try.underlying22 (by kernel_rfl) w.heap.size 0 xs.length xs.length ⟨b, off, none⟩ xs.length cap rfl rfl cur 3 hh (xs.map (Value.int .i64)) (by simp) (src_cells hc) (by simp <;> omega) (by intro u hu; obtain ⟨x, -, rfl⟩ := List.mem_map.1 hu; rfl) ?_)
  generalize hWW : World.setRow _ _ _ = W
  obtain ⟨hO, hG⟩ := HW.out W hWW.symm
  have HO := Lib.hid hO
  have HG := Lib.hid (grown_then G1.out hG (by rintro j ⟨⟩; exact .inl (Nat.le_refl _)))
  clear hO hG hWW hc hh hsz HW
  go_wp2_with fail
  go_ret
  exact ⟨_, rfl, HO.out, HG.out⟩

/-- Rows that are new. -/
def NewR (base : Nat) (v : Value) (qs : List Row) : Prop := (∀ g, v.ownBlock = some g → base ≤ g) ∧ ∀ q ∈ qs, ∀ g, q.1.ownBlock = some g → base ≤ g
def GotN (rs : List (List Int)) (w : World) (e : Ending) (w' : World) : Prop := ∃ v qs, e = .returned v ∧ RowsP w' v qs ∧ Good v ∧ qs.map Prod.snd = rs ∧ w.grownBy w' none ∧ NewR w.heap.size v qs
set_option maxRecDepth 100000 in
set_option maxHeartbeats 1000000 in
theorem each_any (v : Value) (qs : List Row) (w : World) (h : RowsP w v qs) (hl : qs.length ≤ 1000) (hr : ∀ q ∈ qs, 1 ≤ q.2.length ∧ q.2.length ≤ 1000) :
    Calls Try.prog 77 #[v, .func (.func 78) #[] #[]] w (GotN (qs.map Prod.snd) w) := by
  have H := Lib.hid h; have HR := Lib.hid hr
  obtain ⟨a, cap, rfl, -, -, -⟩ := h
  clear hr
  by_cases h0 : qs.length = 0
  · have e0 : qs = [] := List.eq_nil_of_length_eq_zero h0
    subst e0
    clear hl h0
    go_enter Try.func77, Try.ntmps77
    go_wp2_with fail
    go_ret
    exact ⟨_, [], rfl, ⟨none, 0, rfl, Nat.zero_le _, .inl rfl, by simp⟩, Good.nil, rfl, grown_refl _ _, by intro g h; simp [Value.ownBlock] at h, by simp⟩
  · have h1 : ¬ (qs.length : Int) = 0 := by omega
    go_enter Try.func77, Try.ntmps77
    go_wp2_with (at_make; refine make_rows rfl _ _ rfl qs.length rfl rfl (by omega) ?_)
    intro w1 ho1 hg1
    have O1 := Lib.hid ho1; have G1 := Lib.hid hg1
    clear ho1 hg1
    go_wp2_with fail
    go_loopw [16] (fun i wr => ∃ (k : Nat) (zs : List Row), i = .int .i64 k ∧ k ≤ qs.length ∧ Hid (zs.length = qs.length ∧ (zs.take k).map Prod.snd = (qs.take k).map Prod.snd) ∧ Hid (∀ z ∈ zs, ∀ g, z.1.ownBlock = some g → w.heap.size ≤ g) ∧ Hid (OwnP wr w.heap.size (.slice (some ⟨w.heap.size, 0, none⟩) qs.length qs.length) zs) ∧ Hid (w.grownBy wr none)) (fun i _ => qs.length - (intOf i).toNat)
    case atStart => exact ⟨0, _, rfl, Nat.zero_le _, Lib.hid ⟨by simp, by simp⟩, Lib.hid (by intro z hz g h; rw [List.eq_of_mem_replicate hz] at h; simp [Value.ownBlock] at h), O1, G1⟩
    case round =>
      obtain ⟨k, zs, rfl, hk, hz, hnw, ho, hg⟩ := hrel
      rename World => wk
      by_cases hlt : k < qs.length
      · obtain ⟨_, _, hv, _, hc, hrow⟩ := H.out.same hg.out
        simp only [Value.slice.injEq] at hv
        obtain ⟨rfl, -, -⟩ := hv
        obtain ⟨b1, o1, rfl, hx⟩ := RowsP.at hc hlt
        have HRK := Lib.hid (hrow _ (List.getElem_mem hlt))
        have HLK := Lib.hid (HR.out _ (List.getElem_mem hlt))
        have HSN := Lib.hid (snd_take qs k hlt)
        have h2 : (k : Int) < (qs.length : Int) := by omega
        clear hc hrow
        generalize qs[k] = q at *
        obtain ⟨qv, p⟩ := q
        obtain ⟨⟨ak, ck, hvk, -, -, -⟩, -, -⟩ := HRK.out
        dsimp only at hx hvk HLK HSN
        subst hvk
        go_wp2_with fail
        refine (cloneInts_any _ p _ HRK.out HLK.out.1 (by have := HLK.out.2; omega)).mono ?_
        rintro e w3 ⟨v3, rfl, ho3, hg3⟩
        obtain ⟨a3, c3, rfl⟩ := ownI_open ho3
        have R3 := Lib.hid (ho3.row HRK.out.bdd)
        have F3 : Hid (∀ j, (Value.slice a3 p.length c3).ownBlock = some j → j ≠ w.heap.size) := Lib.hid (fun j hj e => by
          have h3 := (ho3.fresh j hj).1
          have h4 : w.heap.size < wk.heap.size := (ho.out.fresh _ rfl).2
          omega)
        have N3 : Hid (∀ j, (Value.slice a3 p.length c3).ownBlock = some j → w.heap.size ≤ j) := Lib.hid (fun j hj => Nat.le_trans hg.out.size (ho3.fresh j hj).1)
        have O3 := Lib.hid (ho.out.same hg3); have G3 := Lib.hid (grown_trans hg.out hg3)
        obtain ⟨hcell, hfr⟩ := O3.out.cell k (by rw [hz.out.1]; exact hlt)
        clear ho3 hg3
        go_wp2_with fail
        go_roundw
        case rel => exact ⟨k + 1, zs.set k (.slice a3 p.length c3, p), by go_num, by omega, Lib.hid ⟨by rw [List.length_set]; exact hz.out.1, by
          rw [HSN.out, ← hz.out.2]
          have hkz : k < zs.length := by rw [hz.out.1]; exact hlt
          rw [List.take_succ_eq_append_getElem (by rw [List.length_set]; exact hkz), List.map_append, List.take_set_of_le (by omega)]
          simp⟩, Lib.hid (fun z hz' g hg' => by
          rcases List.mem_or_eq_of_mem_set hz' with h | rfl
          · exact hnw.out z h g hg'
          · exact N3.out g hg'), Lib.hid (O3.out.stored k (.slice a3 p.length c3, p) R3.out F3.out), Lib.hid (grown_then G3.out (grown_set _ _ _) (by rintro j ⟨⟩; exact .inl (Nat.le_refl _)))⟩
        case measure => simp [intOf]; omega
      · have h2 : ¬ (k : Int) < (qs.length : Int) := by omega
        have hq : zs.map Prod.snd = qs.map Prod.snd := by
          have h3 := hz.out.1
          have h4 := hz.out.2
          rwa [List.take_of_length_le (by omega), List.take_of_length_le (by omega)] at h4
        have HQ := Lib.hid hq
        clear hq
        go_wp2_with fail
        go_ret
        exact ⟨_, zs, rfl, ho.out.rows, ho.out.good, HQ.out, hg.out, fun g h => (ho.out.fresh g h).1, hnw.out⟩
theorem lists_any (v : Value) (qs : List Row) (w : World) (h : RowsP w v qs) (hl : qs.length ≤ 1000) (hr : ∀ q ∈ qs, 1 ≤ q.2.length ∧ q.2.length ≤ 1000) :
    Calls Try.prog 67 #[v] w (GotN (qs.map Prod.snd) w) := by
  have H := Lib.hid (each_any v qs w h hl hr)
  obtain ⟨a, cap, rfl, -, -, -⟩ := h
  clear hr hl
  go_enter Try.func67, Try.ntmps67
  go_wp2_with fail
  refine H.out.mono ?_
  rintro e w1 ⟨v1, q1, rfl, hr1, hg1, hq1, hw1, hn1⟩
  have N1 := Lib.hid hn1; have R1 := Lib.hid hr1; have GD := Lib.hid hg1; have Q1 := Lib.hid hq1; have G1 := Lib.hid hw1
  clear hr1 hg1 hq1 hw1 H hn1
  go_wp2_with fail
  go_ret
  exact ⟨_, q1, rfl, R1.out, GD.out, Q1.out, G1.out, N1.out⟩


theorem growR_nil (n : Nat) (w : World) (hn : n ≤ 1000000000000) :
    Calls Try.prog 73 #[.slice none 0 0, .int .i64 (n : Int)] w fun e w' => ∃ v, e = .returned v ∧ OwnP w' w.heap.size v [] ∧ w.grownBy w' none := by
  obtain ⟨i, hi, hz0, hz1, hz2⟩ := info_parts info_row
  rcases Nat.eq_zero_or_pos n with rfl | hpos
  · refine (Any8.slices_Grow_room Try.grow73 none 0 0 0 w (by omega) (by omega) (by omega) (by omega)).mono ?_
    rintro e w' ⟨rfl, rfl⟩
    exact ⟨_, rfl, OwnP.nil _ _, grown_refl _ _⟩
  · refine (Any8.slices_Grow_grow Try.grow73 i (.slice none 0 0) hi hz0 (by rw [hz1]; decide) none 0 0 n [] w (by omega) (by omega) (by rw [hz2]; omega) (by omega) (by simp) (fun _ => rfl) (by intro a h; cases h)).mono ?_
    rintro e w' ⟨rfl, rfl⟩
    refine ⟨_, rfl, ⟨?_, by simp⟩, grown_trans (grown_drew _ _) (World.grownBy_alloc _ _ _)⟩
    refine World.ownsRow_made (w := w.drew) (base := w.heap.size) _ _ (Nat.le_refl _) ?_ ?_
    · exact grownCap_le_maxLen _ _ _ _ (by unfold maxLen; omega)
    · have := grownCap_ge w n 0 (Try.grow73_ren.t 25)
      simp [size_zeroCells, Value.cells]
      omega

def part2 {α : Type} (a b : List α) (k : Nat) : List α := if k = 0 then [] else if k = 1 then a else a ++ b
set_option maxRecDepth 100000 in
set_option maxHeartbeats 1500000 in
theorem concatR_any (g cap : Nat) (x y : Value) (qs rs : List Row) (w : World) (c0 : w.cell? ⟨g, 0, none⟩ = some x) (c1 : w.cell? ⟨g, 1, none⟩ = some y) (hx : RowsP w x qs) (hy : RowsP w y rs) (hq : qs.length ≤ 1000) (hr : rs.length ≤ 1000) :
    Calls Try.prog 40 #[.slice (some ⟨g, 0, none⟩) 2 cap] w fun e w' => ∃ v, e = .returned v ∧ OwnP w' w.heap.size v (qs ++ rs) ∧ w.grownBy w' none := by
  have HX := Lib.hid hx; have HY := Lib.hid hy; have C0 := Lib.hid c0; have C1 := Lib.hid c1
  obtain ⟨ax, cx, rfl, -, -, -⟩ := hx
  obtain ⟨ay, cy, rfl, -, -, -⟩ := hy
  clear c0 c1
  go_enter Try.func40, Try.ntmps40
  go_wp2_with fail
  go_loop [3, 11] (fun s i => ∃ k : Nat, k ≤ 2 ∧ i = .int .i64 k ∧ s = .int .i64 ((part2 qs rs k).length : Nat)) (fun _ i => 2 - (intOf i).toNat)
  case atStart => exact ⟨0, by omega, rfl, rfl⟩
  case round =>
    obtain ⟨k, hk, rfl, rfl⟩ := hrel
    match k, hk with
    | 0, _ =>
      have c0 := C0.out
      simp only [part2, if_pos, List.length_nil]
      go_wp2_with fail
      go_round
      case rel => exact ⟨1, by omega, by go_num, by simp⟩
      case measure => simp [intOf]
    | 1, _ =>
      have c1 := C1.out
      have e1 : part2 qs rs 1 = qs := rfl
      rw [e1]
      have hs : ¬ (qs.length : Int) + (rs.length : Int) < 0 := by omega
      go_wp2_with fail
      go_round
      case rel => exact ⟨2, by omega, by go_num, by simp [part2]⟩
      case measure => simp [intOf]
    | 2, _ =>
      have e2 : part2 qs rs 2 = qs ++ rs := rfl
      rw [e2]
      have hle : (qs ++ rs).length ≤ 2000 := by simp; omega
      generalize hm : (qs ++ rs).length = m at *
      clear hm
      go_wp2_with fail
      refine (growR_nil m _ (by omega)).mono ?_
      rintro e w1 ⟨v1, rfl, ho, hg⟩
      have HO := Lib.hid ho; have HG := Lib.hid hg
      clear ho hg
      go_wp2_with fail
      go_loopw [6, 27] (fun v i wr => ∃ k : Nat, k ≤ 2 ∧ i = .int .i64 k ∧ Hid (OwnP wr w.heap.size v (part2 qs rs k)) ∧ Hid (w.grownBy wr none)) (fun _ i _ => 2 - (intOf i).toNat)
      case atStart => exact ⟨0, by omega, rfl, HO, HG⟩
      case round =>
        obtain ⟨k, hk, rfl, ho, hg⟩ := hrel
        match k, hk with
        | 0, _ =>
          have c := hg.out.cell C0.out (by simp)
          have hsz := hg.out.size
          have RX := Lib.hid (HX.out.same hg.out)
          have FX := Lib.hid (far_of (fun p hp => rows_rows HX.out p hp) ho.out (Nat.le_refl _))
          have HO2 := ho
          change Hid (OwnP _ w.heap.size _ ([])) at HO2
          clear ho
          go_wp2_with (at_builtin; refine app_all rfl _ _ rfl w.heap.size _ ([]) rfl HO2.out _ _ rfl RX.out FX.out (by first | omega | (simp; omega)) hsz ?_)
          intro a' n' c' w' hn' ho' hg'
          have HO3 : Hid (OwnP w' w.heap.size (.slice a' n' c') (qs)) := Lib.hid ho'
          have HG3 := Lib.hid (grown_then hg.out hg' (fun j hj => .inl (HO2.out.fresh j hj).1))
          clear ho' hg' hn' c
          go_wp2_with fail
          go_roundw
          case rel => exact ⟨1, by omega, by go_num, HO3, HG3⟩
          case measure => simp [intOf]
        | 1, _ =>
          have c := hg.out.cell C1.out (by simp)
          have hsz := hg.out.size
          have RX := Lib.hid (HY.out.same hg.out)
          have FX := Lib.hid (far_of (fun p hp => rows_rows HY.out p hp) ho.out (Nat.le_refl _))
          have HO2 := ho
          change Hid (OwnP _ w.heap.size _ (qs)) at HO2
          clear ho
          go_wp2_with (at_builtin; refine app_all rfl _ _ rfl w.heap.size _ (qs) rfl HO2.out _ _ rfl RX.out FX.out (by first | omega | (simp; omega)) hsz ?_)
          intro a' n' c' w' hn' ho' hg'
          have HO3 : Hid (OwnP w' w.heap.size (.slice a' n' c') (qs ++ rs)) := Lib.hid ho'
          have HG3 := Lib.hid (grown_then hg.out hg' (fun j hj => .inl (HO2.out.fresh j hj).1))
          clear ho' hg' hn' c
          go_wp2_with fail
          go_roundw
          case rel => exact ⟨2, by omega, by go_num, HO3, HG3⟩
          case measure => simp [intOf]
        | 2, _ =>
          go_wp2_with fail
          go_ret
          exact ⟨_, rfl, ho.out, hg.out⟩


/-! ### Max, Min -/

def orE (x y : Int) : Int := if x = 0 then y else x
set_option maxRecDepth 100000 in
set_option maxHeartbeats 1000000 in
theorem or_any (g cap : Nat) (x y : Int) (w : World) (c0 : w.cell? ⟨g, 0, none⟩ = some (.int .i64 x)) (c1 : w.cell? ⟨g, 1, none⟩ = some (.int .i64 y)) :
    Calls Try.prog 72 #[.slice (some ⟨g, 0, none⟩) 2 cap] w fun e w' => e = .returned (.int .i64 (orE x y)) ∧ w' = w := by
  have C0 := Lib.hid c0; have C1 := Lib.hid c1
  clear c0 c1
  go_enter Try.func72, Try.ntmps72
  go_wp2_with fail
  go_loop [8] (fun i => ∃ k : Nat, k ≤ 2 ∧ i = .int .i64 k ∧ Hid ((0 < k → x = 0) ∧ (1 < k → y = 0))) (fun i => 2 - (intOf i).toNat)
  case atStart => exact ⟨0, by omega, rfl, Lib.hid (by omega)⟩
  case round =>
    obtain ⟨k, hk, rfl, hz⟩ := hrel
    match k, hk with
    | 0, _ =>
      have c0 := C0.out
      by_cases hx : x = 0
      · have HX := Lib.hid hx
        have q : (x != 0) = false := by simpa using hx
        clear hx
        go_wp2_with fail
        go_round
        case rel => exact ⟨1, by omega, by go_num, Lib.hid ⟨fun _ => HX.out, fun h => by omega⟩⟩
        case measure => simp [intOf]
      · have HX : Hid (orE x y = x) := Lib.hid (by rw [orE, if_neg hx])
        have q : (x != 0) = true := by simpa using hx
        clear hx
        go_wp2_with fail
        go_ret
        exact ⟨by rw [HX.out]; rfl, rfl⟩
    | 1, _ =>
      have c1 := C1.out
      have HX := Lib.hid (hz.out.1 (by omega))
      by_cases hx : y = 0
      · have HY := Lib.hid hx
        have q : (y != 0) = false := by simpa using hx
        clear hx
        go_wp2_with fail
        go_round
        case rel => exact ⟨2, by omega, by go_num, Lib.hid ⟨fun _ => HX.out, fun _ => HY.out⟩⟩
        case measure => simp [intOf]
      · have HY : Hid (orE x y = y) := Lib.hid (by rw [orE, if_pos HX.out])
        have q : (y != 0) = true := by simpa using hx
        clear hx
        go_wp2_with fail
        go_ret
        exact ⟨by rw [HY.out]; rfl, rfl⟩
    | 2, _ =>
      have HE : Hid (orE x y = 0) := Lib.hid (by rw [orE, if_pos (hz.out.1 (by omega)), hz.out.2 (by omega)])
      go_wp2_with fail
      go_ret
      exact ⟨by rw [HE.out]; rfl, rfl⟩

end Go.Proofs.Ytahffjoehjpfkaa
