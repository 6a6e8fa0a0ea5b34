/- limit: Has, Subset, Union, Intersect at valid limits. -/
import Derived.Test.YtahffjoehjpfkaaZk
namespace Go.Proofs.Ytahffjoehjpfkaa
open Go.RowKit
set_option linter.unusedVariables false

set_option maxRecDepth 20000 in
theorem has_any (n : Nat) (v u : Value) (ps : List Row) (xs : List Int) (w : World) (h : RowsP w v ps) (hg : Good v) (hk : LimOk n (ps.map Prod.snd)) (hu : RowOk w (u, xs)) (hl : xs.length = n) (hf : finiteB xs = true) :
    Calls Try.prog 16 #[.int .i64 n, v, u] w fun e w' => e = .returned (.bool (ps.any (fun q => leqI xs q.2))) ∧ w.grownBy w' none := by
  have H := Lib.hid h; have HU := Lib.hid hu; have HF := Lib.hid hf; have HL := Lib.hid hl
  have HC := Lib.hid (check_ok n v ps w h hg hk)
  have HR1 : Hid (∀ p ∈ ps, p.2.length = n) := Lib.hid (fun p hp => (hk.rows _ (List.mem_map_of_mem hp)).1)
  obtain ⟨a, cap, rfl, -, -, -⟩ := h
  obtain ⟨⟨a', cap', hv, -⟩, -, -⟩ := hu
  dsimp only at hv
  subst hv
  have d1 : ((xs.length : Int) == (n : Int)) = true := by simp; omega
  clear hg hk hf hl
  go_enter Try.func16, Try.ntmps16
  go_wp2_with fail
  refine HC.out.mono ?_
  rintro e w0 ⟨rfl, hg0⟩
  have G0 := Lib.hid hg0
  clear hg0
  go_wp2_with fail
  refine (finite_any _ xs _ (HU.out.same G0.out).1).mono ?_
  rintro e w1 ⟨rfl, rfl⟩
  rw [HF.out]
  go_wp2_with fail
  refine (contains_any _ _ ps xs n _ (H.out.same G0.out) HR1.out (HU.out.same G0.out) HL.out).mono ?_
  rintro e w2 ⟨rfl, hg2⟩
  have G2 := Lib.hid (grown_trans G0.out hg2)
  clear hg2
  go_wp2_with fail
  go_ret
  exact ⟨rfl, G2.out⟩
set_option maxRecDepth 20000 in
set_option maxHeartbeats 1000000 in
theorem subset_any (n : Nat) (va vb : Value) (ps rs : List Row) (w : World) (h : RowsP w va ps) (hg : Good va) (hk : LimOk n (ps.map Prod.snd)) (h' : RowsP w vb rs) (hg' : Good vb) (hk' : LimOk n (rs.map Prod.snd)) :
    Calls Try.prog 23 #[.int .i64 n, va, vb] w fun e w' => e = .returned (.bool (ps.all (fun p => rs.any (fun q => leqI p.2 q.2)))) ∧ w.grownBy w' none := by
  have H := Lib.hid h; have H' := Lib.hid h'
  have HB := Lib.hid (both_ok n va vb ps rs w h hg hk h' hg' hk')
  have hpl : ps.length ≤ 256 := by have := hk.few; simpa using this
  have HR1 : Hid (∀ p ∈ ps, p.2.length = n) := Lib.hid (fun p hp => (hk.rows _ (List.mem_map_of_mem hp)).1)
  have HR2 : Hid (∀ p ∈ rs, p.2.length = n) := Lib.hid (fun p hp => (hk'.rows _ (List.mem_map_of_mem hp)).1)
  obtain ⟨a, cap, rfl, -, -, -⟩ := h
  obtain ⟨a', cap', rfl, -, -, -⟩ := h'
  clear hg hk hg' hk'
  go_enter Try.func23, Try.ntmps23
  go_wp2_with fail
  refine HB.out.mono ?_
  rintro e w0 ⟨rfl, hg0⟩
  have G0 := Lib.hid hg0
  clear hg0
  go_wp2_with fail
  go_loopw [16] (fun i wr => ∃ k : Nat, i = .int .i64 k ∧ k ≤ ps.length ∧ Hid ((ps.take k).all (fun p => rs.any (fun q => leqI p.2 q.2)) = true) ∧ Hid (w.grownBy wr none)) (fun i _ => ps.length - (intOf i).toNat)
  case atStart => exact ⟨0, rfl, Nat.zero_le _, Lib.hid (by simp), G0⟩
  case round =>
    clear G0
    obtain ⟨k, rfl, hk, hz, hg⟩ := hrel
    by_cases hlt : k < ps.length
    · have h1 : (k : Int) < (ps.length : Int) := by omega
      have i1 : IntKind.i64.wrap ((k : Int) + 1) = (k : Int) + 1 := IntWalk.i64_in _ (by omega)
      obtain ⟨_, _, hv, _, hc, hrow⟩ := H.out.same hg.out
      simp only [Value.slice.injEq] at hv
      obtain ⟨rfl, -, rfl⟩ := hv
      obtain ⟨b, off, rfl, hx⟩ := RowsP.at hc hlt
      have HR := Lib.hid (hrow _ (List.getElem_mem hlt))
      have HQ := Lib.hid (HR1.out _ (List.getElem_mem hlt))
      have HS : Hid ((ps.take (k + 1)).all (fun p => rs.any (fun q => leqI p.2 q.2)) = rs.any (fun q => leqI (ps[k]).2 q.2)) := Lib.hid (by rw [List.take_succ_eq_append_getElem hlt, List.all_append, hz.out]; simp)
      have HN : Hid (rs.any (fun q => leqI (ps[k]).2 q.2) = false → ps.all (fun p => rs.any (fun q => leqI p.2 q.2)) = false) := Lib.hid (fun h => by
        rw [List.all_eq_false]
        exact ⟨_, List.getElem_mem hlt, by rw [h]; simp⟩)
      clear hc hrow
      generalize (ps[k]) = q at *
      obtain ⟨qv, xs⟩ := q
      obtain ⟨aq, cq, hqv⟩ : ∃ a c, qv = .slice a xs.length c := by obtain ⟨⟨a, c, h, -⟩, -⟩ := HR.out; exact ⟨a, c, h⟩
      subst hqv
      dsimp only at hx HR HQ HS HN
      go_wp2_with fail
      refine (contains_any _ _ rs xs n _ (H'.out.same hg.out) HR2.out HR.out HQ.out).mono ?_
      rintro e w2 ⟨rfl, hg2⟩
      have G2 := Lib.hid (grown_trans hg.out hg2)
      clear hg2
      cases hb : rs.any (fun q => leqI xs q.2)
      · have HN2 := Lib.hid (HN.out hb)
        clear hb
        go_wp2_with fail
        go_ret
        exact ⟨ret_bool HN2.out.symm, G2.out⟩
      · have HS2 := Lib.hid (HS.out.trans hb)
        clear hb
        go_wp2_with fail
        go_roundw
        case rel => exact ⟨k + 1, by go_num, by omega, HS2, G2⟩
        case measure => (simp [intOf]; try omega)
    · have h1 : ¬ (k : Int) < (ps.length : Int) := by omega
      have HZ : Hid (ps.all (fun p => rs.any (fun q => leqI p.2 q.2)) = true) := Lib.hid (by have := hz.out; rwa [List.take_of_length_le (by omega)] at this)
      go_wp2_with fail
      go_ret
      exact ⟨ret_bool HZ.out.symm, hg.out⟩
set_option maxRecDepth 20000 in
set_option maxHeartbeats 1000000 in
theorem union_any (n : Nat) (va vb : Value) (ps rs : List Row) (w : World) (h : RowsP w va ps) (hg : Good va) (hk : LimOk n (ps.map Prod.snd)) (h' : RowsP w vb rs) (hg' : Good vb) (hk' : LimOk n (rs.map Prod.snd)) (hm : ps.length + rs.length ≤ 256) :
    Calls Try.prog 21 #[.int .i64 n, va, vb] w (MaxTo n (ps.map Prod.snd ++ rs.map Prod.snd) w) := by
  have H := Lib.hid h; have HG := Lib.hid hg; have HK := Lib.hid hk; have H' := Lib.hid h'; have HG' := Lib.hid hg'; have HK' := Lib.hid hk'; have HM := Lib.hid hm
  have HB := Lib.hid (both_ok n va vb ps rs w h hg hk h' hg' hk')
  have HL1 : Hid (ps.length ≤ 256) := Lib.hid (by have := hk.few; simpa using this)
  have HL2 : Hid (rs.length ≤ 256) := Lib.hid (by have := hk'.few; simpa using this)
  have HR1 : Hid (∀ p ∈ ps, p.2.length = n ∧ validB p.2 = true) := Lib.hid (fun p hp => hk.rows _ (List.mem_map_of_mem hp))
  have HR2 : Hid (∀ p ∈ rs, p.2.length = n ∧ validB p.2 = true) := Lib.hid (fun p hp => hk'.rows _ (List.mem_map_of_mem hp))
  obtain ⟨a, cap, rfl, -, -, -⟩ := h
  obtain ⟨a', cap', rfl, -, -, -⟩ := h'
  clear hg hk hg' hk' hm
  go_enter Try.func21, Try.ntmps21
  go_wp2_with fail
  refine HB.out.mono ?_
  rintro e w0 ⟨rfl, hg0⟩
  have G0 := Lib.hid hg0
  clear hg0
  go_wp2_with fail
  refine (down_any _).mono ?_
  rintro e w1 ⟨rfl, hg1⟩
  have G1 := Lib.hid (grown_trans G0.out hg1)
  clear hg1
  go_wp2_with fail
  have hgb := World.grownBy_alloc w1 (.cells #[.slice a ps.length cap, .slice a' rs.length cap'] 28) none
  have hc0 : (w1.alloc (.cells #[.slice a ps.length cap, .slice a' rs.length cap'] 28)).cell? ⟨w1.heap.size, 0, none⟩ = some (.slice a ps.length cap) := by rw [World.cell?, heap_new _ rfl]; rfl
  have hc1 : (w1.alloc (.cells #[.slice a ps.length cap, .slice a' rs.length cap'] 28)).cell? ⟨w1.heap.size, 1, none⟩ = some (.slice a' rs.length cap') := by rw [World.cell?, heap_new _ rfl]; rfl
  refine (concatR_any w1.heap.size 2 (.slice a ps.length cap) (.slice a' rs.length cap') ps rs (w1.alloc (.cells #[.slice a ps.length cap, .slice a' rs.length cap'] 28)) hc0 hc1 (H.out.same (grown_trans G1.out hgb)) (H'.out.same (grown_trans G1.out hgb)) (by have := HL1.out; omega) (by have := HL2.out; omega)).mono ?_
  rintro e w2 ⟨v2, rfl, ho2, hg2⟩
  obtain ⟨L, hL⟩ : ∃ L, ps ++ rs = L := ⟨_, rfl⟩
  rw [hL] at ho2
  have HLL := Lib.hid hL
  clear hL
  have OC := Lib.hid ho2; have GC := Lib.hid (grown_trans G1.out (grown_trans hgb hg2))
  obtain ⟨a3, c3, rfl⟩ := ownP_sl ho2
  clear ho2 hg2 hgb hc0 hc1
  go_wp2_with fail
  refine (reduce_any (n := n) (f := leqI) (cmp := fun a b => compareI b a) (within_down_ok n) order_down (ord_leq n) (cf_down n) _ L 256 _ OC.out.rows OC.out.good1 (fun p hp => by
    rw [← HLL.out] at hp
    rcases List.mem_append.1 hp with h5 | h5
    · exact (HR1.out p h5).1
    · exact (HR2.out p h5).1) (by have := HM.out; rw [← HLL.out, List.length_append]; omega) (by have := HM.out; rw [← HLL.out, List.length_append]; omega)).mono ?_
  rintro e w3 ⟨v3, qs, rfl, ho, ht, he, hg3, hl3⟩
  rw [← HLL.out, List.map_append] at ht he hl3
  have O2 := Lib.hid ho; have T2 := Lib.hid ht; have E2 := Lib.hid he; have G2 := Lib.hid (grown_trans GC.out hg3)
  have L2 : Hid (qs.length ≤ 256) := Lib.hid (by have := HM.out; simp only [List.length_append, List.length_map] at hl3; omega)
  clear ho ht he hg3 hl3
  have HLR : Hid (∀ x ∈ ps.map Prod.snd ++ rs.map Prod.snd, x.length = n ∧ validB x = true) := Lib.hid (by
    intro x hx
    rcases List.mem_append.1 hx with h5 | h5
    · obtain ⟨r, hr, rfl⟩ := List.mem_map.1 h5; exact HR1.out r hr
    · obtain ⟨r, hr, rfl⟩ := List.mem_map.1 h5; exact HR2.out r hr)
  obtain ⟨a2, c2, rfl⟩ := ownP_sl O2.out
  go_wp2_with fail
  refine (limited_any _ qs _ O2.out.rows L2.out (fun q hq => by
    have h5 := (HLR.out _ ((T2.out.2 _).1 (List.mem_map_of_mem hq)).1).1
    have := HK.out.n1
    have := HK.out.n6
    omega)).mono ?_
  rintro e w9 ⟨v9, q9, rfl, hr9, hg9, hm9, hw9, hnew⟩
  have X1 := Lib.hid hr9; have X2 := Lib.hid hg9; have X3 := Lib.hid hm9; have X4 := Lib.hid hw9; have X5 := Lib.hid hnew
  clear hr9 hg9 hm9 hw9 hnew
  go_wp2_with fail
  go_ret2
  exact maxTo HK.out.n1 HK.out.n6 HLR.out T2.out E2.out L2.out X3.out X1.out X2.out G2.out X4.out X5.out
set_option maxRecDepth 20000 in
set_option maxHeartbeats 1000000 in
theorem intersect_any (n : Nat) (va vb : Value) (ps rs : List Row) (w : World) (h : RowsP w va ps) (hg : Good va) (hk : LimOk n (ps.map Prod.snd)) (h' : RowsP w vb rs) (hg' : Good vb) (hk' : LimOk n (rs.map Prod.snd)) (hm : ps.length * rs.length ≤ 256) :
    Calls Try.prog 22 #[.int .i64 n, va, vb] w (MaxTo n (meetsL minV (ps.map Prod.snd) (rs.map Prod.snd)) w) := by
  have H := Lib.hid h; have HG := Lib.hid hg; have HK := Lib.hid hk; have H' := Lib.hid h'; have HG' := Lib.hid hg'; have HK' := Lib.hid hk'; have HM := Lib.hid hm
  have HB := Lib.hid (both_ok n va vb ps rs w h hg hk h' hg' hk')
  have HL1 : Hid (ps.length ≤ 256) := Lib.hid (by have := hk.few; simpa using this)
  have HL2 : Hid (rs.length ≤ 256) := Lib.hid (by have := hk'.few; simpa using this)
  have HR1 : Hid (∀ p ∈ ps, p.2.length = n ∧ validB p.2 = true) := Lib.hid (fun p hp => hk.rows _ (List.mem_map_of_mem hp))
  have HR2 : Hid (∀ p ∈ rs, p.2.length = n ∧ validB p.2 = true) := Lib.hid (fun p hp => hk'.rows _ (List.mem_map_of_mem hp))
  obtain ⟨a, cap, rfl, -, -, -⟩ := h
  obtain ⟨a', cap', rfl, -, -, -⟩ := h'
  clear hg hk hg' hk' hm
  go_enter Try.func22, Try.ntmps22
  go_wp2_with fail
  refine HB.out.mono ?_
  rintro e w0 ⟨rfl, hg0⟩
  have G0 := Lib.hid hg0
  clear hg0
  go_wp2_with fail
  refine (down_any _).mono ?_
  rintro e w1 ⟨rfl, hg1⟩
  have G1 := Lib.hid (grown_trans G0.out hg1)
  clear hg1
  go_wp2_with fail
  refine (meet_any (n := n) (f := leqI) (cmp := fun a b => compareI b a) (g := minV) (within_down_ok n) order_down (overlap_down n (by have := HK.out.n6; omega)) (ord_leq n) (cf_down n) _ _ ps rs 256 _ (H.out.same G1.out) (H'.out.same G1.out) (fun p hp => (HR1.out p hp).1) (fun p hp => (HR2.out p hp).1) (by have := HM.out; omega) (by have := HL1.out; omega) (by have := HL2.out; omega)).mono ?_
  rintro e w3 ⟨v3, qs, rfl, ho, ht, he, hg3, hl3⟩
  have O2 := Lib.hid ho; have T2 := Lib.hid ht; have E2 := Lib.hid he; have G2 := Lib.hid (grown_trans G1.out hg3)
  have L2 : Hid (qs.length ≤ 256) := Lib.hid (by have := HM.out; simp only [meets_len, List.length_map] at hl3; omega)
  clear ho ht he hg3 hl3
  have HLR : Hid (∀ x ∈ meetsL minV (ps.map Prod.snd) (rs.map Prod.snd), x.length = n ∧ validB x = true) := Lib.hid (by
    intro x hx
    obtain ⟨y, hy, h5⟩ := List.mem_flatMap.1 hx
    obtain ⟨z, hz, rfl⟩ := List.mem_map.1 h5
    obtain ⟨r, hr, rfl⟩ := List.mem_map.1 hy
    obtain ⟨r', hr', rfl⟩ := List.mem_map.1 hz
    have h6 := HR1.out r hr
    have h7 := HR2.out r' hr'
    exact ⟨minV_len h6.1 h7.1, valid_minV h6.2 h7.2 (h6.1.trans h7.1.symm)⟩)
  obtain ⟨a2, c2, rfl⟩ := ownP_sl O2.out
  go_wp2_with fail
  refine (limited_any _ qs _ O2.out.rows L2.out (fun q hq => by
    have h5 := (HLR.out _ ((T2.out.2 _).1 (List.mem_map_of_mem hq)).1).1
    have := HK.out.n1
    have := HK.out.n6
    omega)).mono ?_
  rintro e w9 ⟨v9, q9, rfl, hr9, hg9, hm9, hw9, hnew⟩
  have X1 := Lib.hid hr9; have X2 := Lib.hid hg9; have X3 := Lib.hid hm9; have X4 := Lib.hid hw9; have X5 := Lib.hid hnew
  clear hr9 hg9 hm9 hw9 hnew
  go_wp2_with fail
  go_ret2
  exact maxTo HK.out.n1 HK.out.n6 HLR.out T2.out E2.out L2.out X3.out X1.out X2.out G2.out X4.out X5.out
end Go.Proofs.Ytahffjoehjpfkaa
