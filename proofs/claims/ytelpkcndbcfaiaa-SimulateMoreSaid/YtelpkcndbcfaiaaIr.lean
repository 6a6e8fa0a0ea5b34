/- states.labels. -/
import Derived.Test.YtelpkcndbcfaiaaIq
import Derived.Test.YtelpkcndbcfaiaaSh
namespace Go.Proofs.Ytelpkcndbcfaiaa
open Go.RowKit
set_option linter.unusedVariables false
def colF (s : Nat) : Nat → Sys → List Int
  | _, [] => []
  | k, r :: rs => (if s.testBit k then r.map Prod.fst else []) ++ colF s (k + 1) rs
theorem colF_snoc (s : Nat) (r : List Ar) : ∀ (a : Sys) (k : Nat), colF s k (a ++ [r]) = colF s k a ++ (if s.testBit (k + a.length) then r.map Prod.fst else [])
  | [], k => by simp [colF]
  | q :: a, k => by rw [List.cons_append, colF, colF_snoc s r a, colF, List.append_assoc, List.length_cons, show k + (a.length + 1) = k + 1 + a.length by omega]
theorem colF_mem (s : Nat) (x : Int) : ∀ (a : Sys) (k : Nat), x ∈ colF s k a ↔ ∃ j, j < a.length ∧ s.testBit (k + j) = true ∧ ∃ p ∈ arcsOf a j, p.1 = x
  | [], k => by simp [colF]
  | r :: rs, k => by
    rw [colF, List.mem_append, colF_mem s x rs]
    constructor
    · rintro (h | ⟨j, hj, h1, h2⟩)
      · by_cases ht : s.testBit k = true
        · rw [if_pos ht] at h
          obtain ⟨p, hp, e⟩ := List.mem_map.1 h
          exact ⟨0, by simp, ht, p, by simpa [arcsOf] using hp, e⟩
        · rw [if_neg ht] at h
          simp at h
      · exact ⟨j + 1, by simp; omega, by rw [← h1]; congr 1; omega, by simpa [arcsOf] using h2⟩
    · rintro ⟨j, hj, h1, h2⟩
      cases j with
      | zero =>
        obtain ⟨p, hp, e⟩ := h2
        refine .inl ?_
        rw [if_pos (show s.testBit k = true from h1)]
        exact List.mem_map.2 ⟨p, by simpa [arcsOf] using hp, e⟩
      | succ j => exact .inr ⟨j, by simp at hj; omega, by rw [← h1]; congr 1; omega, by simpa [arcsOf] using h2⟩
theorem colF_take (s : Nat) {sa : List ArcP} {k : Nat} (hk : k < sa.length) : colF s 0 ((sa.map Prod.snd).take (k + 1)) = colF s 0 ((sa.map Prod.snd).take k) ++ (if s.testBit k then sa[k].2.map Prod.fst else []) := by
  rw [List.take_succ_eq_append_getElem (by rw [List.length_map]; exact hk), colF_snoc]
  have e : ((sa.map Prod.snd).take k).length = k := by rw [List.length_take, List.length_map]; omega
  rw [e, Nat.zero_add, List.getElem_map]
theorem compact_get {zs : List Int} {x : Int} : x ∈ Lib.compact zs ↔ ∃ j, j < zs.length ∧ Lib.keeps zs.toArray j = true ∧ zs.toArray[j]! = x := by
  unfold Lib.compact Lib.compactUpTo
  simp only [List.mem_map, List.mem_filter, List.mem_range]
  constructor
  · rintro ⟨j, ⟨h1, h2⟩, h3⟩; exact ⟨j, h1, h2, h3⟩
  · rintro ⟨j, h1, h2, h3⟩; exact ⟨j, ⟨h1, h2⟩, h3⟩
theorem arr_get {zs : List Int} {j : Nat} (h : j < zs.length) : zs.toArray[j]! = zs[j] := by simp [h]
theorem compact_mem {zs : List Int} {x : Int} : x ∈ Lib.compact zs ↔ x ∈ zs := by
  rw [compact_get]
  constructor
  · rintro ⟨j, hj, -, rfl⟩
    rw [arr_get hj]
    exact List.getElem_mem hj
  · intro hx
    obtain ⟨j0, hj0, e0⟩ := List.mem_iff_getElem.1 hx
    have key : ∀ j, ∀ (hj : j < zs.length), zs[j] = x → ∃ i, i < zs.length ∧ Lib.keeps zs.toArray i = true ∧ zs.toArray[i]! = x := by
      intro j
      induction j with
      | zero => exact fun hj e => ⟨0, hj, by simp [Lib.keeps], by rw [arr_get hj]; exact e⟩
      | succ j ih =>
        intro hj e
        by_cases h : zs[j]'(by omega) = x
        · exact ih (by omega) h
        · refine ⟨j + 1, hj, ?_, by rw [arr_get hj]; exact e⟩
          unfold Lib.keeps
          rw [decide_eq_true_eq]
          refine .inr ?_
          rw [arr_get hj, show j + 1 - 1 = j by omega, arr_get (by omega), e]
          exact fun e2 => h e2.symm
    exact key j0 hj0 e0
theorem compact_asc {zs : List Int} (h : zs.Pairwise (· ≤ ·)) : (Lib.compact zs).Pairwise (· < ·) := by
  unfold Lib.compact Lib.compactUpTo
  rw [List.pairwise_map]
  have h1 : ((List.range zs.length).filter (Lib.keeps zs.toArray)).Pairwise (· < ·) := List.Pairwise.filter _ List.pairwise_lt_range
  refine List.Pairwise.imp_of_mem ?_ h1
  intro i j hi hj hij
  simp only [List.mem_filter, List.mem_range] at hi hj
  have hk := hj.2
  unfold Lib.keeps at hk
  rw [decide_eq_true_eq] at hk
  rcases hk with hk | hk
  · omega
  · rw [arr_get hj.1, arr_get (by omega)] at hk
    rw [arr_get hi.1, arr_get hj.1]
    rw [List.pairwise_iff_getElem] at h
    have a1 : zs[j - 1]'(by omega) ≤ zs[j] := h (j - 1) j (by omega) hj.1 (by omega)
    have a2 : zs[i] ≤ zs[j - 1]'(by omega) := by
      by_cases e : i = j - 1
      · subst e; exact Int.le_refl _
      · exact h i (j - 1) hi.1 (by omega) (by omega)
    omega
/-- v reads as a list of numbers. -/
def IntsR (w : World) (v : Value) (xs : List Int) : Prop := ∃ a cap, v = .slice a xs.length cap ∧ xs.length ≤ maxLen ∧ (xs = [] ∨ ∃ b off, a = some ⟨b, off, none⟩ ∧ ∀ i, i < xs.length → w.cell? ⟨b, off + i, none⟩ = (xs[i]?.map (Value.int .i64)))
theorem IntsR.same {w w' : World} {v : Value} {xs : List Int} (h : IntsR w v xs) (g : w.grownBy w' none) : IntsR w' v xs := by
  obtain ⟨a, cap, rfl, hl, hc⟩ := h
  refine ⟨a, cap, rfl, hl, ?_⟩
  rcases hc with hc | ⟨b, off, rfl, hc⟩
  · exact .inl hc
  · refine .inr ⟨b, off, rfl, fun i hi => ?_⟩
    have h1 := hc i hi
    rw [List.getElem?_eq_getElem hi] at h1 ⊢
    exact g.cell h1 (by simp)
/-- The labels of the arcs that begin in a set of states. -/
def IsLab (a : Sys) (s : Nat) (L : List Int) : Prop := L.Pairwise (· < ·) ∧ ∀ x, x ∈ L ↔ ∃ j, j < a.length ∧ s.testBit j = true ∧ ∃ p ∈ arcsOf a j, p.1 = x
def LabR (a : Sys) (s : Nat) (w : World) (e : Ending) (w' : World) : Prop := ∃ v L, e = .returned v ∧ IntsR w' v L ∧ IsLab a s L ∧ w.grownBy w' none ∧ L.length ≤ 1000000 ∧ ∀ g, v.ownBlock = some g → w.heap.size ≤ g
theorem grown_put {enc : Int → Value} {w : World} {blk off q : Nat} {d : Array Int} : w.grownBy (Sort.putRow enc (Sort.ahead w q) blk off d) (some blk) :=
  ⟨rfl, rfl, rfl, by simp, fun k hk hne => by
    show (w.heap.modify blk _)[k]? = _
    rw [Array.getElem?_modify, if_neg (fun e => hne (by rw [e]))]⟩
theorem grown_growS {w : World} {os : Array Obj} : w.grownBy (Sort.grow w os) none :=
  ⟨rfl, rfl, rfl, by simp, fun k hk _ => Sort.heap_grow_old w os hk⟩
theorem ints_holds {w : World} {b : Nat} {xs : List Int} (h : Sort.Holds (Value.int .i64) w b 0 xs.toArray) (hb : xs.length ≤ maxLen) (cap : Nat) : IntsR w (.slice (some ⟨b, 0, none⟩) xs.length cap) xs :=
  ⟨_, cap, rfl, hb, .inr ⟨b, 0, rfl, fun i hi => by
    have := (h i (by simpa using hi)).1
    rw [this]
    simp [hi]⟩⟩
theorem own_holds {w : World} {base g cap : Nat} {xs : List Int} (h : OwnI w base (.slice (some ⟨g, 0, none⟩) xs.length cap) xs) : Sort.Holds (Value.int .i64) w g 0 xs.toArray := by
  intro j hj
  have hj2 : j < xs.length := by simpa using hj
  have h1 := World.ownsRow.cellAt h j (by simpa using hj2)
  have h2 := World.ownsRow.frozenAt h j
  rw [Nat.zero_add]
  refine ⟨?_, h2⟩
  rw [h1]
  simp [hj2]
set_option maxRecDepth 100000 in
set_option maxHeartbeats 4000000 in
theorem labels_st (s : Nat) (hs : s < 256) (va : Value) (sa : List ArcP) (w : World) (ha : SysG w va sa) (h8 : sa.length ≤ 8) :
    Calls Try.prog 50 #[StV s, va] w (LabR (sa.map Prod.snd) s w) := by
  obtain ⟨⟨xa, rfl, hA⟩, hga⟩ := ha
  have HA := Lib.hid hA
  obtain ⟨hn1, -, hva, hla⟩ := good_parts hga
  have HLA := Lib.hid hla
  have HS := Lib.hid hs
  obtain ⟨a, c, rfl, -⟩ := hA
  obtain ⟨n, hn⟩ : ∃ n, sa.length = n := ⟨_, rfl⟩
  rw [hn] at hn1 HA h8 ⊢
  have HN := Lib.hid hn
  clear hn hga hva hla hs
  unfold StV
  obtain ⟨H, hH⟩ : ∃ H, w.heap.size = H := ⟨_, rfl⟩
  go_enter Try.func50, Try.ntmps50
  go_wp2_with fail
  obtain ⟨w3, hw3⟩ : ∃ w3, w3 = ((w.alloc (.cells #[.int .u64 (s : Int), .int .u64 0] 76)).alloc (.cells #[.slice a n c] 25)) := ⟨_, rfl⟩
  have hg3 : w.grownBy w3 none := by rw [hw3]; exact grown_aft2 (World.grownBy_alloc _ _ _)
  have b0 : w3.heap[H]? = some (.cells #[.int .u64 (s : Int), .int .u64 0] 76 (0, 0)) := by rw [hw3]; exact heap_old _ (heap_new _ hH.symm)
  have hsz : w3.heap.size = H + 2 := by rw [hw3]; show ((w.heap.push _).push _).size = _; simp [hH]
  have B0 := Lib.hid b0; have HG3 := Lib.hid hg3; have HSZ := Lib.hid hsz
  have HH := Lib.hid hH
  rw [← hw3]
  clear b0 hg3 hw3 hH hsz
  go_loopw [13, 5] (fun i v wr => ∃ (k : Nat) (xs : List Int), i = .int .i64 k ∧ k ≤ n ∧ Hid (xs.length ≤ k * 256) ∧ Hid (colF s 0 ((sa.map Prod.snd).take k) = xs) ∧ Hid (w3.grownBy wr none) ∧ Hid (OwnI wr (H + 2) v xs)) (fun i _ _ => n - (intOf i).toNat)
  case atStart => exact ⟨0, [], rfl, Nat.zero_le _, Lib.hid (by simp), Lib.hid rfl, Lib.hid (grown_refl _ _), Lib.hid (World.ownsRow_nil _ _ _ _)⟩
  case round =>
    obtain ⟨k, xs, rfl, hk, hxl, hf, hg, ho⟩ := hrel
    by_cases hlt : k < n
    · have h1 : (k : Int) < (n : Int) := by omega
      have HKL : Hid (k < sa.length) := Lib.hid (by rw [HN.out]; exact hlt)
      have hgw : w.grownBy wr none := grown_trans HG3.out hg.out
      obtain ⟨bb, off, cap, hv, c1w, har⟩ := HA.out.at HKL.out
      have c1 := hgw.cell c1w (by simp)
      clear c1w
      simp only [Value.slice.injEq] at hv
      obtain ⟨rfl, -, rfl⟩ := hv
      have hl256 := HLA.out _ (List.getElem_mem HKL.out)
      have HNX : Hid (∀ ys, xs ++ (if s.testBit k then sa[k].2.map Prod.fst else []) = ys → colF s 0 ((sa.map Prod.snd).take (k + 1)) = ys) := Lib.hid (by
        rintro ys rfl
        exact (colF_take s HKL.out).trans (congrArg (fun z => z ++ (if s.testBit k then sa[k].2.map Prod.fst else [])) hf.out))
      generalize sa[k] = q at *
      obtain ⟨qv, la⟩ := q
      dsimp only at c1 har hl256 HNX
      have HAR := Lib.hid har
      obtain ⟨qa, qc, rfl, -, -⟩ := har
      have HL256 := Lib.hid hl256
      clear hgw
      go_wp2_with fail
      clear c1
      go_loopw [20, 5] (fun i v wr => ∃ (j : Nat) (ys : List Int), i = .int .i64 j ∧ j ≤ la.length ∧ Hid (ys.length ≤ k * 256 + j) ∧ Hid (xs ++ (if s.testBit k then (la.take j).map Prod.fst else []) = ys) ∧ Hid (w3.grownBy wr none) ∧ Hid (OwnI wr (H + 2) v ys)) (fun i _ _ => la.length - (intOf i).toNat)
      case atStart => exact ⟨0, xs, rfl, Nat.zero_le _, hxl, Lib.hid (by simp), hg, ho⟩
      case round =>
        rename World => wk
        clear hg ho hxl
        obtain ⟨j, ys, rfl, hj, hyl, hf1, hg, ho⟩ := hrel
        by_cases hlj : j < la.length
        · have hj1 : (j : Int) < (la.length : Int) := by omega
          have hgw : w.grownBy wk none := grown_trans HG3.out hg.out
          obtain ⟨b4, o4, cp4, hv4, x1, x2⟩ := (HAR.out.same hgw).at hlj
          simp only [Value.slice.injEq] at hv4
          obtain ⟨rfl, -, rfl⟩ := hv4
          have HSN : Hid (xs ++ (if s.testBit k then (la.take (j + 1)).map Prod.fst else []) = if s.testBit k then ys ++ [la[j].1] else ys) := Lib.hid (by
            rw [← hf1.out]
            cases s.testBit k with
            | false => rfl
            | true =>
              show xs ++ (la.take (j + 1)).map Prod.fst = (xs ++ (la.take j).map Prod.fst) ++ [la[j].1]
              rw [List.take_succ_eq_append_getElem hlj, List.map_append, List.append_assoc]
              rfl)
          generalize la[j] = p at *
          obtain ⟨pl, pt⟩ := p
          dsimp only at x1 x2 HSN
          clear hf1
          obtain ⟨wc, hwc⟩ : ∃ wc, wc = wk.alloc (.cells #[.int .i64 pl, .int .i64 pt] 61) := ⟨_, rfl⟩
          have hgc : wk.grownBy wc none := by rw [hwc]; exact World.grownBy_alloc _ _ _
          have hb0 : wc.heap[H]? = some (.cells #[.int .u64 (s : Int), .int .u64 0] 76 (0, 0)) := by
            rw [(grown_trans hg.out hgc).block H (by have := HSZ.out; omega) (by simp)]
            exact B0.out
          obtain ⟨y0, y1, -, -⟩ := box_cells hb0
          have HBX : Hid (wc.heap[wk.heap.size]? = some (.cells #[.int .i64 pl, .int .i64 pt] 61 (0, 0))) := Lib.hid (by rw [hwc]; exact heap_new _ rfl)
          have HWC := Lib.hid hwc; have HGC := Lib.hid hgc
          rw [hwc] at y0 y1
          clear hwc hgc hb0 hgw
          go_wp2_with fail
          rw [← HWC.out]
          clear y0 y1 x1 x2
          refine (has_st s k HS.out (by omega) wc).mono ?_
          rintro e w5 ⟨rfl, hg5⟩
          have HG5 := Lib.hid (grown_trans HGC.out hg5)
          have HG6 := Lib.hid (grown_trans hg.out HG5.out)
          have hbx : w5.heap[wk.heap.size]? = some (.cells #[.int .i64 pl, .int .i64 pt] 61 (0, 0)) := by
            rw [hg5.block _ (Array.getElem?_eq_some_iff.1 HBX.out).1 (by simp)]; exact HBX.out
          obtain ⟨z0, z1, -, -⟩ := box_cells hbx
          have HO5 := Lib.hid (ho.out.kept HG5.out (by simp))
          clear hg5 hbx
          cases ht : s.testBit k with
          | false =>
            have HO : Hid (xs ++ (if s.testBit k then (la.take (j + 1)).map Prod.fst else []) = ys) := Lib.hid (by rw [HSN.out, ht]; rfl)
            clear ht
            go_wp2_with fail
            go_roundw
            case rel => exact ⟨j + 1, ys, by go_num, by omega, Lib.hid (Nat.le_succ_of_le hyl.out), HO, HG6, HO5⟩
            case measure => simp [intOf]; omega
          | true =>
            have HO : Hid (xs ++ (if s.testBit k then (la.take (j + 1)).map Prod.fst else []) = ys ++ [pl]) := Lib.hid (by rw [HSN.out, ht]; rfl)
            clear ht
            have HBS : Hid (H + 2 ≤ w5.heap.size) := Lib.hid (by have h1 := HG6.out.size; have h2 := HSZ.out; omega)
            have HYL : Hid (ys.length ≤ 1000000) := Lib.hid (by have := hyl.out; have := HL256.out; omega)
            go_wp2_with (at_builtin; refine app_int rfl _ _ rfl (H + 2) _ ys rfl (HO5.out.kept (World.grownBy_alloc _ _ none) (by simp)) w5.heap.size pl rfl (by rw [World.cell?, heap_new _ rfl]; rfl) (by have := HYL.out; omega) (by show _ ≤ (w5.heap.push _).size; have := HBS.out; simp; omega) ?_; intro v6 w6 hown6 hg6; have HO6 := Lib.hid hown6; have HG7 := Lib.hid hg6; clear hown6 hg6)
            have HG8 : Hid (w3.grownBy w6 none) := Lib.hid (grown_then (grown_trans HG6.out (World.grownBy_alloc _ _ none)) HG7.out (fun q hq => .inl (by have h1 := World.ownsRow.lt HO5.out q hq; have := HSZ.out; omega)))
            have HYL2 : Hid ((ys ++ [pl]).length ≤ k * 256 + (j + 1)) := Lib.hid (by rw [List.length_append]; have := hyl.out; simp; omega)
            go_wp2_with fail
            go_roundw
            case rel => exact ⟨j + 1, _, by go_num, by omega, HYL2, HO, HG8, HO6⟩
            case measure => simp [intOf]; omega
        · have hj1 : ¬ (j : Int) < (la.length : Int) := by omega
          have HO : Hid (colF s 0 ((sa.map Prod.snd).take (k + 1)) = ys) := Lib.hid (HNX.out _ (by have := hf1.out; rwa [List.take_of_length_le (by omega)] at this))
          have HYL2 : Hid (ys.length ≤ (k + 1) * 256) := Lib.hid (by have := hyl.out; have := HL256.out; omega)
          go_wp2_with fail
          go_roundw
          case rel => exact ⟨k + 1, ys, by go_num, by omega, HYL2, HO, hg, ho⟩
          case measure => simp [intOf]; omega
    · have h1 : ¬ (k : Int) < (n : Int) := by omega
      have HC : Hid (∀ x, x ∈ xs ↔ ∃ j, j < (sa.map Prod.snd).length ∧ s.testBit j = true ∧ ∃ p ∈ arcsOf (sa.map Prod.snd) j, p.1 = x) := Lib.hid (fun x => by
        have h2 := hf.out
        rw [List.take_of_length_le (by rw [List.length_map, HN.out]; omega)] at h2
        rw [← h2, colF_mem]
        simp)
      have HXL : Hid (xs.length ≤ 1000000) := Lib.hid (by have := hxl.out; omega)
      obtain ⟨oa, ocap, ov⟩ := own_slice ho.out
      subst ov
      have HFR : Hid (∀ g, (Value.slice oa xs.length ocap).ownBlock = some g → w.heap.size ≤ g ∧ H + 2 ≤ g) := Lib.hid (fun g hg => by have h1 := World.ownsRow.lt ho.out g hg; have h2 := HH.out; omega)
      by_cases hx0 : xs.length = 0
      · obtain rfl := List.eq_nil_of_length_eq_zero hx0
        clear hx0
        simp only [List.length_nil]
        go_wp2_with fail
        refine (Try.slices_Sort_int_none oa ocap _).mono ?_
        rintro e w6 ⟨rfl, rfl⟩
        go_wp2_with fail
        refine (Try.slices_Compact_int_empty oa ocap _).mono ?_
        rintro e w6 ⟨rfl, rfl⟩
        go_wp2_with fail
        go_ret
        exact ⟨_, [], rfl, ⟨oa, ocap, rfl, Nat.zero_le _, .inl rfl⟩, ⟨List.Pairwise.nil, HC.out⟩, grown_trans HG3.out hg.out, Nat.zero_le _, fun g hg => (HFR.out g (by cases oa with | none => cases hg | some a => exact hg)).1⟩
      · obtain ⟨g, cap, cur, hv, hbase, hheap, hcap, hmax, hcs, htk⟩ : ∃ g cap cur, (Value.slice oa xs.length ocap) = .slice (some ⟨g, 0, none⟩) xs.length cap ∧ H + 2 ≤ g ∧ _ := by
          rcases ho.out.2 with ⟨-, h0⟩ | h
          · exact absurd h0 hx0
          · exact h
        simp only [Value.slice.injEq] at hv
        obtain ⟨rfl, -, rfl⟩ := hv
        have HHO := Lib.hid (own_holds ho.out)
        have HGB : Hid (g < wr.heap.size) := Lib.hid (Array.getElem?_eq_some_iff.1 hheap).1
        have HGH : Hid (H + 2 ≤ g) := Lib.hid hbase
        have HCAP : Hid (xs.length ≤ ocap) := Lib.hid hcap
        clear hheap hcs htk hmax hcap hbase hx0
        obtain ⟨m, hm⟩ : ∃ m, xs.length = m := ⟨_, rfl⟩
        have HM := Lib.hid hm
        rw [hm]
        clear hm
        go_wp2_with fail
        rw [← HM.out]
        refine (Try.slices_Sort_int g 0 ocap xs wr HHO.out HGB.out (by have := HXL.out; omega)).mono ?_
        rintro e w6 ⟨rfl, q1, os1, rfl⟩
        rw [HM.out]
        have HS2 : Hid ((xs.mergeSort fun x y => decide (x ≤ y)).length = m) := Lib.hid (by rw [List.length_mergeSort, HM.out])
        have HH6 : Hid (Sort.Holds (Value.int .i64) (Sort.grow (Sort.putRow (Value.int .i64) (Sort.ahead wr q1) g 0 (xs.mergeSort fun x y => decide (x ≤ y)).toArray) os1) g 0 (xs.mergeSort fun x y => decide (x ≤ y)).toArray) := Lib.hid (by
          refine Sort.holds_grow _ _ _ _ _ _ (by simpa using HGB.out) ?_
          exact Sort.holds_putRow _ _ _ _ xs.toArray _ (Sort.holds_ahead _ _ _ _ _ _ HHO.out) (by simp))
        have HG6 : Hid (w3.grownBy (Sort.grow (Sort.putRow (Value.int .i64) (Sort.ahead wr q1) g 0 (xs.mergeSort fun x y => decide (x ≤ y)).toArray) os1) none) := Lib.hid (grown_trans (grown_then hg.out grown_put (by rintro j ⟨⟩; exact .inl (by have := HGH.out; have := HSZ.out; omega))) grown_growS)
        obtain ⟨w6, hw6⟩ : ∃ w6, w6 = Sort.grow (Sort.putRow (Value.int .i64) (Sort.ahead wr q1) g 0 (xs.mergeSort fun x y => decide (x ≤ y)).toArray) os1 := ⟨_, rfl⟩
        rw [← hw6] at HH6 HG6 ⊢
        clear hw6
        have HSR : Hid ((xs.mergeSort fun x y => decide (x ≤ y)).Pairwise (· ≤ ·)) := Lib.hid (by
          have := List.pairwise_mergeSort (le := fun x y : Int => decide (x ≤ y)) (fun a b c h1 h2 => by simp at *; omega) (fun a b => by simp; omega) xs
          exact this.imp (fun h => by simpa using h))
        have HMM : Hid (∀ x, x ∈ (xs.mergeSort fun x y => decide (x ≤ y)) ↔ x ∈ xs) := Lib.hid (fun x => List.mem_mergeSort)
        generalize (xs.mergeSort fun x y => decide (x ≤ y)) = ss at *
        go_wp2_with fail
        rw [← HS2.out]
        refine (Try.slices_Compact_int g 0 ocap ss w6 HH6.out (by have h1 := HS2.out; have h2 := HM.out; have h3 := HXL.out; omega) (by have h1 := HS2.out; have h2 := HM.out; have h3 := HCAP.out; omega)).mono ?_
        rintro e w7 ⟨rfl, q2, rfl⟩
        have HCL : Hid ((Lib.compact ss).length ≤ ss.length) := Lib.hid (Lib.compact_length_le ss)
        have HH7 : Hid (IntsR (Sort.putRow (Value.int .i64) (Sort.ahead w6 q2) g 0 (Lib.compact ss ++ List.replicate (ss.length - (Lib.compact ss).length) 0).toArray) (.slice (some ⟨g, 0, none⟩) (Lib.compact ss).length ocap) (Lib.compact ss)) := Lib.hid (by
          have h1 := Sort.holds_putRow (Value.int .i64) (Sort.ahead w6 q2) g 0 ss.toArray (Lib.compact ss ++ List.replicate (ss.length - (Lib.compact ss).length) 0).toArray (Sort.holds_ahead _ _ _ _ _ _ HH6.out) (by have := HCL.out; simp; omega)
          refine ⟨_, ocap, rfl, by unfold maxLen; have h1 := HS2.out; have h2 := HM.out; have h3 := HXL.out; have := HCL.out; omega, .inr ⟨g, 0, rfl, fun i hi => ?_⟩⟩
          have h2 := (h1 i (by simp; omega)).1
          rw [h2]
          simp [List.getElem?_append_left hi, hi])
        have HG7 : Hid (w3.grownBy (Sort.putRow (Value.int .i64) (Sort.ahead w6 q2) g 0 (Lib.compact ss ++ List.replicate (ss.length - (Lib.compact ss).length) 0).toArray) none) := Lib.hid (grown_then HG6.out grown_put (by rintro j ⟨⟩; exact .inl (by have := HGH.out; have := HSZ.out; omega)))
        generalize Sort.putRow (Value.int .i64) (Sort.ahead w6 q2) g 0 (Lib.compact ss ++ List.replicate (ss.length - (Lib.compact ss).length) 0).toArray = w8 at *
        have HIL : Hid (IsLab (sa.map Prod.snd) s (Lib.compact ss)) := Lib.hid ⟨compact_asc HSR.out, fun x => by rw [compact_mem, HMM.out x]; exact HC.out x⟩
        have HLL : Hid ((Lib.compact ss).length ≤ 1000000) := Lib.hid (by have h1 := HS2.out; have h2 := HM.out; have h3 := HXL.out; have := HCL.out; omega)
        clear HCL
        go_wp2_with fail
        go_ret
        exact ⟨_, Lib.compact ss, rfl, HH7.out, HIL.out, grown_trans HG3.out HG7.out, HLL.out, fun q hq => (HFR.out q (by simpa [Value.ownBlock] using hq)).1⟩
end Go.Proofs.Ytelpkcndbcfaiaa
