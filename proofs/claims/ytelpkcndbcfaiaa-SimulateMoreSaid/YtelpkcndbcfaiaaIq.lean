/- states.behind. -/
import Derived.Test.YtelpkcndbcfaiaaIm
import Derived.Test.YtelpkcndbcfaiaaIp
namespace Go.Proofs.Ytelpkcndbcfaiaa
open Go.RowKit
set_option linter.unusedVariables false
def behRow (hit : Bool) (l : Int) : Nat → List Ar → Nat
  | o, [] => o
  | o, p :: r => behRow hit l (if hit && p.1 == l then o ||| 2 ^ p.2.toNat else o) r
def behF (s : Nat) (l : Int) : Nat → Nat → Sys → Nat
  | _, o, [] => o
  | k, o, r :: rs => behF s l (k + 1) (behRow (s.testBit k) l o r) rs
/-- The states to which arcs with a label lead. -/
def behN (a : Sys) (s : Nat) (l : Int) : Nat := behF s l 0 0 a
theorem behRow_bit (hit : Bool) (l : Int) (j : Nat) : ∀ (r : List Ar) (o : Nat), (behRow hit l o r).testBit j = (o.testBit j || r.any (fun p => hit && p.1 == l && p.2.toNat == j))
  | [], o => by simp [behRow]
  | p :: r, o => by
    rw [behRow, behRow_bit hit l j r, List.any_cons]
    by_cases h : (hit && p.1 == l) = true
    · rw [if_pos h, Nat.testBit_or, Nat.testBit_two_pow, h]
      simp only [Bool.true_and, Bool.or_assoc]
      congr 2
    · rw [if_neg h]
      have : (hit && p.1 == l) = false := by simpa using h
      rw [this]
      simp
theorem behF_bit (s : Nat) (l : Int) (j : Nat) : ∀ (a : Sys) (k o : Nat), (behF s l k o a).testBit j = true ↔ (o.testBit j = true ∨ ∃ x, x < a.length ∧ s.testBit (k + x) = true ∧ ∃ p ∈ arcsOf a x, p.1 = l ∧ p.2.toNat = j)
  | [], k, o => by simp [behF]
  | r :: rs, k, o => by
    rw [behF, behF_bit s l j rs (k + 1), behRow_bit]
    simp only [Bool.or_eq_true, List.any_eq_true, Bool.and_eq_true, beq_iff_eq]
    constructor
    · rintro ((h | ⟨p, hp, ⟨h1, h2⟩, h3⟩) | ⟨x, hx, h1, h2⟩)
      · exact .inl h
      · exact .inr ⟨0, by simp, h1, p, by simpa [arcsOf] using hp, h2, h3⟩
      · exact .inr ⟨x + 1, by simp; omega, by rw [← h1]; congr 1; omega, by simpa [arcsOf] using h2⟩
    · rintro (h | ⟨x, hx, h1, h2⟩)
      · exact .inl (.inl h)
      · cases x with
        | zero =>
          obtain ⟨p, hp, e1, e2⟩ := h2
          exact .inl (.inr ⟨p, by simpa [arcsOf] using hp, ⟨h1, e1⟩, e2⟩)
        | succ x => exact .inr ⟨x, by simp at hx; omega, by rw [← h1]; congr 1; omega, by simpa [arcsOf] using h2⟩
theorem beh_bit {a : Sys} {s : Nat} {l : Int} {j : Nat} : (behN a s l).testBit j = true ↔ ∃ x, x < a.length ∧ s.testBit x = true ∧ ∃ p ∈ arcsOf a x, p.1 = l ∧ p.2.toNat = j := by
  unfold behN
  rw [behF_bit]
  simp
theorem or_lt {o n : Nat} (h : o < 256) (hn : n < 8) : o ||| 2 ^ n < 256 := by
  have h1 : 2 ^ n ≤ 2 ^ 7 := Nat.pow_le_pow_right (by decide) (by omega)
  exact Nat.or_lt_two_pow (n := 8) h (by omega)
theorem behRow_lt (hit : Bool) (l : Int) : ∀ (r : List Ar) (o : Nat), o < 256 → (∀ p ∈ r, p.2.toNat < 8) → behRow hit l o r < 256
  | [], o, h, _ => h
  | p :: r, o, h, hr => by
    rw [behRow]
    refine behRow_lt hit l r _ ?_ (fun q hq => hr q (List.mem_cons_of_mem _ hq))
    split
    · exact or_lt h (hr p (by simp))
    · exact h
theorem behF_lt (s : Nat) (l : Int) : ∀ (a : Sys) (k o : Nat), o < 256 → (∀ r ∈ a, ∀ p ∈ r, p.2.toNat < 8) → behF s l k o a < 256
  | [], k, o, h, _ => h
  | r :: rs, k, o, h, hr => by
    rw [behF]
    exact behF_lt s l rs _ _ (behRow_lt _ _ _ _ h (hr r (by simp))) (fun q hq => hr q (List.mem_cons_of_mem _ hq))
theorem beh_lt {a : Sys} (h : VS a) (h8 : a.length ≤ 8) (s : Nat) (l : Int) : behN a s l < 256 :=
  behF_lt s l a 0 0 (by decide) (fun r hr p hp => by have := h r hr p hp; omega)
theorem behRow_snoc (hit : Bool) (l : Int) (p : Ar) : ∀ (r : List Ar) (o : Nat), behRow hit l o (r ++ [p]) = (if hit && p.1 == l then behRow hit l o r ||| 2 ^ p.2.toNat else behRow hit l o r)
  | [], o => rfl
  | q :: r, o => by rw [List.cons_append, behRow, behRow_snoc hit l p r]; rfl
theorem behF_snoc (s : Nat) (l : Int) (r : List Ar) : ∀ (a : Sys) (k o : Nat), behF s l k o (a ++ [r]) = behRow (s.testBit (k + a.length)) l (behF s l k o a) r
  | [], k, o => rfl
  | q :: a, k, o => by
    rw [List.cons_append, behF, behF_snoc s l r a, behF, List.length_cons, show k + (a.length + 1) = k + 1 + a.length by omega]
theorem behF_take (s : Nat) (l : Int) {sa : List ArcP} {k : Nat} (hk : k < sa.length) : behF s l 0 0 ((sa.map Prod.snd).take (k + 1)) = behRow (s.testBit k) l (behF s l 0 0 ((sa.map Prod.snd).take k)) sa[k].2 := by
  rw [List.take_succ_eq_append_getElem (by rw [List.length_map]; exact hk), behF_snoc]
  have e : ((sa.map Prod.snd).take k).length = k := by rw [List.length_take, List.length_map]; omega
  rw [e, Nat.zero_add, List.getElem_map]
set_option maxRecDepth 100000 in
set_option maxHeartbeats 4000000 in
theorem behind_st (s : Nat) (hs : s < 256) (va : Value) (sa : List ArcP) (l : Int) (w : World) (ha : SysG w va sa) (h8 : sa.length ≤ 8) :
    Calls Try.prog 41 #[StV s, va, .int .i64 l] w fun e w' => e = .returned (StV (behN (sa.map Prod.snd) s l)) ∧ w.grownBy w' none := by
  obtain ⟨⟨xa, rfl, hA⟩, hga⟩ := ha
  have HA := Lib.hid hA
  obtain ⟨hn1, -, hva, hla⟩ := good_parts hga
  have HVA : Hid (∀ q ∈ sa, ∀ p ∈ q.2, 0 ≤ p.2 ∧ p.2.toNat < 8) := Lib.hid (fun q hq p hp => by
    have := hva q.2 (List.mem_map.2 ⟨q, hq, rfl⟩) p hp
    rw [List.length_map] at this
    omega)
  have HLT : Hid (∀ (k o : Nat) (r : List Ar) (hit : Bool), o < 256 → (∀ p ∈ r, p.2.toNat < 8) → behRow hit l o r < 256) := Lib.hid (fun k o r hit h hr => behRow_lt hit l r o h hr)
  have HLA := Lib.hid hla
  have HS := Lib.hid hs
  obtain ⟨a, c, rfl, -⟩ := hA
  obtain ⟨n, hn⟩ : ∃ n, sa.length = n := ⟨_, rfl⟩
  rw [hn] at hn1 HA h8 ⊢
  have HN := Lib.hid hn
  clear hn hga hva hla hs
  unfold StV
  obtain ⟨H, hH⟩ : ∃ H, w.heap.size = H := ⟨_, rfl⟩
  go_enter Try.func41, Try.ntmps41
  go_wp2_with fail
  obtain ⟨w3, hw3⟩ : ∃ w3, w3 = ((((w.alloc (.cells #[.int .u64 (s : Int), .int .u64 0] 76)).alloc (.cells #[.slice a n c] 25)).alloc (.cells #[.int .u64 0, .int .u64 0] 76)).alloc (.cells #[.int .u64 0, .int .u64 0] 76)) := ⟨_, rfl⟩
  have hg3 : w.grownBy w3 none := by rw [hw3]; exact grown_aft2 (grown_aft2 (grown_aft2 (World.grownBy_alloc _ _ _)))
  have b0 : w3.heap[H]? = some (.cells #[.int .u64 (s : Int), .int .u64 0] 76 (0, 0)) := by rw [hw3]; exact heap_old _ (heap_old _ (heap_old _ (heap_new _ hH.symm)))
  have b2 : w3.heap[H + 1 + 1]? = some (.cells #[.int .u64 0, .int .u64 0] 76 (0, 0)) := by rw [hw3]; exact heap_old _ (heap_new _ (by show _ = ((w.heap.push _).push _).size; simp [hH]))
  have b3 : w3.heap[H + 1 + 1 + 1]? = some (.cells #[.int .u64 0, .int .u64 0] 76 (0, 0)) := by rw [hw3]; exact heap_new _ (by show _ = (((w.heap.push _).push _).push _).size; simp [hH])
  have B0 := Lib.hid b0; have B2 := Lib.hid b2; have B3 := Lib.hid b3; have HG3 := Lib.hid hg3
  have HH := Lib.hid hH
  have HSZ : Hid (H + 1 + 1 + 1 < w3.heap.size) := Lib.hid (Array.getElem?_eq_some_iff.1 b3).1
  rw [← hw3]
  clear b0 b2 b3 hg3 hw3 hH
  have NE : ∀ q, q < H + 1 + 1 + 1 → some q ≠ some (H + 1 + 1 + 1) := fun q h e => by cases e; omega
  have NEQ := Lib.hid NE
  clear NE
  go_loopw [15] (fun i wr => ∃ (k o : Nat), i = .int .i64 k ∧ k ≤ n ∧ Hid (o < 256) ∧ Hid (behF s l 0 0 ((sa.map Prod.snd).take k) = o) ∧ Hid (w3.grownBy wr (some (H + 1 + 1 + 1))) ∧ Hid (wr.heap[H + 1 + 1 + 1]? = some (.cells #[.int .u64 (o : Int), .int .u64 0] 76 (0, 0)))) (fun i _ => n - (intOf i).toNat)
  case atStart => exact ⟨0, 0, rfl, Nat.zero_le _, Lib.hid (by decide), Lib.hid rfl, Lib.hid (grown_refl _ _), B3⟩
  case round =>
    clear B3
    obtain ⟨k, o, rfl, hk, ho, hf, hg, hb⟩ := hrel
    by_cases hlt : k < n
    · have h1 : (k : Int) < (n : Int) := by omega
      have HKL : Hid (k < sa.length) := Lib.hid (by rw [HN.out]; exact hlt)
      have hgw : w.grownBy wr none := grown_then HG3.out hg.out (by rintro j ⟨⟩; exact .inl (by have := HH.out; omega))
      obtain ⟨bb, off, cap, hv, c1w, har⟩ := HA.out.at HKL.out
      have c1 := hgw.cell c1w (by simp)
      clear c1w
      simp only [Value.slice.injEq] at hv
      obtain ⟨rfl, -, rfl⟩ := hv
      have hnx := HVA.out _ (List.getElem_mem HKL.out)
      have hl256 := HLA.out _ (List.getElem_mem HKL.out)
      have HNX : Hid (∀ o', behRow (s.testBit k) l o sa[k].2 = o' → behF s l 0 0 ((sa.map Prod.snd).take (k + 1)) = o') := Lib.hid (by
        rintro o' rfl
        exact (behF_take _ _ HKL.out).trans (congrArg (fun z => behRow (s.testBit k) l z sa[k].2) hf.out))
      generalize sa[k] = q at *
      obtain ⟨qv, la⟩ := q
      dsimp only at c1 har hnx hl256 HNX
      have HAR := Lib.hid har; have HPX := Lib.hid hnx
      have HGW := Lib.hid hgw
      obtain ⟨qa, qc, rfl, -, -⟩ := har
      clear hnx hgw
      go_wp2_with fail
      clear c1
      go_loopw [22] (fun i wr => ∃ (j o1 : Nat), i = .int .i64 j ∧ j ≤ la.length ∧ Hid (o1 < 256) ∧ Hid (behRow (s.testBit k) l o (la.take j) = o1) ∧ Hid (w3.grownBy wr (some (H + 1 + 1 + 1))) ∧ Hid (wr.heap[H + 1 + 1 + 1]? = some (.cells #[.int .u64 (o1 : Int), .int .u64 0] 76 (0, 0)))) (fun i _ => la.length - (intOf i).toNat)
      case atStart => exact ⟨0, o, rfl, Nat.zero_le _, ho, Lib.hid rfl, hg, hb⟩
      case round =>
        rename World => wk
        clear hg hb HGW
        obtain ⟨j, o1, rfl, hj, ho1, hf1, hg, hb⟩ := hrel
        by_cases hlj : j < la.length
        · have hj1 : (j : Int) < (la.length : Int) := by omega
          have hgw : w.grownBy wk none := grown_then HG3.out hg.out (by rintro j ⟨⟩; exact .inl (by have := HH.out; omega))
          obtain ⟨b4, o4, cp4, hv4, x1, x2⟩ := (HAR.out.same hgw).at hlj
          simp only [Value.slice.injEq] at hv4
          obtain ⟨rfl, -, rfl⟩ := hv4
          have hp := HPX.out _ (List.getElem_mem hlj)
          have HSN : Hid (behRow (s.testBit k) l o (la.take (j + 1)) = (if s.testBit k && la[j].1 == l then behRow (s.testBit k) l o (la.take j) ||| 2 ^ la[j].2.toNat else behRow (s.testBit k) l o (la.take j))) := Lib.hid (by rw [List.take_succ_eq_append_getElem hlj, behRow_snoc])
          rw [hf1.out] at HSN
          generalize la[j] = p at *
          obtain ⟨pl, pt⟩ := p
          dsimp only at x1 x2 hp HSN
          obtain ⟨tn, rfl⟩ : ∃ tn : Nat, pt = (tn : Int) := ⟨pt.toNat, by omega⟩
          have htn : tn < 8 := by omega
          rw [Int.toNat_natCast] at HSN
          have HTN := Lib.hid htn
          clear hp htn hf1
          obtain ⟨wc, hwc⟩ : ∃ wc, wc = wk.alloc (.cells #[.int .i64 pl, .int .i64 (tn : Int)] 61) := ⟨_, rfl⟩
          have hgc : wk.grownBy wc none := by rw [hwc]; exact World.grownBy_alloc _ _ _
          have hb0 : wc.heap[H]? = some (.cells #[.int .u64 (s : Int), .int .u64 0] 76 (0, 0)) := by
            rw [(grown_then hg.out hgc (by simp)).block H (by have := HSZ.out; omega) (NEQ.out _ (by omega))]
            exact B0.out
          obtain ⟨y0, y1, -, -⟩ := box_cells hb0
          have HBX : Hid (wc.heap[wk.heap.size]? = some (.cells #[.int .i64 pl, .int .i64 (tn : Int)] 61 (0, 0))) := Lib.hid (by rw [hwc]; exact heap_new _ rfl)
          have HWC := Lib.hid hwc; have HGC := Lib.hid hgc
          rw [hwc] at y0 y1
          clear hwc hgc hb0 hgw
          go_wp2_with fail
          rw [← HWC.out]
          clear y0 y1 x1 x2
          refine (has_st s k HS.out (by omega) wc).mono ?_
          rintro e w5 ⟨rfl, hg5⟩
          have HG5 := Lib.hid (grown_trans HGC.out hg5)
          have HG6 := Lib.hid (grown_then hg.out HG5.out (by simp))
          have hsz : H + 1 + 1 + 1 < wk.heap.size := Nat.lt_of_lt_of_le HSZ.out hg.out.size
          have HB5 : Hid (w5.heap[H + 1 + 1 + 1]? = some (.cells #[.int .u64 (o1 : Int), .int .u64 0] 76 (0, 0))) := Lib.hid (by
            rw [HG5.out.block _ hsz (by simp)]; exact hb.out)
          have hbx : w5.heap[wk.heap.size]? = some (.cells #[.int .i64 pl, .int .i64 (tn : Int)] 61 (0, 0)) := by
            rw [hg5.block _ (Array.getElem?_eq_some_iff.1 HBX.out).1 (by simp)]; exact HBX.out
          obtain ⟨z0, z1, -, -⟩ := box_cells hbx
          obtain ⟨u0, u1, -, -⟩ := box_cells HB5.out
          clear hg5 hbx hsz
          cases ht : s.testBit k with
          | false =>
            have HO : Hid (behRow (s.testBit k) l o (la.take (j + 1)) = o1) := Lib.hid (by rw [HSN.out, ht]; rfl)
            clear ht
            go_wp2_with fail
            go_roundw
            case rel => exact ⟨j + 1, o1, by go_num, by omega, ho1, HO, HG6, HB5⟩
            case measure => simp [intOf]; omega
          | true =>
            by_cases hl : pl = l
            · have d1 : (pl == l) = true := by simpa using hl
              have HO : Hid (behRow (s.testBit k) l o (la.take (j + 1)) = o1 ||| 2 ^ tn) := Lib.hid (by rw [HSN.out, ht, d1]; rfl)
              clear hl ht
              go_wp2_with fail
              refine (with_st o1 tn ho1.out HTN.out w5).mono ?_
              rintro e w7 ⟨rfl, hg7⟩
              unfold StV
              have hsz : H + 1 + 1 + 1 < w5.heap.size := (Array.getElem?_eq_some_iff.1 HB5.out).1
              have hb7 : w7.heap[H + 1 + 1 + 1]? = some (.cells #[.int .u64 (o1 : Int), .int .u64 0] 76 (0, 0)) := by
                rw [hg7.block _ hsz (by simp)]; exact HB5.out
              obtain ⟨P1, c4, f4, c5, f5⟩ := put_two (x := .int .u64 ((o1 ||| 2 ^ tn : Nat) : Int)) (y := .int .u64 0) hb7
              have HP1 := Lib.hid P1
              have HG8 : Hid (w3.grownBy ((w7.setCell ⟨H + 1 + 1 + 1, 0, none⟩ (.int .u64 ((o1 ||| 2 ^ tn : Nat) : Int))).setCell ⟨H + 1 + 1 + 1, 1, none⟩ (.int .u64 0)) (some (H + 1 + 1 + 1))) := Lib.hid (grown_trans (grown_then HG6.out hg7 (by simp)) (grown_trans (grown_set _ _ _) (grown_set _ _ _)))
              have HOL : Hid (o1 ||| 2 ^ tn < 256) := Lib.hid (or_lt ho1.out HTN.out)
              generalize o1 ||| 2 ^ tn = o2 at *
              clear hb7 hg7 hsz P1 u0 u1 z0 z1
              go_wp2_with fail
              go_roundw
              case rel => exact ⟨j + 1, o2, by go_num, by omega, HOL, HO, HG8, HP1⟩
              case measure => simp [intOf]; omega
            · have d1 : (pl == l) = false := by simpa using hl
              have HO : Hid (behRow (s.testBit k) l o (la.take (j + 1)) = o1) := Lib.hid (by rw [HSN.out, ht, d1]; rfl)
              clear hl ht
              go_wp2_with fail
              go_roundw
              case rel => exact ⟨j + 1, o1, by go_num, by omega, ho1, HO, HG6, HB5⟩
              case measure => simp [intOf]; omega
        · have hj1 : ¬ (j : Int) < (la.length : Int) := by omega
          have HO : Hid (behF s l 0 0 ((sa.map Prod.snd).take (k + 1)) = o1) := Lib.hid (HNX.out _ (by have := hf1.out; rwa [List.take_of_length_le (by omega)] at this))
          go_wp2_with fail
          go_roundw
          case rel => exact ⟨k + 1, o1, by go_num, by omega, ho1, HO, hg, hb⟩
          case measure => simp [intOf]; omega
    · have h1 : ¬ (k : Int) < (n : Int) := by omega
      have HO : Hid (behN (sa.map Prod.snd) s l = o) := Lib.hid (by
        have h2 := hf.out
        rwa [List.take_of_length_le (by rw [List.length_map, HN.out]; omega)] at h2)
      have hb2 : wr.heap[H + 1 + 1]? = some (.cells #[.int .u64 0, .int .u64 0] 76 (0, 0)) := by
        rw [hg.out.block _ (by have := HSZ.out; omega) (NEQ.out _ (by omega))]; exact B2.out
      obtain ⟨P1, c4, f4, c5, f5⟩ := put_two (x := .int .u64 (o : Int)) (y := .int .u64 0) hb2
      obtain ⟨u0, u1, -, -⟩ := box_cells hb.out
      have HP1 := Lib.hid P1
      have HGE : Hid (w.grownBy ((wr.setCell ⟨H + 1 + 1, 0, none⟩ (.int .u64 (o : Int))).setCell ⟨H + 1 + 1, 1, none⟩ (.int .u64 0)) none) := Lib.hid (by
        have hh := HH.out
        refine grown_then (grown_then HG3.out hg.out (by rintro j ⟨⟩; exact .inl (by omega))) (grown_trans (grown_set _ _ _) (grown_set _ _ _)) (by rintro j ⟨⟩; exact .inl (by show _ ≤ H + 1 + 1; omega))
      )
      clear hb2 P1
      go_wp2_with fail
      ((try simp only [Exit.inBlock, Exit.then]); refine bodyPost_ret (results_arr rfl _ _ (H + 1 + 1) _ _ _ _ _ rfl HP1.out Try.underlying76 (by kernel_rfl)) rfl ?_)
      exact ⟨by rw [HO.out], HGE.out⟩
end Go.Proofs.Ytelpkcndbcfaiaa
