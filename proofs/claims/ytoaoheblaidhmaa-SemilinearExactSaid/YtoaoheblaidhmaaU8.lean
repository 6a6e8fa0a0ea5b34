/- Texts Sc, Sd, Se in one. -/
import Derived.Test.YtoaoheblaidhmaaU7
import Derived.Test.YtoaoheblaidhmaaU2
import Derived.Test.YtoaoheblaidhmaaU5
namespace Go.Proofs.Ytoaoheblaidhmaa
open Go.RowKit
set_option linter.unusedVariables false

set_option maxRecDepth 20000 in
theorem rows_tail1 {w : World} {a : Option Addr} {n cap k : Nat} {ps : List Row} (h : RowsP w (.slice a n cap) ps) (hg : Good (.slice a n cap)) (hk : k ≤ ps.length) :
    ∃ a' c', (∀ w', (Instr.slice 24 (.slice a n cap) (some (.int .i64 (k : Int))) none none).run Try.prog w' = .ok (.slice a' (n - k) c') w') ∧ RowsP w (.slice a' (n - k) c') (ps.drop k) ∧ Good (.slice a' (n - k) c') := by
  obtain ⟨i, hi, hz0, hz1, hz2⟩ := info_parts info_row
  have h' := h
  obtain ⟨a1, cap1, hv, hl, hc, hr⟩ := h
  simp only [Value.slice.injEq] at hv
  obtain ⟨rfl, rfl, rfl⟩ := hv
  have hcap := hg.2 _ _ _ rfl
  have hrun : ∀ w', (Instr.slice 24 (.slice a ps.length cap) (some (.int .i64 (k : Int))) none none).run Try.prog w' = .ok (.slice (if cap = k then a else a.map (·.add k)) (ps.length - k) (cap - k)) w' := by
    intro w'
    rw [run_slice_l w' 24 a ps.length cap Try.underlying24 .i64 (k : Int) (by omega) (by omega)]
    rw [show Try.prog.elem 24 = 22 by kernel_rfl]
    simp [sizeOf, typeInfo, hi, hz1, sliced, Result.andThen]
  have hr' : ∀ p ∈ ps.drop k, RowOk w p := fun p hp => hr p (List.mem_of_mem_drop hp)
  have hlen : (ps.drop k).length = ps.length - k := List.length_drop
  refine ⟨_, _, hrun, ?_, ?_, ?_⟩
  · rcases hc with rfl | ⟨b, off, rfl, hc⟩
    · exact ⟨if cap = k then a else a.map (·.add k), cap - k, by simp, by simp, .inl (by simp), by simp⟩
    · by_cases hck : cap = k
      · rw [if_pos hck]
        exact ⟨some ⟨b, off, none⟩, cap - k, by rw [hlen], by omega, .inl (List.drop_eq_nil_of_le (by omega)), hr'⟩
      · rw [if_neg hck]
        have he : (⟨b, off, none⟩ : Addr).add k = ⟨b, off + k, none⟩ := by unfold Addr.add; split <;> simp_all
        simp only [Option.map_some, he]
        refine ⟨some ⟨b, off + k, none⟩, cap - k, by rw [hlen], by omega, .inr ⟨b, off + k, rfl, fun i hi => ?_⟩, hr'⟩
        rw [hlen] at hi
        rw [show off + k + i = off + (k + i) by omega, hc (k + i) (by omega), List.getElem?_drop]
  · intro n' c' e
    simp only [Value.slice.injEq] at e
    have : a = none := by
      have := e.1
      split at this
      · exact this
      · simpa using this
    subst this
    have := hg.1 _ _ rfl
    omega
  · intro a1 n1 c1 e
    simp only [Value.slice.injEq] at e
    omega

theorem src_cells {w : World} {b off : Nat} {xs : List Int} (hc : ∀ i, i < xs.length → w.cell? ⟨b, off + i, none⟩ = some (.int .i64 (xs[i]?.getD 0))) :
    ∀ j u, (xs.map (Value.int .i64))[j]? = some u → w.cell? ((⟨b, off, none⟩ : Addr).add j) = some u := by
  intro j u hj
  have hj' : j < xs.length := by
    have := (List.getElem?_eq_some_iff.1 hj).1
    simpa using this
  have e : (⟨b, off, none⟩ : Addr).add j = ⟨b, off + j, none⟩ := by unfold Addr.add; split <;> simp_all
  rw [e, hc j hj']
  simp [hj'] at hj
  simp [hj', hj]

set_option maxRecDepth 20000 in
set_option maxHeartbeats 1000000 in
theorem cloneInts_any (v : Value) (xs : List Int) (w : World) (h : RowOk w (v, xs)) (h1 : 1 ≤ xs.length) (hl : xs.length ≤ 1000000) :
    Calls Try.prog 43 #[v] w (Made xs w) := by
  have H := Lib.hid h
  obtain ⟨⟨a, cap, hv, -, -, -⟩, -, -⟩ := h
  simp only at hv
  subst hv
  have hne : ¬ (xs.length : Int) = 0 := by omega
  go_enter Try.func43, Try.ntmps43
  go_wp2_with (at_make; refine make_int rfl _ _ rfl xs.length rfl rfl (by omega) ?_)
  intro w1 ho hg
  have G1 := Lib.hid hg
  have HM : Hid (w1.heap.size > w.heap.size) := Lib.hid (ho.fresh _ rfl).2
  obtain ⟨cur, hh, hsz, hW⟩ := copied ho rfl
  have HW := Lib.hid hW
  obtain ⟨⟨a1, cap1, hv1, -, -, hc⟩, -⟩ := (H.out.same hg)
  simp only [Value.slice.injEq] at hv1
  obtain ⟨rfl, -, -⟩ := hv1
  rcases hc with rfl | ⟨b, off, rfl, hc⟩
  · simp at h1
  dsimp only at hc
  clear ho hg hW
  go_wp2_with (refine wpList_copy_own rfl _ _ 22 22 rfl 3 Try.underlying22 (by kernel_rfl) w.heap.size 0 xs.length xs.length ⟨b, off, none⟩ xs.length cap rfl rfl cur 3 hh (xs.map (Value.int .i64)) (by simp) (src_cells hc) (by simp <;> omega) (by intro u hu; obtain ⟨x, -, rfl⟩ := List.mem_map.1 hu; rfl) ?_)
  generalize hWW : World.setRow _ _ _ = W
  obtain ⟨hO, hG⟩ := HW.out W hWW.symm
  have HO := Lib.hid hO
  have HG := Lib.hid (grown_then G1.out hG (by rintro j ⟨⟩; exact .inl (Nat.le_refl _)))
  clear hO hG hWW hc hh hsz HW
  go_wp2_with fail
  go_ret
  exact ⟨_, rfl, HO.out, HG.out⟩

set_option maxRecDepth 20000 in
set_option maxHeartbeats 1000000 in
theorem clone_any (v : Value) (xs : List Int) (w : World) (h : RowOk w (v, xs)) (h1 : 1 ≤ xs.length) (hl : xs.length ≤ 1000000) :
    Calls Try.prog 62 #[v] w (Made xs w) := by
  have H := Lib.hid h
  obtain ⟨⟨a, cap, hv, -, -, hc⟩, -, -⟩ := h
  simp only at hv
  subst hv
  rcases hc with rfl | ⟨b, off, rfl, -⟩
  · simp at h1
  have he : ∀ W, (binOp .eql 22 (.slice (some ⟨b, off, none⟩) xs.length cap) (.slice none 0 0)).run Try.prog W = .ok (.bool false) W := fun _ => rfl
  go_enter Try.func62, Try.ntmps62
  go_wp2_with (at_builtin; refine app_ints rfl _ _ rfl w.heap.size _ [] rfl (World.ownsRow_lit w #[] 0 (Nat.le_refl _) (by decide) rfl) _ xs rfl (H.out.same (World.grownBy_alloc _ _ none)).1 H.out.2.1 (by simp; omega) (World.grownBy_alloc w _ none).size ?_)
  intro v' w1 ho hg
  have HO := Lib.hid ho; have HG := Lib.hid (grown_then (World.grownBy_alloc w (.cells #[] 3) none) hg (by rintro j ⟨⟩; exact .inl (Nat.le_refl _)))
  clear ho hg
  go_wp2_with fail
  go_ret
  exact ⟨_, rfl, HO.out, HG.out⟩

end Go.Proofs.Ytoaoheblaidhmaa

namespace Go.Proofs.Ytoaoheblaidhmaa
open Go.RowKit
set_option linter.unusedVariables false

def GivesT (ps : List (List Int)) (v : List Int) (w : World) (e : Ending) (w' : World) : Prop := ∃ r, Least ps v r ∧ GivesO r w e w'
/-- What the loops hold of a period. -/
def PerOk (n : Nat) (p : List Int) : Prop := Nat0 n p ∧ Some1 p ∧ ∀ x ∈ p, x ≤ 16

theorem least_nil_some {v : List Int} (h : zeroB v = true) : Least [] v (some []) := by
  refine ⟨fun x hx => by simpa using List.all_eq_true.1 h x hx, ?_⟩
  intro ks hs
  match ks, hs with
  | [], _ => simp [lexI]
theorem least_nil_none {v : List Int} (h : zeroB v = false) : Least [] v none := by
  intro ks hs
  match ks, hs with
  | [], hs =>
    have : zeroB v = true := List.all_eq_true.2 fun x hx => by simpa using hs x hx
    rw [this] at h
    cases h
theorem subk_step {n j : Nat} {k : Int} {p v zs : List Int} (hp : p.length = n) (hv : v.length = n) (hz : zs.length = n) (hj : j < n)
    (ht : zs.take j = (subk (k + 1) p v).take j) (hd : zs.drop j = (subk k p v).drop j) :
    zs[j]?.getD 0 = (subk k p v)[j]?.getD 0 ∧ (zs.set j (zs[j]?.getD 0 - p[j]?.getD 0)).take (j + 1) = (subk (k + 1) p v).take (j + 1) ∧ (zs.set j (zs[j]?.getD 0 - p[j]?.getD 0)).drop (j + 1) = (subk k p v).drop (j + 1) := by
  have e0 : zs[j]?.getD 0 = (subk k p v)[j]?.getD 0 := by
    have h1 : (zs.drop j)[0]? = ((subk k p v).drop j)[0]? := by rw [hd]
    rw [List.getElem?_drop, List.getElem?_drop] at h1
    simpa using congrArg (fun o => o.getD 0) h1
  refine ⟨e0, ?_, ?_⟩
  · have e1 : zs[j]?.getD 0 - p[j]?.getD 0 = (subk (k + 1) p v)[j]?.getD 0 := by
      rw [e0, subk_at k p v j (by omega) (by omega), subk_at (k + 1) p v j (by omega) (by omega), Int.add_mul]
      omega
    rw [e1]
    exact set_take zs _ j (by rw [hz, subk_len hp hv]) (by rw [subk_len hp hv]; exact hj) ht
  · rw [List.drop_set_of_lt (by omega)]
    have : (zs.drop j).drop 1 = ((subk k p v).drop j).drop 1 := by rw [hd]
    simpa [List.drop_drop, Nat.add_comm] using this
theorem subk_bd {n : Nat} {k : Int} {p v : List Int} {M : Int} (hp : Nat0 n p) (hv : v.length = n) (hk : 0 ≤ k) (hM : ∀ x ∈ v, x ≤ M) : ∀ x ∈ subk k p v, x ≤ M := by
  intro z hz
  obtain ⟨x, hx, y, hy, rfl⟩ := mem_zipWith _ v p z hz
  have h1 := hM x hx
  have h2 := Int.mul_nonneg hk (hp.2 y hy)
  omega
/-- How often a period fits. -/
theorem fits_le {n : Nat} {k : Int} {p v : List Int} {M : Int} (hp : PerOk n p) (hv : v.length = n) (hk : 0 ≤ k) (hM : ∀ x ∈ v, x ≤ M) (h : ∀ x ∈ subk k p v, 0 ≤ x) : k ≤ M := by
  obtain ⟨y, hy, h1⟩ := hp.2.1
  obtain ⟨x, hx, hm⟩ := mem_zipWith_at' (fun a x => a - k * x) v p (by rw [hv, hp.1.1]) y hy
  have h2 := h _ hm
  have h3 := hM x hx
  have h4 := Int.mul_le_mul_of_nonneg_left h1 hk
  omega
theorem ownI_own {w : World} {base : Nat} {v : Value} {xs : List Int} (h : OwnI w base v xs) (h1 : 1 ≤ xs.length) : ∃ g c, v = .slice (some ⟨g, 0, none⟩) xs.length c ∧ base ≤ g ∧ xs.length ≤ c := by
  rcases h.2 with ⟨_, h0⟩ | ⟨g, cap, cur, hv, hb, _, hn, _⟩
  · omega
  · exact ⟨g, cap, hv, hb, hn⟩

theorem subk_lo {n : Nat} {k : Int} {p v : List Int} (hp : PerOk n p) (hv : v.length = n) (hk : 0 ≤ k) (hk' : k ≤ 65) (hM : ∀ x ∈ v, -1000 ≤ x) : ∀ x ∈ subk k p v, -2040 ≤ x := by
  intro z hz
  obtain ⟨x, hx, y, hy, rfl⟩ := mem_zipWith _ v p z hz
  have h1 := hM x hx
  have h2 : k * y ≤ 65 * 16 := Int.mul_le_mul hk' (hp.2.2 y hy) (hp.1.2 y hy) (by omega)
  omega
theorem rows_pair {w : World} {k : Int} {p : Row} (hp : RowOk w p) (hk : -9223372036854775808 ≤ k ∧ k ≤ 9223372036854775807) :
    RowsP ((w.alloc (.cells #[.int .i64 k] 3)).alloc (.cells #[.slice (some ⟨w.heap.size, 0, none⟩) 1 1, p.1] 22)) (.slice (some ⟨w.heap.size + 1, 0, none⟩) 2 2) [(.slice (some ⟨w.heap.size, 0, none⟩) 1 1, [k]), p] := by
  refine rows_blk _ 2 2 (heap_new _ (by show _ = (w.heap.push _).size; simp)) rfl (by decide) rfl ?_
  intro q hq
  simp only [List.mem_cons, List.not_mem_nil, or_false] at hq
  rcases hq with rfl | rfl
  · refine ⟨ints_blk [k] 1 1 (heap_old _ (heap_new _ rfl)) rfl (by decide) (by intro x hx; simp at hx; subst hx; exact hk) rfl, Good.some _ (Nat.le_refl _), fun g' hg => ?_⟩
    simp only [Value.ownBlock, Option.some.injEq] at hg
    subst hg
    exact (Array.getElem?_eq_some_iff.1 (heap_old _ (heap_new _ rfl))).1
  · exact hp.same (grown_after (grown_after (grown_refl _ _)))

set_option maxRecDepth 100000 in
set_option maxHeartbeats 2000000 in
theorem times_any (n : Nat) (hn1 : 1 ≤ n) (hn2 : n ≤ 1000) : ∀ (qs : List Row) (vp vv : Value) (v : List Int) (w : World), RowsP w vp qs → Good vp → RowOk w (vv, v) → v.length = n →
    (∀ q ∈ qs, PerOk n q.2) → (∀ x ∈ v, -1000 ≤ x ∧ x ≤ 64) → qs.length ≤ 100 →
    Calls Try.prog 38 #[vp, vv] w (GivesT (qs.map Prod.snd) v w) := by
  intro qs
  induction qs with
  | nil =>
    intro vp vv v w h hg hr hl hp hb hm
    obtain ⟨a, cap, rfl, -⟩ := h
    have HR := Lib.hid hr
    clear hr hl hp hb hm hg
    go_enter Try.func38, Try.ntmps38
    go_wp2_with fail
    refine (contains0_any _ _ _ HR.out.1).mono ?_
    rintro e w' ⟨rfl, rfl⟩
    by_cases hz : zeroB v = true
    · have HZ := Lib.hid (least_nil_some hz)
      rw [hz]
      clear hz
      go_wp2_with fail
      go_ret2
      exact ⟨some [], HZ.out, _, rfl, OwnI.nil _ _, grown_refl _ _⟩
    · have hz' : zeroB v = false := by simpa using hz
      have HZ := Lib.hid (least_nil_none hz')
      rw [hz']
      clear hz hz'
      go_wp2_with fail
      go_ret2
      exact ⟨none, HZ.out, _, rfl, OwnI.nil _ _, grown_refl _ _⟩
  | cons q qs ih =>
    intro vp vv v w h hg hr hl hp hb hm
    obtain ⟨a, cap, rfl, hlm, hc, hrows⟩ := h
    obtain ⟨b, off, rfl, hx⟩ := RowsP.at hc (show 0 < (q :: qs).length by simp)
    rw [Nat.add_zero] at hx
    obtain ⟨ta, tc, hrun, hrt, hgt⟩ : ∃ a' c', (∀ w', (Instr.slice 24 (.slice (some ⟨b, off, none⟩) (qs.length + 1) cap) (some (.int .i64 1)) none none).run Try.prog w' = .ok (.slice a' qs.length c') w') ∧ RowsP w (.slice a' qs.length c') qs ∧ Good (.slice a' qs.length c') :=
      rows_tail1 (k := 1) ⟨_, cap, rfl, hlm, hc, hrows⟩ hg (by simp)
    have hcq := hg.2 _ _ _ rfl
    have Q1 : Hid (RowOk w q) := Lib.hid (hrows q (by simp))
    have P1 : Hid (PerOk n q.2) := Lib.hid (hp q (by simp))
    have PS : Hid (∀ q ∈ qs, PerOk n q.2) := Lib.hid (fun r hr => hp r (by simp [hr]))
    have T1 := Lib.hid hrt; have T2 := Lib.hid hgt; have HR := Lib.hid hr; have HL := Lib.hid hl; have HB := Lib.hid hb; have HM : Hid (qs.length ≤ 100) := Lib.hid (by simp at hm; omega)
    have IH := Lib.hid ih
    have h0 : ¬ (qs.length : Int) + 1 = 0 := by omega
    have j1 : (1 : Int) ≤ (qs.length : Int) + 1 := by omega
    have j2 : (qs.length : Int) + 1 ≤ (cap : Int) := by simp at hcq; omega
    clear hrt hgt hr hl hb hm hp hrows hc hg ih hcq hlm
    obtain ⟨qv, p⟩ := q
    obtain ⟨⟨aq, cq, hqv, -, -, -⟩, -, -⟩ := Q1.out
    dsimp only at hqv hx P1
    subst hqv
    go_enter Try.func38, Try.ntmps38
    go_wp2_with fail
    refine (clone_any _ _ _ HR.out (by rw [HL.out]; exact hn1) (by rw [HL.out]; omega)).mono ?_
    rintro e w1 ⟨v1, rfl, ho, hg⟩
    obtain ⟨g, c, rfl, hbg, hvc⟩ := ownI_own ho (by rw [HL.out]; exact hn1)
    have HO : Hid (OwnI w1 w.heap.size (.slice (some ⟨g, 0, none⟩) v.length c) (subk 0 p v)) := Lib.hid (by rw [subk_zero p v (by rw [P1.out.1.1, HL.out])]; exact ho)
    have HG := Lib.hid hg; have BG := Lib.hid hbg
    clear ho hg hbg hvc
    go_wp2_with fail
    go_loopw [6] (fun i wr => ∃ k : Nat, i = .int .i64 k ∧ k ≤ 65 ∧ Hid (OwnI wr w.heap.size (.slice (some ⟨g, 0, none⟩) v.length c) (subk (k : Int) p v)) ∧ Hid (w.grownBy wr none) ∧ Hid (Fewer (qs.map Prod.snd) p v (k : Int))) (fun i _ => 66 - (intOf i).toNat)
    case atStart => exact ⟨0, rfl, by omega, HO, HG, Lib.hid (Fewer.zero _ _ _)⟩
    case round =>
      obtain ⟨k, rfl, hk, ho, hg, hf⟩ := hrel
      rename World => wk
      have SL : Hid ((subk (k : Int) p v).length = n) := Lib.hid (subk_len P1.out.1.1 HL.out)
      have SB : Hid (∀ x ∈ subk (k : Int) p v, -2040 ≤ x ∧ x ≤ 64) := Lib.hid (fun x hx => ⟨subk_lo P1.out HL.out (by omega) (by omega) (fun x hx => (HB.out x hx).1) x hx, subk_bd P1.out.1 HL.out (by omega) (fun x hx => (HB.out x hx).2) x hx⟩)
      have hrow := ho.out.row (fun x hx => by have := SB.out x hx; omega)
      have HRW := Lib.hid hrow
      clear hrow
      go_wp2_with fail
      refine (min_any _ _ _ HRW.out.1 (by rw [SL.out]; exact hn1)).mono ?_
      rintro e w2 ⟨m, rfl, hm, rfl⟩
      by_cases h0m : 0 ≤ m
      · have HNN : Hid (∀ x ∈ subk (k : Int) p v, 0 ≤ x) := Lib.hid (fun x hx => Int.le_trans h0m (hm.2 x hx))
        have hk64 : k ≤ 64 := by have := fits_le P1.out HL.out (by omega) (fun x hx => (HB.out x hx).2) HNN.out; omega
        clear hm
        go_wp2_with fail
        refine (IH.out _ _ (subk (k : Int) p v) _ (T1.out.same hg.out) T2.out HRW.out SL.out PS.out (fun x hx => ⟨by have := HNN.out x hx; omega, (SB.out x hx).2⟩) HM.out).mono ?_
        rintro e w3 ⟨r, hlst, v3, rfl, ho3, hg3⟩
        have HLS := Lib.hid hlst
        have G3 := Lib.hid (grown_trans hg.out hg3)
        have O3 := Lib.hid (ho.out.kept hg3 (by simp))
        clear hlst
        cases r with
        | none =>
          clear ho3 hg3
          dsimp only [Option.isSome_none]
          have hlp : Hid (p.length = n) := Lib.hid P1.out.1.1
          have hx3 := G3.out.cell hx (by simp)
          have hpb : p.length ≤ 1000 := by rw [P1.out.1.1]; exact hn2
          go_wp2_with fail
          go_loopw [41] (fun i wr => ∃ (j : Nat) (zs : List Int), i = .int .i64 j ∧ j ≤ p.length ∧ Hid (zs.length = n ∧ zs.take j = (subk ((k : Int) + 1) p v).take j ∧ zs.drop j = (subk (k : Int) p v).drop j) ∧ Hid (OwnI wr w.heap.size (.slice (some ⟨g, 0, none⟩) v.length c) zs) ∧ Hid (w.grownBy wr none)) (fun i _ => p.length - (intOf i).toNat)
          case atStart => exact ⟨0, _, rfl, Nat.zero_le _, Lib.hid ⟨SL.out, by simp, rfl⟩, O3, G3⟩
          case round =>
            obtain ⟨j, zs, rfl, hj, hz, hoz, hgz⟩ := hrel
            rename World => wj
            by_cases hlt : j < p.length
            · have ST := Lib.hid (subk_step P1.out.1.1 HL.out hz.out.1 (by have := hlp.out; omega) hz.out.2.1 hz.out.2.2)
              obtain ⟨⟨_, _, hv, _, _, hcp⟩, -, -⟩ := Q1.out.same hgz.out
              simp only [Value.slice.injEq] at hv
              obtain ⟨rfl, -, -⟩ := hv
              obtain ⟨b', off', rfl, hx'⟩ := Ints.at hcp hlt
              obtain ⟨hcell, hfr⟩ := hoz.out.cell j (by have := hz.out.1; have := hlp.out; omega)
              have hyy := mem_at P1.out.1.2 hlt
              have hyz := mem_at P1.out.2.2 hlt
              have hxx : 0 ≤ zs[j]?.getD 0 ∧ zs[j]?.getD 0 ≤ 64 := by
                rw [ST.out.1]
                have hjl : j < (subk (k : Int) p v).length := by rw [SL.out]; have := hlp.out; omega
                exact ⟨mem_at HNN.out hjl, (mem_at SB.out hjl).2⟩
              have h1 : (j : Int) < (p.length : Int) := by omega
              have h2 : (j : Int) < (v.length : Int) := by have := hlp.out; have := HL.out; omega
              clear hcp
              generalize hX : zs[j]?.getD 0 = x at *
              generalize hY : p[j]?.getD 0 = y at *
              have HXY := Lib.hid (And.intro hX hY)
              clear hX hY
              go_wp2_with fail
              go_roundw
              case rel => exact ⟨j + 1, zs.set j (x - y), by go_num, by omega, Lib.hid ⟨by rw [List.length_set]; exact hz.out.1, ST.out.2.1, ST.out.2.2⟩, Lib.hid (hoz.out.stored j _), Lib.hid (grown_then hgz.out (grown_set _ _ _) (by rintro j ⟨⟩; exact .inl BG.out))⟩
              case measure => simp [intOf]; omega
            · have hq : zs = subk ((k : Int) + 1) p v := by
                have h2 := hz.out.1
                have h3 := hlp.out
                have h1 := hz.out.2.1
                rwa [List.take_of_length_le (by omega), List.take_of_length_le (by rw [subk_len P1.out.1.1 HL.out]; omega)] at h1
              subst hq
              have h1 : ¬ (j : Int) < (p.length : Int) := by omega
              go_wp2_with fail
              go_roundw
              case rel => exact ⟨k + 1, by go_num, by omega, hoz, hgz, Lib.hid (hf.out.next HLS.out)⟩
              case measure => simp [intOf]; omega
        | some ks =>
          dsimp only [Option.isSome_some, Option.getD_some] at ho3 ⊢
          obtain ⟨a3, c3, rfl⟩ := ho3.slice
          have KL := Lib.hid (HLS.out.1.le (fun r hr => by obtain ⟨q, hq, rfl⟩ := List.mem_map.1 hr; exact ⟨(PS.out q hq).1, (PS.out q hq).2.1⟩) SL.out (fun x hx => (SB.out x hx).2))
          have KN : Hid (ks.length ≤ 100) := Lib.hid (by have := HLS.out.1.len; rw [List.length_map] at this; have := HM.out; omega)
          have R3 := Lib.hid (ho3.row (fun x hx => by have := KL.out x hx; omega))
          clear ho3 hg3
          go_wp2_with fail
          refine (concat_any _ [(.slice (some ⟨w3.heap.size, 0, none⟩) 1 1, [(k : Int)]), (.slice a3 ks.length c3, ks)] _ (rows_pair (w := w3) R3.out (by omega)) (by have := KN.out; simp; omega)).mono ?_
          rintro e w4 ⟨v4, rfl, ho4, hg4⟩
          rw [show List.flatMap Prod.snd [((.slice (some ⟨w3.heap.size, 0, none⟩) 1 1, [(k : Int)]) : Row), (.slice a3 ks.length c3, ks)] = (k : Int) :: ks by simp] at ho4
          have O4 := Lib.hid ho4
          have G4 := Lib.hid (grown_trans (grown_after (grown_after G3.out)) hg4)
          clear ho4 hg4
          go_wp2_with fail
          go_ret2
          exact ⟨some ((k : Int) :: ks), hf.out.found (by omega) HLS.out, _, rfl, O4.out.mono (grown_after (grown_after G3.out)).size, G4.out⟩
      · have hneg : m < 0 := by omega
        have HF := Lib.hid (hf.out.none (ps := qs.map Prod.snd) P1.out.1 (fun r hr => by obtain ⟨q, hq, rfl⟩ := List.mem_map.1 hr; exact (PS.out q hq).1) HL.out ⟨m, hm.1, hneg⟩ (by omega))
        clear hm
        go_wp2_with fail
        go_ret2
        exact ⟨none, HF.out, _, rfl, OwnI.nil _ _, hg.out⟩

end Go.Proofs.Ytoaoheblaidhmaa

namespace Go.Proofs.Ytoaoheblaidhmaa
open Go.RowKit
set_option linter.unusedVariables false

def IsMax (m : Int) (xs : List Int) : Prop := m ∈ xs ∧ ∀ x ∈ xs, x ≤ m
theorem IsMax.next {m : Int} {xs : List Int} {k : Nat} (h : IsMax m (xs.take k)) (hk : k < xs.length) : IsMax (max m (xs[k]?.getD 0)) (xs.take (k + 1)) := by
  rw [take_snoc' xs k hk]
  refine ⟨?_, ?_⟩
  · rcases Int.le_total m (xs[k]?.getD 0) with h1 | h1
    · rw [Int.max_eq_right h1]; simp
    · rw [Int.max_eq_left h1]; exact List.mem_append_left _ h.1
  · intro x hx
    rcases List.mem_append.1 hx with hx | hx
    · have := h.2 x hx; omega
    · simp at hx; subst hx; omega
def Maxs (xs : List Int) (w : World) (e : Ending) (w' : World) : Prop := ∃ m, e = .returned (.int .i64 m) ∧ IsMax m xs ∧ w' = w
theorem max_any (v : Value) (xs : List Int) (w : World) (h : Ints w v xs) (hne : 1 ≤ xs.length) :
    Calls Try.prog 58 #[v] w (Maxs xs w) := by
  obtain ⟨a, cap, rfl, hl, hb, hc⟩ := h
  unfold maxLen at hl
  have h0 : ¬ (xs.length : Int) < 1 := by omega
  obtain ⟨b, off, rfl, hx0⟩ := Ints.at hc (show 0 < xs.length by omega)
  rw [Nat.add_zero] at hx0
  go_enter Try.func58, Try.ntmps58
  go_wp2
  go_loopw [3, 4] (fun m i wr => ∃ (k : Nat) (z : Int), 1 ≤ k ∧ k ≤ xs.length ∧ i = .int .i64 k ∧ m = .int .i64 z ∧ Hid (IsMax z (xs.take k)) ∧ wr = w) (fun _ i _ => xs.length - (intOf i).toNat)
  case atStart => exact ⟨1, _, Nat.le_refl _, by omega, rfl, rfl, Lib.hid (by
    rw [take_snoc' xs 0 (by omega)]
    exact ⟨by simp, by simp⟩), rfl⟩
  case round =>
    obtain ⟨k, z, hk1, hk, rfl, rfl, hm, rfl⟩ := hrel
    by_cases hlt : k < xs.length
    · have HN := Lib.hid (hm.out.next hlt)
      obtain ⟨b, off, hb1, hx⟩ := Ints.at hc hlt
      obtain ⟨rfl, rfl⟩ : _ ∧ _ := by simpa using hb1
      have h1 : (k : Int) < (xs.length : Int) := by omega
      clear hc hx0 hb1 hm
      generalize xs[k]?.getD 0 = x at *
      go_wp2
      go_roundw
      case rel => exact ⟨k + 1, _, by omega, by omega, by go_num, rfl, HN, trivial⟩
      case measure => simp [intOf]; omega
    · have h1 : ¬ (k : Int) < (xs.length : Int) := by omega
      go_wp2
      go_ret
      exact ⟨z, rfl, by have := hm.out; rwa [List.take_of_length_le (by omega)] at this, rfl⟩

/-- A valid set of one dimension. -/
def ValidS (n : Nat) (b : List Int) (ps : List (List Int)) : Prop :=
  1 ≤ n ∧ n ≤ 4 ∧ b.length = n ∧ (∀ x ∈ b, 0 ≤ x ∧ x ≤ 16) ∧ (∀ p ∈ ps, PerOk n p) ∧ ps.length ≤ 3 ∧ Asc ps
/-- A value that reads as a set. -/
def LinV (w : World) (v : Value) (b : List Int) (ps : List (List Int)) : Prop := ∃ vb vp qs, v = .agg #[vb, vp] ∧ RowOk w (vb, b) ∧ RowsP w vp qs ∧ Good vp ∧ qs.map Prod.snd = ps
theorem LinV.same {w w' : World} {v : Value} {b : List Int} {ps : List (List Int)} (h : LinV w v b ps) (g : w.grownBy w' none) : LinV w' v b ps := by
  obtain ⟨vb, vp, qs, hv, h1, h2, h3, h4⟩ := h
  exact ⟨vb, vp, qs, hv, h1.same g, h2.same g, h3, h4⟩
theorem ownP_lit {w : World} {p : Row} (h : RowOk w p) : OwnP (w.alloc (.cells #[p.1] 22)) w.heap.size (.slice (some ⟨w.heap.size, 0, none⟩) 1 1) [p] := by
  refine ⟨World.ownsRow_lit w #[p.1] 1 (Nat.le_refl _) (by decide) rfl, fun q hq => ?_⟩
  rw [List.mem_singleton.1 hq]
  refine ⟨h.same (World.grownBy_alloc _ _ none), fun g h1 h2 => ?_⟩
  simp only [Value.ownBlock, Option.some.injEq] at h2
  have := h.2.2 g h1
  omega
theorem asc_adj {qs : List Row} {n k : Nat} (h : Asc (qs.map Prod.snd)) (hl : ∀ q ∈ qs, q.2.length = n) (h1 : 1 ≤ k) (hk : k < qs.length) : lexI (qs[k - 1]'(by omega)).2 (qs[k]).2 < 0 := by
  have h2 := List.pairwise_iff_getElem.1 h (k - 1) k (by simp; omega) (by simpa using hk) (by omega)
  simp only [List.getElem_map] at h2
  unfold compareI at h2
  rw [hl _ (List.getElem_mem _), hl _ (List.getElem_mem _)] at h2
  simpa using h2

set_option maxRecDepth 100000 in
set_option maxHeartbeats 1500000 in
theorem checkSet_any (n : Nat) (v : Value) (b : List Int) (ps : List (List Int)) (w : World) (h : LinV w v b ps) (hv : ValidS n b ps) :
    Calls Try.prog 35 #[.int .i64 (n : Int), v] w fun e w' => e = .returned (.int .i64 0) ∧ w.grownBy w' none := by
  obtain ⟨vb, vp, qs, rfl, hb, hr, hg, rfl⟩ := h
  have hn1 : 1 ≤ n := hv.1
  have hn4 : n ≤ 4 := hv.2.1
  have hq3 : qs.length ≤ 3 := by have := hv.2.2.2.2.2.1; rwa [List.length_map] at this
  have HB := Lib.hid hb; have HR := Lib.hid hr; have HGd := Lib.hid hg; have HA := Lib.hid hv.2.2.2.2.2.2
  have hbl := hv.2.2.1
  have HP : Hid (∀ q ∈ qs, PerOk n q.2) := Lib.hid (fun q hq => hv.2.2.2.2.1 q.2 (List.mem_map_of_mem hq))
  have HALL : Hid (∀ p ∈ ((vb, b) :: qs : List Row), p.2.length = n ∧ withB 16 p.2 = true) := Lib.hid (by
    intro p hp
    rcases List.mem_cons.1 hp with rfl | hp
    · exact ⟨hbl, withB_iff.2 hv.2.2.2.1⟩
    · have := HP.out p hp
      exact ⟨this.1.1, withB_iff.2 fun x hx => ⟨this.1.2 x hx, this.2.2 x hx⟩⟩)
  have HMX : Hid (∀ k, (hk : k < ((vb, b) :: qs : List Row).length) → 1 ≤ k → Some1 (((vb, b) :: qs : List Row)[k]).2) := Lib.hid (by
    intro k hk h1
    obtain ⟨j, rfl⟩ : ∃ j, k = j + 1 := ⟨k - 1, by omega⟩
    exact (HP.out _ (List.getElem_mem (by simpa using hk))).2.1)
  have HAL : Hid (((vb, b) :: qs : List Row).length = qs.length + 1) := Lib.hid rfl
  clear hb hr hg hv hbl
  obtain ⟨⟨ab, cb, hvb, -, -, -⟩, -, -⟩ := HB.out
  dsimp only at hvb
  subst hvb
  obtain ⟨ap, cp, rfl, -, -, -⟩ := HR.out
  go_enter Try.func35, Try.ntmps35
  have HB1 := Lib.hid (HB.out.same (World.grownBy_alloc w (.cells #[.slice ab b.length cb, .slice ap qs.length cp] 26) none))
  have HR1 := Lib.hid (HR.out.same (grown_after (o := .cells #[.slice ab b.length cb] 22) (World.grownBy_alloc w (.cells #[.slice ab b.length cb, .slice ap qs.length cp] 26) none)))
  have HF : Hid (∀ q ∈ qs, ∀ g, q.1.ownBlock = some g → (Value.slice (some ⟨w.heap.size + 1, 0, none⟩) 1 1).ownBlock ≠ some g) := Lib.hid (by
    intro q hq g h1 h2
    have := (rows_rows HR.out q hq).2.2 g h1
    simp only [Value.ownBlock, Option.some.injEq] at h2
    omega)
  have hsz : (w.alloc (.cells #[.slice ab b.length cb, .slice ap qs.length cp] 26)).heap.size = w.heap.size + 1 := by show (w.heap.push _).size = _; simp
  have hO := ownP_lit HB1.out
  rw [hsz] at hO
  have HO := Lib.hid hO
  clear hO hsz
  go_wp2_with (at_builtin; refine app_all rfl _ _ rfl _ _ [((.slice ab b.length cb, b) : Row)] rfl HO.out _ qs rfl HR1.out HF.out (by simp; omega) (by show _ ≤ ((w.heap.push _).push _).size; simp) ?_)
  intro a2 n2 c2 w2 hn2 ho hg
  have hcell := World.grownBy.cell hg (a := ⟨w.heap.size, 1, none⟩) (v := .slice ap qs.length cp) (by rw [World.cell?, heap_old _ (heap_new _ rfl)]; rfl) (by simp [Value.ownBlock])
  have G2 : Hid (w.grownBy w2 none) := Lib.hid (grown_then (grown_after (grown_after (grown_refl w none))) hg (by rintro j hj; simp only [Value.ownBlock, Option.some.injEq] at hj; exact .inl (by omega)))
  have hrr := ho.rows
  have HQ2 := Lib.hid (HR.out.same G2.out)
  have hall : ((.slice ab b.length cb, b) :: qs : List Row).length ≤ 4 := by have := HAL.out; omega
  have hall1 : 1 ≤ ((.slice ab b.length cb, b) :: qs : List Row).length := by have := HAL.out; omega
  change n2 = ((.slice ab b.length cb, b) :: qs : List Row).length at hn2
  change RowsP _ _ ((.slice ab b.length cb, b) :: qs : List Row) at hrr
  have HR2 := Lib.hid hrr
  subst hn2
  clear ho hg HB1 HR1 HF HO hrr
  generalize ((.slice ab b.length cb, b) :: qs : List Row) = all at *
  go_wp2_with fail
  go_loop [19] (fun i => ∃ k : Nat, i = .int .i64 k ∧ k ≤ all.length) (fun i => all.length - (intOf i).toNat)
  case atStart => exact ⟨0, rfl, Nat.zero_le _⟩
  case round =>
    obtain ⟨k, rfl, hk⟩ := hrel
    by_cases hlt : k < all.length
    · obtain ⟨_, _, hv, _, hc, hrow⟩ := HR2.out
      simp only [Value.slice.injEq] at hv
      obtain ⟨rfl, -, -⟩ := hv
      obtain ⟨b', off', rfl, hx⟩ := RowsP.at hc hlt
      obtain ⟨ak, ck, hvk, -, -, -⟩ := (hrow _ (List.getElem_mem hlt)).1
      have e1 := (HALL.out _ (List.getElem_mem hlt)).1
      rw [hvk, e1] at hx
      have h1 : (k : Int) < (all.length : Int) := by omega
      clear hc hrow hvk e1
      go_wp2_with fail
      go_round
      case rel => exact ⟨k + 1, by go_num, by omega⟩
      case measure => simp [intOf]; omega
    · have h1 : ¬ (k : Int) < (all.length : Int) := by omega
      go_wp2_with fail
      go_loop [30] (fun i => ∃ k : Nat, i = .int .i64 k ∧ k ≤ all.length) (fun i => all.length - (intOf i).toNat)
      case atStart => exact ⟨0, rfl, Nat.zero_le _⟩
      case round =>
        clear h1 hlt hk
        obtain ⟨k, rfl, hk⟩ := hrel
        by_cases hlt : k < all.length
        · obtain ⟨_, _, hv, _, hc, hrow⟩ := HR2.out
          simp only [Value.slice.injEq] at hv
          obtain ⟨rfl, -, -⟩ := hv
          obtain ⟨b', off', rfl, hx⟩ := RowsP.at hc hlt
          have HRK := Lib.hid (hrow _ (List.getElem_mem hlt))
          have HWK := Lib.hid (HALL.out _ (List.getElem_mem hlt))
          have HXK := Lib.hid (HMX.out k hlt)
          have h1 : (k : Int) < (all.length : Int) := by omega
          clear hc hrow
          generalize all[k] = q at *
          by_cases hk0 : k = 0
          · subst hk0
            rw [Nat.add_zero] at hx
            go_wp2_with (go_at_call 37; refine (within_any _ _ _ _ HRK.out.1).mono ?_; rintro e w' ⟨rfl, rfl⟩; rw [HWK.out.2])
            go_round
            case rel => exact ⟨1, by go_num, by omega⟩
            case measure => simp [intOf]; omega
          · have hk1 : (0 : Int) < (k : Int) := by omega
            go_wp2_with (first
              | (go_at_call 37; refine (within_any _ _ _ _ HRK.out.1).mono ?_; rintro e w' ⟨rfl, rfl⟩; rw [HWK.out.2])
              | (go_at_call 58; refine (max_any _ _ _ HRK.out.1 (by rw [HWK.out.1]; exact hn1)).mono ?_; rintro e w' ⟨m, rfl, hm, rfl⟩; have hm0 : ¬ m = 0 := (by obtain ⟨x, hx, h1⟩ := HXK.out (by omega); have := hm.2 x hx; omega); clear hm))
            go_round
            case rel => exact ⟨k + 1, by go_num, by omega⟩
            case measure => simp [intOf]; omega
        · have h1 : ¬ (k : Int) < (all.length : Int) := by omega
          have hq3' : ¬ (3 : Int) < (qs.length : Int) := by omega
          go_wp2_with fail
          go_loopw [10] (fun i wr => ∃ (k m : Nat), i = .int .i64 k ∧ 1 ≤ k ∧ k ≤ max 1 qs.length ∧ wr = w2.drewN m) (fun i _ => qs.length - (intOf i).toNat)
          case atStart => exact ⟨1, 0, rfl, Nat.le_refl _, by omega, rfl⟩
          case round =>
            clear h1 hlt hk
            obtain ⟨k, m, rfl, hk1, hk, rfl⟩ := hrel
            by_cases hlt : k < qs.length
            · have c1 : (w2.drewN m).cell? ⟨w.heap.size, 1, none⟩ = some (.slice ap qs.length cp) := hcell
              obtain ⟨_, _, hv, _, hc, hrow⟩ := HQ2.out
              simp only [Value.slice.injEq] at hv
              obtain ⟨rfl, -, -⟩ := hv
              obtain ⟨b', off', hb', hx⟩ := RowsP.at hc hlt
              obtain ⟨b2, off2, hb2, hx0⟩ := RowsP.at hc (show k - 1 < qs.length by omega)
              subst hb'
              simp only [Option.some.injEq, Addr.mk.injEq, and_true] at hb2
              obtain ⟨rfl, rfl⟩ := hb2
              have HI1 := Lib.hid (hrow _ (List.getElem_mem hlt)).1
              have HI0 := Lib.hid (hrow _ (List.getElem_mem (show k - 1 < qs.length by omega))).1
              have HLT := Lib.hid (asc_adj HA.out (fun q hq => (HP.out q hq).1.1) hk1 hlt)
              have HEQ : Hid ((qs[k - 1]'(by omega)).2.length = (qs[k]).2.length) := Lib.hid (by rw [(HP.out _ (List.getElem_mem _)).1.1, (HP.out _ (List.getElem_mem _)).1.1])
              clear hc hrow
              generalize qs[k] = p1 at *
              generalize qs[k - 1] = p0 at *
              have h1 : (k : Int) < (qs.length : Int) := by omega
              have g1 : IntKind.i64.wrap ((k : Int) - 1) = (k : Int) - 1 := IntWalk.i64_in _ (by omega)
              have g2 : (0 : Int) ≤ (k : Int) - 1 := by omega
              have g3 : ((k : Int) - 1).toNat = k - 1 := by omega
              have g4 : (k : Int) - 1 < (qs.length : Int) := by omega
              have h2 : ¬ (0 : Int) ≤ lexI p0.2 p1.2 := by have := HLT.out; omega
              go_wp2_with fail
              go_quiet ((go_at_call 54; exact quiet_drew ((slcmp_any _ _ _ _ _ (HI0.out.drewN _) (HI1.out.drewN _) HEQ.out).mono (fun e w' h => ⟨h.1, h.2 ▸ Drew.refl _⟩)) (fun m => drew_tail _ _ _ _)))
              go_wp2_with fail
              go_roundw
              case rel => exact ⟨k + 1, _, by go_num, by omega, by omega, rfl⟩
              case measure => simp [intOf]; omega
            · have h1 : ¬ (k : Int) < (qs.length : Int) := by omega
              have c1 : (w2.drewN m).cell? ⟨w.heap.size, 1, none⟩ = some (.slice ap qs.length cp) := hcell
              go_wp2_with fail
              go_ret
              exact ⟨rfl, grown_trans G2.out (grown_drewN _ _ none)⟩

end Go.Proofs.Ytoaoheblaidhmaa
