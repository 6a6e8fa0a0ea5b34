/- Contract: times, the least multiples. -/
import Derived.Test.YtgdnlibklopdiaaSc
import Derived.Test.YtgdnlibklopdiaaWc
namespace Go.Proofs.Ytgdnlibklopdiaa
open Go.RowKit
set_option linter.unusedVariables false

def GivesT (ps : List (List Int)) (v : List Int) (w : World) (e : Ending) (w' : World) : Prop := ∃ r, Least ps v r ∧ GivesO r w e w'
/-- What the loops hold of a period. -/
def PerOk (n : Nat) (p : List Int) : Prop := Nat0 n p ∧ Some1 p ∧ ∀ x ∈ p, x ≤ 16

theorem least_nil_some {v : List Int} (h : zeroB v = true) : Least [] v (some []) := by
  refine ⟨fun x hx => by simpa using List.all_eq_true.1 h x hx, ?_⟩
  intro ks hs
  match ks, hs with
  | [], _ => simp [lexI]
theorem least_nil_none {v : List Int} (h : zeroB v = false) : Least [] v none := by
  intro ks hs
  match ks, hs with
  | [], hs =>
    have : zeroB v = true := List.all_eq_true.2 fun x hx => by simpa using hs x hx
    rw [this] at h
    cases h
theorem subk_step {n j : Nat} {k : Int} {p v zs : List Int} (hp : p.length = n) (hv : v.length = n) (hz : zs.length = n) (hj : j < n)
    (ht : zs.take j = (subk (k + 1) p v).take j) (hd : zs.drop j = (subk k p v).drop j) :
    zs[j]?.getD 0 = (subk k p v)[j]?.getD 0 ∧ (zs.set j (zs[j]?.getD 0 - p[j]?.getD 0)).take (j + 1) = (subk (k + 1) p v).take (j + 1) ∧ (zs.set j (zs[j]?.getD 0 - p[j]?.getD 0)).drop (j + 1) = (subk k p v).drop (j + 1) := by
  have e0 : zs[j]?.getD 0 = (subk k p v)[j]?.getD 0 := by
    have h1 : (zs.drop j)[0]? = ((subk k p v).drop j)[0]? := by rw [hd]
    rw [List.getElem?_drop, List.getElem?_drop] at h1
    simpa using congrArg (fun o => o.getD 0) h1
  refine ⟨e0, ?_, ?_⟩
  · have e1 : zs[j]?.getD 0 - p[j]?.getD 0 = (subk (k + 1) p v)[j]?.getD 0 := by
      rw [e0, subk_at k p v j (by omega) (by omega), subk_at (k + 1) p v j (by omega) (by omega), Int.add_mul]
      omega
    rw [e1]
    exact set_take zs _ j (by rw [hz, subk_len hp hv]) (by rw [subk_len hp hv]; exact hj) ht
  · rw [List.drop_set_of_lt (by omega)]
    have : (zs.drop j).drop 1 = ((subk k p v).drop j).drop 1 := by rw [hd]
    simpa [List.drop_drop, Nat.add_comm] using this
theorem subk_bd {n : Nat} {k : Int} {p v : List Int} {M : Int} (hp : Nat0 n p) (hv : v.length = n) (hk : 0 ≤ k) (hM : ∀ x ∈ v, x ≤ M) : ∀ x ∈ subk k p v, x ≤ M := by
  intro z hz
  obtain ⟨x, hx, y, hy, rfl⟩ := mem_zipWith _ v p z hz
  have h1 := hM x hx
  have h2 := Int.mul_nonneg hk (hp.2 y hy)
  omega
/-- How often a period fits. -/
theorem fits_le {n : Nat} {k : Int} {p v : List Int} {M : Int} (hp : PerOk n p) (hv : v.length = n) (hk : 0 ≤ k) (hM : ∀ x ∈ v, x ≤ M) (h : ∀ x ∈ subk k p v, 0 ≤ x) : k ≤ M := by
  obtain ⟨y, hy, h1⟩ := hp.2.1
  obtain ⟨x, hx, hm⟩ := mem_zipWith_at' (fun a x => a - k * x) v p (by rw [hv, hp.1.1]) y hy
  have h2 := h _ hm
  have h3 := hM x hx
  have h4 := Int.mul_le_mul_of_nonneg_left h1 hk
  omega
theorem ownI_own {w : World} {base : Nat} {v : Value} {xs : List Int} (h : OwnI w base v xs) (h1 : 1 ≤ xs.length) : ∃ g c, v = .slice (some ⟨g, 0, none⟩) xs.length c ∧ base ≤ g ∧ xs.length ≤ c := by
  rcases h.2 with ⟨_, h0⟩ | ⟨g, cap, cur, hv, hb, _, hn, _⟩
  · omega
  · exact ⟨g, cap, hv, hb, hn⟩

theorem subk_lo {n : Nat} {k : Int} {p v : List Int} (hp : PerOk n p) (hv : v.length = n) (hk : 0 ≤ k) (hk' : k ≤ 65) (hM : ∀ x ∈ v, -1000 ≤ x) : ∀ x ∈ subk k p v, -2040 ≤ x := by
  intro z hz
  obtain ⟨x, hx, y, hy, rfl⟩ := mem_zipWith _ v p z hz
  have h1 := hM x hx
  have h2 : k * y ≤ 65 * 16 := Int.mul_le_mul hk' (hp.2.2 y hy) (hp.1.2 y hy) (by omega)
  omega
theorem rows_pair {w : World} {k : Int} {p : Row} (hp : RowOk w p) (hk : -9223372036854775808 ≤ k ∧ k ≤ 9223372036854775807) :
    RowsP ((w.alloc (.cells #[.int .i64 k] 3)).alloc (.cells #[.slice (some ⟨w.heap.size, 0, none⟩) 1 1, p.1] 22)) (.slice (some ⟨w.heap.size + 1, 0, none⟩) 2 2) [(.slice (some ⟨w.heap.size, 0, none⟩) 1 1, [k]), p] := by
  refine rows_blk _ 2 2 (heap_new _ (by show _ = (w.heap.push _).size; simp)) rfl (by decide) rfl ?_
  intro q hq
  simp only [List.mem_cons, List.not_mem_nil, or_false] at hq
  rcases hq with rfl | rfl
  · refine ⟨ints_blk [k] 1 1 (heap_old _ (heap_new _ rfl)) rfl (by decide) (by intro x hx; simp at hx; subst hx; exact hk) rfl, Good.some _ (Nat.le_refl _), fun g' hg => ?_⟩
    simp only [Value.ownBlock, Option.some.injEq] at hg
    subst hg
    exact (Array.getElem?_eq_some_iff.1 (heap_old _ (heap_new _ rfl))).1
  · exact hp.same (grown_after (grown_after (grown_refl _ _)))

set_option maxRecDepth 100000 in
set_option maxHeartbeats 2000000 in
theorem times_any (n : Nat) (hn1 : 1 ≤ n) (hn2 : n ≤ 1000) : ∀ (qs : List Row) (vp vv : Value) (v : List Int) (w : World), RowsP w vp qs → Good vp → RowOk w (vv, v) → v.length = n →
    (∀ q ∈ qs, PerOk n q.2) → (∀ x ∈ v, -1000 ≤ x ∧ x ≤ 64) → qs.length ≤ 100 →
    Calls Try.prog 67 #[vp, vv] w (GivesT (qs.map Prod.snd) v w) := by
  intro qs
  induction qs with
  | nil =>
    intro vp vv v w h hg hr hl hp hb hm
    obtain ⟨a, cap, rfl, -⟩ := h
    have HR := Lib.hid hr
    clear hr hl hp hb hm hg
    go_enter Try.func67, Try.ntmps67
    go_wp2_with fail
    refine (contains0_any _ _ _ HR.out.1).mono ?_
    rintro e w' ⟨rfl, rfl⟩
    by_cases hz : zeroB v = true
    · have HZ := Lib.hid (least_nil_some hz)
      rw [hz]
      clear hz
      go_wp2_with fail
      go_ret2
      exact ⟨some [], HZ.out, _, rfl, OwnI.nil _ _, grown_refl _ _⟩
    · have hz' : zeroB v = false := by simpa using hz
      have HZ := Lib.hid (least_nil_none hz')
      rw [hz']
      clear hz hz'
      go_wp2_with fail
      go_ret2
      exact ⟨none, HZ.out, _, rfl, OwnI.nil _ _, grown_refl _ _⟩
  | cons q qs ih =>
    intro vp vv v w h hg hr hl hp hb hm
    obtain ⟨a, cap, rfl, hlm, hc, hrows⟩ := h
    obtain ⟨b, off, rfl, hx⟩ := RowsP.at hc (show 0 < (q :: qs).length by simp)
    rw [Nat.add_zero] at hx
    obtain ⟨ta, tc, hrun, hrt, hgt⟩ : ∃ a' c', (∀ w', (Instr.slice 23 (.slice (some ⟨b, off, none⟩) (qs.length + 1) cap) (some (.int .i64 1)) none none).run Try.prog w' = .ok (.slice a' qs.length c') w') ∧ RowsP w (.slice a' qs.length c') qs ∧ Good (.slice a' qs.length c') :=
      rows_tail1 (k := 1) ⟨_, cap, rfl, hlm, hc, hrows⟩ hg (by simp)
    have hcq := hg.2 _ _ _ rfl
    have Q1 : Hid (RowOk w q) := Lib.hid (hrows q (by simp))
    have P1 : Hid (PerOk n q.2) := Lib.hid (hp q (by simp))
    have PS : Hid (∀ q ∈ qs, PerOk n q.2) := Lib.hid (fun r hr => hp r (by simp [hr]))
    have T1 := Lib.hid hrt; have T2 := Lib.hid hgt; have HR := Lib.hid hr; have HL := Lib.hid hl; have HB := Lib.hid hb; have HM : Hid (qs.length ≤ 100) := Lib.hid (by simp at hm; omega)
    have IH := Lib.hid ih
    have h0 : ¬ (qs.length : Int) + 1 = 0 := by omega
    have j1 : (1 : Int) ≤ (qs.length : Int) + 1 := by omega
    have j2 : (qs.length : Int) + 1 ≤ (cap : Int) := by simp at hcq; omega
    clear hrt hgt hr hl hb hm hp hrows hc hg ih hcq hlm
    obtain ⟨qv, p⟩ := q
    obtain ⟨⟨aq, cq, hqv, -, -, -⟩, -, -⟩ := Q1.out
    dsimp only at hqv hx P1
    subst hqv
    go_enter Try.func67, Try.ntmps67
    go_wp2_with fail
    refine (clone_any _ _ _ HR.out (by rw [HL.out]; exact hn1) (by rw [HL.out]; omega)).mono ?_
    rintro e w1 ⟨v1, rfl, ho, hg⟩
    obtain ⟨g, c, rfl, hbg, hvc⟩ := ownI_own ho (by rw [HL.out]; exact hn1)
    have HO : Hid (OwnI w1 w.heap.size (.slice (some ⟨g, 0, none⟩) v.length c) (subk 0 p v)) := Lib.hid (by rw [subk_zero p v (by rw [P1.out.1.1, HL.out])]; exact ho)
    have HG := Lib.hid hg; have BG := Lib.hid hbg
    clear ho hg hbg hvc
    go_wp2_with fail
    go_loopw [6] (fun i wr => ∃ k : Nat, i = .int .i64 k ∧ k ≤ 65 ∧ Hid (OwnI wr w.heap.size (.slice (some ⟨g, 0, none⟩) v.length c) (subk (k : Int) p v)) ∧ Hid (w.grownBy wr none) ∧ Hid (Fewer (qs.map Prod.snd) p v (k : Int))) (fun i _ => 66 - (intOf i).toNat)
    case atStart => exact ⟨0, rfl, by omega, HO, HG, Lib.hid (Fewer.zero _ _ _)⟩
    case round =>
      obtain ⟨k, rfl, hk, ho, hg, hf⟩ := hrel
      rename World => wk
      have SL : Hid ((subk (k : Int) p v).length = n) := Lib.hid (subk_len P1.out.1.1 HL.out)
      have SB : Hid (∀ x ∈ subk (k : Int) p v, -2040 ≤ x ∧ x ≤ 64) := Lib.hid (fun x hx => ⟨subk_lo P1.out HL.out (by omega) (by omega) (fun x hx => (HB.out x hx).1) x hx, subk_bd P1.out.1 HL.out (by omega) (fun x hx => (HB.out x hx).2) x hx⟩)
      have hrow := ho.out.row (fun x hx => by have := SB.out x hx; omega)
      have HRW := Lib.hid hrow
      clear hrow
      go_wp2_with fail
      refine (min_any _ _ _ HRW.out.1 (by rw [SL.out]; exact hn1)).mono ?_
      rintro e w2 ⟨m, rfl, hm, rfl⟩
      by_cases h0m : 0 ≤ m
      · have HNN : Hid (∀ x ∈ subk (k : Int) p v, 0 ≤ x) := Lib.hid (fun x hx => Int.le_trans h0m (hm.2 x hx))
        have hk64 : k ≤ 64 := by have := fits_le P1.out HL.out (by omega) (fun x hx => (HB.out x hx).2) HNN.out; omega
        clear hm
        go_wp2_with fail
        refine (IH.out _ _ (subk (k : Int) p v) _ (T1.out.same hg.out) T2.out HRW.out SL.out PS.out (fun x hx => ⟨by have := HNN.out x hx; omega, (SB.out x hx).2⟩) HM.out).mono ?_
        rintro e w3 ⟨r, hlst, v3, rfl, ho3, hg3⟩
        have HLS := Lib.hid hlst
        have G3 := Lib.hid (grown_trans hg.out hg3)
        have O3 := Lib.hid (ho.out.kept hg3 (by simp))
        clear hlst
        cases r with
        | none =>
          clear ho3 hg3
          dsimp only [Option.isSome_none]
          have hlp : Hid (p.length = n) := Lib.hid P1.out.1.1
          have hx3 := G3.out.cell hx (by simp)
          have hpb : p.length ≤ 1000 := by rw [P1.out.1.1]; exact hn2
          go_wp2_with fail
          go_loopw [41] (fun i wr => ∃ (j : Nat) (zs : List Int), i = .int .i64 j ∧ j ≤ p.length ∧ Hid (zs.length = n ∧ zs.take j = (subk ((k : Int) + 1) p v).take j ∧ zs.drop j = (subk (k : Int) p v).drop j) ∧ Hid (OwnI wr w.heap.size (.slice (some ⟨g, 0, none⟩) v.length c) zs) ∧ Hid (w.grownBy wr none)) (fun i _ => p.length - (intOf i).toNat)
          case atStart => exact ⟨0, _, rfl, Nat.zero_le _, Lib.hid ⟨SL.out, by simp, rfl⟩, O3, G3⟩
          case round =>
            obtain ⟨j, zs, rfl, hj, hz, hoz, hgz⟩ := hrel
            rename World => wj
            by_cases hlt : j < p.length
            · have ST := Lib.hid (subk_step P1.out.1.1 HL.out hz.out.1 (by have := hlp.out; omega) hz.out.2.1 hz.out.2.2)
              obtain ⟨⟨_, _, hv, _, _, hcp⟩, -, -⟩ := Q1.out.same hgz.out
              simp only [Value.slice.injEq] at hv
              obtain ⟨rfl, -, -⟩ := hv
              obtain ⟨b', off', rfl, hx'⟩ := Ints.at hcp hlt
              obtain ⟨hcell, hfr⟩ := hoz.out.cell j (by have := hz.out.1; have := hlp.out; omega)
              have hyy := mem_at P1.out.1.2 hlt
              have hyz := mem_at P1.out.2.2 hlt
              have hxx : 0 ≤ zs[j]?.getD 0 ∧ zs[j]?.getD 0 ≤ 64 := by
                rw [ST.out.1]
                have hjl : j < (subk (k : Int) p v).length := by rw [SL.out]; have := hlp.out; omega
                exact ⟨mem_at HNN.out hjl, (mem_at SB.out hjl).2⟩
              have h1 : (j : Int) < (p.length : Int) := by omega
              have h2 : (j : Int) < (v.length : Int) := by have := hlp.out; have := HL.out; omega
              clear hcp
              generalize hX : zs[j]?.getD 0 = x at *
              generalize hY : p[j]?.getD 0 = y at *
              have HXY := Lib.hid (And.intro hX hY)
              clear hX hY
              go_wp2_with fail
              go_roundw
              case rel => exact ⟨j + 1, zs.set j (x - y), by go_num, by omega, Lib.hid ⟨by rw [List.length_set]; exact hz.out.1, ST.out.2.1, ST.out.2.2⟩, Lib.hid (hoz.out.stored j _), Lib.hid (grown_then hgz.out (grown_set _ _ _) (by rintro j ⟨⟩; exact .inl BG.out))⟩
              case measure => simp [intOf]; omega
            · have hq : zs = subk ((k : Int) + 1) p v := by
                have h2 := hz.out.1
                have h3 := hlp.out
                have h1 := hz.out.2.1
                rwa [List.take_of_length_le (by omega), List.take_of_length_le (by rw [subk_len P1.out.1.1 HL.out]; omega)] at h1
              subst hq
              have h1 : ¬ (j : Int) < (p.length : Int) := by omega
              go_wp2_with fail
              go_roundw
              case rel => exact ⟨k + 1, by go_num, by omega, hoz, hgz, Lib.hid (hf.out.next HLS.out)⟩
              case measure => simp [intOf]; omega
        | some ks =>
          dsimp only [Option.isSome_some, Option.getD_some] at ho3 ⊢
          obtain ⟨a3, c3, rfl⟩ := ho3.slice
          have KL := Lib.hid (HLS.out.1.le (fun r hr => by obtain ⟨q, hq, rfl⟩ := List.mem_map.1 hr; exact ⟨(PS.out q hq).1, (PS.out q hq).2.1⟩) SL.out (fun x hx => (SB.out x hx).2))
          have KN : Hid (ks.length ≤ 100) := Lib.hid (by have := HLS.out.1.len; rw [List.length_map] at this; have := HM.out; omega)
          have R3 := Lib.hid (ho3.row (fun x hx => by have := KL.out x hx; omega))
          clear ho3 hg3
          go_wp2_with fail
          refine (concat_any _ [(.slice (some ⟨w3.heap.size, 0, none⟩) 1 1, [(k : Int)]), (.slice a3 ks.length c3, ks)] _ (rows_pair (w := w3) R3.out (by omega)) (by have := KN.out; simp; omega)).mono ?_
          rintro e w4 ⟨v4, rfl, ho4, hg4⟩
          rw [show List.flatMap Prod.snd [((.slice (some ⟨w3.heap.size, 0, none⟩) 1 1, [(k : Int)]) : Row), (.slice a3 ks.length c3, ks)] = (k : Int) :: ks by simp] at ho4
          have O4 := Lib.hid ho4
          have G4 := Lib.hid (grown_trans (grown_after (grown_after G3.out)) hg4)
          clear ho4 hg4
          go_wp2_with fail
          go_ret2
          exact ⟨some ((k : Int) :: ks), hf.out.found (by omega) HLS.out, _, rfl, O4.out.mono (grown_after (grown_after G3.out)).size, G4.out⟩
      · have hneg : m < 0 := by omega
        have HF := Lib.hid (hf.out.none (ps := qs.map Prod.snd) P1.out.1 (fun r hr => by obtain ⟨q, hq, rfl⟩ := List.mem_map.1 hr; exact (PS.out q hq).1) HL.out ⟨m, hm.1, hneg⟩ (by omega))
        clear hm
        go_wp2_with fail
        go_ret2
        exact ⟨none, HF.out, _, rfl, OwnI.nil _ _, hg.out⟩

end Go.Proofs.Ytgdnlibklopdiaa
