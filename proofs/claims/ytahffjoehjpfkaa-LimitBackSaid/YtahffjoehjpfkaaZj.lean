/- limit: one, Check of valid limits, limited, both. -/
import Derived.Test.YtahffjoehjpfkaaZi
import Derived.Test.YtahffjoehjpfkaaZx
namespace Go.Proofs.Ytahffjoehjpfkaa
open Go.RowKit
set_option linter.unusedVariables false

theorem one_ok {fc : FuncId} {P : List Int → Bool} (hf : FitsOk fc P) (v : Value) (xs : List Int) (n : Nat) (w : World) (h : Ints w v xs) (hl : xs.length = n) (hp : P xs = true) :
    Calls Try.prog 29 #[.int .i64 n, v, .func (.func fc) #[] #[]] w fun e w' => e = .returned (.int .i64 0) ∧ w' = w := by
  have H := Lib.hid h; have HF := Lib.hid hf.2; have HP := Lib.hid hp
  have hent := hf.1
  unfold Enters at hent
  subst hl
  obtain ⟨a, cap, rfl, -⟩ := h
  clear hf hp
  go_enter Try.func29, Try.ntmps29
  go_wp2_with fail
  refine (HF.out _ _ _ H.out).mono ?_
  rintro e w' ⟨rfl, rfl⟩
  rw [HP.out]
  go_wp2_with fail
  go_ret
  exact ⟨rfl, rfl⟩
theorem fits_valid : FitsOk 30 validB := ⟨enters_of Try.func30 (by kernel_rfl) rfl, fun v xs w h => valid_any v xs w h⟩
theorem fits_finite : FitsOk 34 finiteB := ⟨enters_of Try.func34 (by kernel_rfl) rfl, fun v xs w h => finite_any v xs w h⟩
/-- Limits that are valid. -/
structure LimOk (n : Nat) (K : List (List Int)) : Prop where
  n1 : 1 ≤ n
  n6 : n ≤ 6
  few : K.length ≤ 256
  rows : ∀ v ∈ K, v.length = n ∧ validB v = true
  asc : Asc K
  apart : K.Pairwise (fun a b => leqI a b = false)
set_option maxRecDepth 20000 in
set_option maxHeartbeats 2000000 in
theorem check_ok (n : Nat) (v : Value) (ps : List Row) (w : World) (h : RowsP w v ps) (hg : Good v) (hk : LimOk n (ps.map Prod.snd)) :
    Calls Try.prog 13 #[.int .i64 n, v] w fun e w' => e = .returned (.int .i64 0) ∧ w.grownBy w' none := by
  have H := Lib.hid h; have HGD := Lib.hid hg; have HK := Lib.hid hk
  obtain ⟨a, cap, rfl, -, -, -⟩ := h
  have hn1 := hk.n1
  have hn6 := hk.n6
  have hfew : ps.length ≤ 256 := by have := hk.few; simpa using this
  have HN : Hid (∀ p ∈ ps, p.2.length = n ∧ validB p.2 = true) := Lib.hid (fun p hp => hk.rows _ (List.mem_map_of_mem hp))
  have HASC : Hid (∀ i j, (hi : i < ps.length) → (hj : j < ps.length) → i < j → lexI (ps[i]).2 (ps[j]).2 = -1) := Lib.hid (fun i j hi hj hij => by
    have h5 := List.pairwise_iff_getElem.1 hk.asc i j (by simpa using hi) (by simpa using hj) hij
    simpa using h5)
  have HAP : Hid (∀ i j, (hi : i < ps.length) → (hj : j < ps.length) → i < j → leqI (ps[i]).2 (ps[j]).2 = false) := Lib.hid (fun i j hi hj hij => by
    have h5 := List.pairwise_iff_getElem.1 hk.apart i j (by simpa using hi) (by simpa using hj) hij
    simpa using h5)
  clear hg hk HK
  have G0 := Lib.hid (grown_refl w none)
  go_enter Try.func13, Try.ntmps13
  go_wp2_with fail
  go_loopw [21] (fun i wr => ∃ k : Nat, i = .int .i64 k ∧ k ≤ ps.length ∧ Hid (w.grownBy wr none)) (fun i _ => ps.length - (intOf i).toNat)
  case atStart => exact ⟨0, rfl, Nat.zero_le _, G0⟩
  case round =>
    clear G0
    obtain ⟨k, rfl, hk, hg⟩ := hrel
    rename World => wk
    by_cases hlt : k < ps.length
    · have h1 : (k : Int) < (ps.length : Int) := by omega
      have i1 : IntKind.i64.wrap ((k : Int) + 1) = (k : Int) + 1 := IntWalk.i64_in _ (by omega)
      obtain ⟨_, _, hv, _, hc, hrow⟩ := H.out.same hg.out
      simp only [Value.slice.injEq] at hv
      obtain ⟨rfl, -, rfl⟩ := hv
      obtain ⟨b, off, rfl, hx⟩ := RowsP.at hc hlt
      have HR := Lib.hid (hrow _ (List.getElem_mem hlt))
      have HQ := Lib.hid (HN.out _ (List.getElem_mem hlt))
      by_cases hk0 : k = 0
      · subst hk0
        rw [Nat.add_zero] at hx
        clear hc hrow
        generalize (ps[0]) = q at *
        obtain ⟨qv, xs⟩ := q
        obtain ⟨aq, cq, hqv⟩ : ∃ a c, qv = .slice a xs.length c := by obtain ⟨⟨a, c, h, -⟩, -⟩ := HR.out; exact ⟨a, c, h⟩
        subst hqv
        dsimp only at hx HR HQ
        go_wp2_with fail
        refine (one_ok fits_valid _ xs n _ HR.out.1 HQ.out.1 HQ.out.2).mono ?_
        rintro e w' ⟨rfl, rfl⟩
        go_wp2_with fail
        go_roundw
        case rel => exact ⟨1, by go_num, by omega, hg⟩
        case measure => (simp [intOf]; try omega)
      · obtain ⟨j, rfl⟩ : ∃ j, k = j + 1 := ⟨k - 1, by omega⟩
        have hj : j < ps.length := by omega
        have HCM : Hid (compareI (ps[j]).2 (ps[j + 1]).2 = -1) := Lib.hid (by
          rw [cmp_len ((HN.out _ (List.getElem_mem hj)).1.trans (HN.out _ (List.getElem_mem hlt)).1.symm)]
          exact HASC.out j (j + 1) hj hlt (by omega))
        have HRJ := Lib.hid (hrow _ (List.getElem_mem hj))
        obtain ⟨b', off', hb', hx'⟩ := RowsP.at hc hj
        simp only [Option.some.injEq, Addr.mk.injEq, and_true] at hb'
        obtain ⟨rfl, rfl⟩ := hb'
        have i2 : IntKind.i64.wrap ((j : Int) + 1 - 1) = (j : Int) := by rw [show (j : Int) + 1 - 1 = j by omega]; exact IntWalk.i64_in _ (by omega)
        have h3 : (0 : Int) < (j : Int) + 1 := by omega
        have h4 : (j : Int) < (ps.length : Int) := by omega
        clear hc hrow
        generalize (ps[j + 1]) = q at *
        generalize (ps[j]) = r at *
        obtain ⟨qv, xs⟩ := q
        obtain ⟨rv, ys⟩ := r
        obtain ⟨aq, cq, hqv⟩ : ∃ a c, qv = .slice a xs.length c := by obtain ⟨⟨a, c, h, -⟩, -⟩ := HR.out; exact ⟨a, c, h⟩
        obtain ⟨ar, cr, hrv⟩ : ∃ a c, rv = .slice a ys.length c := by obtain ⟨⟨a, c, h, -⟩, -⟩ := HRJ.out; exact ⟨a, c, h⟩
        subst hqv hrv
        dsimp only at hx hx' HR HRJ HQ HCM
        go_wp2_with fail
        refine (one_ok fits_valid _ xs n _ HR.out.1 HQ.out.1 HQ.out.2).mono ?_
        rintro e w' ⟨rfl, rfl⟩
        go_wp2_with fail
        refine (compare_any _ _ ys xs _ HRJ.out.1 HR.out.1).mono ?_
        rintro e w' ⟨rfl, rfl⟩
        rw [HCM.out]
        go_wp2_with fail
        go_roundw
        case rel => exact ⟨j + 1 + 1, by go_num, by omega, hg⟩
        case measure => (simp [intOf]; try omega)
    · have h1 : ¬ (k : Int) < (ps.length : Int) := by omega
      go_wp2_with fail
      go_loopw [47] (fun i wr => ∃ k : Nat, i = .int .i64 k ∧ k ≤ ps.length ∧ Hid (w.grownBy wr none)) (fun i _ => ps.length - (intOf i).toNat)
      case atStart => exact ⟨0, rfl, Nat.zero_le _, hg⟩
      case round =>
        clear hg
        obtain ⟨t, rfl, ht, hg⟩ := hrel
        rename World => wt
        by_cases hlt2 : t < ps.length
        · have h2 : (t : Int) < (ps.length : Int) := by omega
          have i1 : IntKind.i64.wrap ((t : Int) + 1) = (t : Int) + 1 := IntWalk.i64_in _ (by omega)
          have h3 : (t : Int) + 1 ≤ (ps.length : Int) := by omega
          obtain ⟨a', c', hsl, hrs, hgs⟩ := rows_tail1 (H.out.same hg.out) HGD.out (k := t + 1) (by omega)
          have hsl2 : ∀ w', (Instr.slice 28 (.slice a ps.length cap) (some (.int .i64 ((t : Int) + 1))) none none).run Try.prog w' = .ok (.slice a' (ps.length - (t + 1)) c') w' := fun w' => hsl w'
          clear hsl
          obtain ⟨_, _, hv, _, hc, hrow⟩ := H.out.same hg.out
          simp only [Value.slice.injEq] at hv
          obtain ⟨rfl, -, rfl⟩ := hv
          obtain ⟨b, off, rfl, hx⟩ := RowsP.at hc hlt2
          have HR := Lib.hid (hrow _ (List.getElem_mem hlt2))
          have HQ := Lib.hid (HN.out _ (List.getElem_mem hlt2)).1
          have HRS := Lib.hid hrs
          have HND : Hid (∀ q ∈ ps.drop (t + 1), q.2.length = n) := Lib.hid (fun q hq => (HN.out q (List.mem_of_mem_drop hq)).1)
          have HNO : Hid ((ps.drop (t + 1)).any (fun q => leqI (ps[t]).2 q.2) = false) := Lib.hid (by
            rw [List.any_eq_false]
            intro q hq
            obtain ⟨i, hi, rfl⟩ := List.getElem_of_mem hq
            rw [List.getElem_drop]
            have h5 : i < ps.length - (t + 1) := by simpa using hi
            rw [HAP.out t (t + 1 + i) hlt2 (by omega) (by omega)]
            simp)
          clear hc hrow hrs hgs
          generalize (ps[t]) = q at *
          obtain ⟨qv, xs⟩ := q
          obtain ⟨aq, cq, hqv⟩ : ∃ a c, qv = .slice a xs.length c := by obtain ⟨⟨a, c, h, -⟩, -⟩ := HR.out; exact ⟨a, c, h⟩
          subst hqv
          dsimp only at hx HR HQ HNO
          go_wp2_with fail
          refine (contains_any _ _ _ xs n _ HRS.out HND.out HR.out HQ.out).mono ?_
          rintro e w5 ⟨rfl, hg5⟩
          rw [HNO.out]
          have HG5 := Lib.hid (grown_trans hg.out hg5)
          clear hg5
          go_wp2_with fail
          go_roundw
          case rel => exact ⟨t + 1, by go_num, by omega, HG5⟩
          case measure => (simp [intOf]; try omega)
        · have h2 : ¬ (t : Int) < (ps.length : Int) := by omega
          go_wp2_with fail
          go_ret
          exact ⟨rfl, hg.out⟩
theorem both_ok (n : Nat) (va vb : Value) (ps rs : List Row) (w : World) (h : RowsP w va ps) (hg : Good va) (hk : LimOk n (ps.map Prod.snd)) (h' : RowsP w vb rs) (hg' : Good vb) (hk' : LimOk n (rs.map Prod.snd)) :
    Calls Try.prog 39 #[.int .i64 n, va, vb] w fun e w' => e = .returned (.int .i64 0) ∧ w.grownBy w' none := by
  have H := Lib.hid h; have HG := Lib.hid hg; have HK := Lib.hid hk; have H' := Lib.hid h'; have HG' := Lib.hid hg'; have HK' := Lib.hid hk'
  obtain ⟨a, cap, rfl, -, -, -⟩ := h
  obtain ⟨a', cap', rfl, -, -, -⟩ := h'
  clear hg hk hg' hk'
  go_enter Try.func39, Try.ntmps39
  go_wp2_with fail
  refine (check_ok n _ ps _ H.out HG.out HK.out).mono ?_
  rintro e w1 ⟨rfl, hg1⟩
  have G1 := Lib.hid hg1
  clear hg1
  go_wp2_with fail
  refine (check_ok n _ rs _ (H'.out.same G1.out) HG'.out HK'.out).mono ?_
  rintro e w2 ⟨rfl, hg2⟩
  have G2 := Lib.hid (grown_trans G1.out hg2)
  clear hg2
  go_wp2_with fail
  have hg3 := World.grownBy_alloc w2 (.cells #[.int .i64 0, .int .i64 0] 30) none
  refine (or_any w2.heap.size 2 0 0 _ (by rw [World.cell?, heap_new _ rfl]; rfl) (by rw [World.cell?, heap_new _ rfl]; rfl)).mono ?_
  rintro e w3 ⟨rfl, rfl⟩
  have G3 := Lib.hid (grown_trans G2.out hg3)
  clear hg3
  go_wp2_with fail
  go_ret
  exact ⟨rfl, G3.out⟩
/-- What limited returns of a list that is not too long. -/
def LimTo (rs : List (List Int)) (w : World) (e : Ending) (w' : World) : Prop := ∃ v qs, e = .returned (.tuple #[v, .int .i64 0]) ∧ RowsP w' v qs ∧ Good v ∧ qs.map Prod.snd = rs ∧ w.grownBy w' none ∧ NewR w.heap.size v qs
theorem limited_any (v : Value) (qs : List Row) (w : World) (h : RowsP w v qs) (hl : qs.length ≤ 256) (hr : ∀ q ∈ qs, 1 ≤ q.2.length ∧ q.2.length ≤ 1000) :
    Calls Try.prog 36 #[v] w (LimTo (qs.map Prod.snd) w) := by
  have HB := Lib.hid (lists_any v qs w h (by omega) hr)
  obtain ⟨a, cap, rfl, -, -, -⟩ := h
  have h1 : ¬ (256 : Int) < (qs.length : Int) := by omega
  clear hr hl
  go_enter Try.func36, Try.ntmps36
  go_wp2_with fail
  refine HB.out.mono ?_
  rintro e w' ⟨u, rs, rfl, hr, hgd, hm, hg, hnew⟩
  have X1 := Lib.hid hr; have X2 := Lib.hid hgd; have X3 := Lib.hid hm; have X4 := Lib.hid hg; have X5 := Lib.hid hnew
  clear hr hgd hm hg hnew
  go_wp2_with fail
  go_ret2
  exact ⟨_, rs, rfl, X1.out, X2.out, X3.out, X4.out, X5.out⟩
end Go.Proofs.Ytahffjoehjpfkaa
