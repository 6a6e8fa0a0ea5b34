/- WordPlaces: for every input it answers true. -/
import Derived.Test.YtiajngnjklbgkaaWs
namespace Go.Proofs.Ytiajngnjklbgkaa
open Go.ChangeShapes Go.WideShapes Go.ChangeAt Go.RowKit
set_option linter.unusedVariables false

theorem places_least (B : List Int) : ∀ (b a pre : List Int) (before : Int) (qs : List Int), B = pre ++ b → (pre.length : Int) ≤ before + 1 → provesL B a qs before = true →
    ∃ ps, placesL a b pre.length = some ps ∧ ps.length = qs.length ∧ ∀ i, i < qs.length → ps[i]?.getD 0 ≤ qs[i]?.getD 0
  | b, [], pre, before, qs, hB, hs, h => by
    cases qs with
    | nil => exact ⟨[], by simp [placesL], rfl, by simp⟩
    | cons q qs => simp [provesL] at h
  | b, x :: xs, pre, before, [], hB, hs, h => by simp [provesL] at h
  | [], x :: xs, pre, before, q :: qs, hB, hs, h => by
    unfold provesL at h
    simp only [Bool.and_eq_true, decide_eq_true_eq] at h
    have : B.length = pre.length := by rw [hB]; simp
    omega
  | y :: ys, x :: xs, pre, before, q :: qs, hB, hs, h => by
    have hp : (pre ++ [y]).length = pre.length + 1 := by simp
    have hB' : B = (pre ++ [y]) ++ ys := by rw [hB]; simp
    have hy : B[pre.length]?.getD 0 = y := by rw [hB]; simp
    have h' := h
    unfold provesL at h
    simp only [Bool.and_eq_true, decide_eq_true_eq, beq_iff_eq] at h
    obtain ⟨⟨⟨h1, h2⟩, h3⟩, h4⟩ := h
    unfold placesL
    split
    · next e =>
      obtain ⟨ps, e1, e2, e3⟩ := places_least B ys xs (pre ++ [y]) q qs hB' (by rw [hp]; omega) h4
      rw [hp] at e1
      refine ⟨(pre.length : Int) :: ps, by rw [e1]; rfl, by simp [e2], fun i hi => ?_⟩
      cases i with
      | zero => simp; omega
      | succ i => simpa using e3 i (by simpa using hi)
    · next e =>
      have hne : q ≠ (pre.length : Int) := by
        intro hq
        rw [hq] at h3
        simp only [Int.toNat_natCast] at h3
        exact e (h3.symm.trans hy)
      obtain ⟨ps, e1, e2, e3⟩ := places_least B ys (x :: xs) (pre ++ [y]) (pre.length : Int) (q :: qs) hB' (by rw [hp]; omega) (by
        unfold provesL
        simp only [Bool.and_eq_true, decide_eq_true_eq, beq_iff_eq]
        exact ⟨⟨⟨by omega, h2⟩, h3⟩, h4⟩)
      rw [hp] at e1
      exact ⟨ps, e1, e2, e3⟩
termination_by b a => b.length + a.length
theorem embed_least {a b qs : List Int} (h : provesW a b qs = true) : ∃ ps, embedR a b = some ps ∧ ps.length = qs.length ∧ ∀ i, i < qs.length → ps[i]?.getD 0 ≤ qs[i]?.getD 0 := by
  unfold provesW at h
  rw [Bool.and_eq_true] at h
  obtain ⟨ps, h1, h2⟩ := places_least b b a [] (-1) qs rfl (by decide) h.2
  exact ⟨ps, by unfold embedR; rw [if_pos h.1]; exact h1, h2⟩
theorem OwnI.opened' {w : World} {base : Nat} {v : Value} {xs : List Int} (h : OwnI w base v xs) : ∃ a c, v = .slice a xs.length c := by
  rcases h.2 with ⟨hv, h0⟩ | ⟨g, cap, cur, hv, _⟩
  · exact ⟨none, 0, by rw [hv, h0]⟩
  · exact ⟨_, cap, hv⟩

set_option maxRecDepth 100000 in
set_option maxHeartbeats 4000000 in
theorem walkWordPlaces (a0 : Option Addr) (len0 cap0 : Nat) (z0 : List Int) (w : World) (w0 : IsRow .i64 w a0 len0 cap0 z0) :
    Calls Try.prog 7 #[.slice a0 len0 cap0] w fun e w' => e = .returned (.bool true) ∧ Below w.heap.size w w' := by
  obtain ⟨hI, hlen⟩ := w0.ints
  generalize z0.take len0 = zs at hI hlen
  subst hlen
  have HI := Lib.hid hI
  clear hI w0
  by_cases hfew : (zs.length : Int) ≤ 400
  · go_enter Try.func7, Try.ntmps7
    go_wp2_with fail
    refine (awake02_any _).mono ?_
    rintro e w1 ⟨rfl, hg⟩
    have HG := Lib.hid hg
    clear hg
    go_wp2_with fail
    refine (few_any _ _ _ _).mono ?_
    rintro e w2 ⟨rfl, rfl⟩
    rw [decide_eq_true hfew]
    go_wp2_with fail
    refine (new_st (HI.out.same HG.out) HG.out).mono ?_
    rintro e w3 ⟨p, d, rfl, hs⟩
    have HS := Lib.hid hs
    clear hs HG HI
    go_wp2_with fail
    refine (word_st HS.out 2 4 (by omega) (by omega) (by omega) (by omega)).mono ?_
    rintro e w4 ⟨va, A, rfl, hlA, hpA, hv, hs, hg⟩
    have Vva := Lib.hid hv; replace HS := Lib.hid hs; have LA := Lib.hid hlA; have PA := Lib.hid hpA
    clear hv hs hg hlA hpA
    go_wp2_with fail
    refine (word_st HS.out 2 9 (by omega) (by omega) (by omega) (by omega)).mono ?_
    rintro e w5 ⟨vb, B, rfl, hlB, hpB, hv, hs, hg⟩
    replace Vva := Lib.hid (Vva.out.deal hg)
    have Vvb := Lib.hid hv; replace HS := Lib.hid hs; have LB := Lib.hid hlB; have PB := Lib.hid hpB
    clear hv hs hg hlB hpB
    go_wp2_with fail
    have HD := Lib.hid HS.out.lt
    refine (embedW_any _ _ _ _ _ Vva.out.1.1 Vvb.out.1.1).mono ?_
    rintro e w6 ⟨vp, rfl, ho, hg⟩
    replace Vva := Lib.hid (Vva.out.step hg)
    replace Vvb := Lib.hid (Vvb.out.step hg)
    replace HS := Lib.hid (HS.out.step hg)
    have VP := Lib.hid (ho.rvec embed_bd HD.out)
    have hgr : True := trivial
    clear hg HD ho
    obtain ⟨aa, ca, rfl, -⟩ := Vva.out.slice
    have hla : A.length ≤ 4 := by have := LA.out; omega
    cases hR : embedR A B with
    | none =>
      rw [hR] at VP
      dsimp only [Option.getD_none, Option.isSome_none] at VP ⊢
      have HNO : Hid (∀ zs, provesW A B zs = false) := Lib.hid (fun zs => by
        cases h : provesW A B zs with
        | false => rfl
        | true =>
          obtain ⟨ps', e1, _⟩ := embed_least h
          rw [hR] at e1
          cases e1)
      clear hR
      go_wp2_with fail
      go_loopw [8] (fun i wr => ∃ k : Nat, i = .int .i64 k ∧ k ≤ 20 ∧ Hid (Deck wr p d) ∧ Hid (w6.grownBy wr (some d))) (fun i _ => 20 - (intOf i).toNat)
      case atStart => exact ⟨0, rfl, by omega, Lib.hid HS.out.1, Lib.hid (grown_refl _ _)⟩
      case round =>
        obtain ⟨k, rfl, hk, hd, hg⟩ := hrel
        rename World => wk
        by_cases hlt : k < 20
        · have h1 : (k : Int) < 20 := by omega
          go_wp2_with fail
          go_loopw [9, 10, 38] (fun v t i wq => ∃ (m : Nat) (y : Int) (zs : List Int), i = .int .i64 m ∧ m ≤ A.length ∧ t = .int .i64 y ∧ 0 ≤ y ∧ y ≤ 10 * (m : Int) ∧ zs.length = m ∧ Hid (∀ z ∈ zs, -9223372036854775808 ≤ z ∧ z ≤ 9223372036854775807) ∧ Hid (OwnI wq wk.heap.size v zs) ∧ Hid (Deck wq p d) ∧ Hid (wk.grownBy wq (some d))) (fun _ _ i _ => A.length - (intOf i).toNat)
          case atStart => exact ⟨0, 0, [], rfl, Nat.zero_le _, rfl, by omega, by omega, rfl, Lib.hid (by simp), Lib.hid (OwnI.nil _ _), hd, Lib.hid (grown_refl _ _)⟩
          case round =>
            obtain ⟨m, y, zs, rfl, hm, rfl, hy0, hy1, hzl, hzb, hzo, hd2, hg2⟩ := hrel
            by_cases hlm : m < A.length
            · have i1 : (m : Int) < (A.length : Int) := by omega
              go_wp2_with fail
              refine (next_any p d 3 _ hd2.out (by omega) (by omega)).mono ?_
              rintro e w20 ⟨t, rfl, ht0, ht1, hd3, hg3⟩
              have D3 := Lib.hid hd3
              have G3 := Lib.hid (grown_then hg2.out hg3 (fun j hj => .inr hj))
              have O3 := Lib.hid (hzo.out.kept hg3 (fun j hj => by cases hj; exact Nat.lt_of_lt_of_le hd.out.lt (Nat.le_refl _)))
              clear hd3 hg3
              have i2 : IntKind.i64.wrap (y + t) = y + t := IntWalk.i64_in _ (by omega)
              have i3 : IntKind.i64.wrap (y + t + 1) = y + t + 1 := IntWalk.i64_in _ (by omega)
              have O3' := Lib.hid (O3.out.kept (World.grownBy_alloc w20 (.cells #[.int .i64 (y + t)] 3) none) (by simp))
              have S3 := Nat.le_trans G3.out.size (World.grownBy_alloc w20 (.cells #[.int .i64 (y + t)] 3) none).size
              have hz12 : zs.length ≤ 1000000000000 := by omega
              go_wp2_with (at_builtin; refine app_int rfl _ _ rfl wk.heap.size _ zs rfl O3'.out w20.heap.size (y + t) rfl (cell_new rfl) hz12 S3 ?_)
              intro v4 w21 ho4 hg4
              have O4 := Lib.hid ho4
              have D4 := Lib.hid ((D3.out.kept (World.grownBy_alloc _ _ none) (by simp)).kept hg4 (fun j hj => Nat.lt_of_lt_of_le hd.out.lt (O3.out.fresh j hj).1))
              have G4 := Lib.hid (grown_then (grown_then G3.out (World.grownBy_alloc _ _ none) (by simp)) hg4 (fun j hj => .inl (O3.out.fresh j hj).1))
              clear ho4 hg4
              go_wp2_with fail
              go_roundw
              case rel => exact ⟨m + 1, y + t + 1, zs ++ [y + t], by go_num, by omega, rfl, by omega, by omega, by simp; omega, Lib.hid (mem_snoc hzb.out (by omega)), O4, D4, G4⟩
              case measure => simp [intOf]; omega
            · have G5 := Lib.hid (grown_then hg.out hg2.out (fun j hj => .inr hj))
              have Wa := Lib.hid (Vva.out.deal G5.out); have Wb := Lib.hid (Vvb.out.deal G5.out)
              obtain ⟨az, cz, rfl⟩ := hzo.out.opened'
              have ZI := Lib.hid (hzo.out.ints hzb.out)
              have hz9 : zs.length ≤ 4 := by omega
              clear hzl
              go_wp2_with fail
              refine (provesW_any _ _ _ _ _ _ _ Wa.out.1.1 Wb.out.1.1 ZI.out).mono ?_
              rintro e w30 ⟨rfl, hdr⟩
              rw [HNO.out zs]
              have D6 := Lib.hid (hd2.out.kept (hdr.grown none) (by simp))
              have G6 := Lib.hid (grown_then G5.out (hdr.grown none) (by simp))
              clear hdr
              go_wp2_with fail
              go_roundw
              case rel => exact ⟨k + 1, by go_num, by omega, D6, G6⟩
              case measure => simp [intOf]; omega
        · have HS2 := Lib.hid (HS.out.deal hd.out hg.out)
          go_wp2_with fail
          go_ret
          exact ⟨rfl, HS2.out.below⟩
    | some ps =>
      rw [hR] at VP
      dsimp only [Option.getD_some, Option.isSome_some] at VP ⊢
      have HPR := Lib.hid (embed_proves hR)
      have HLE : Hid (∀ zs, provesW A B zs = true → ps.length = zs.length ∧ ∀ i, i < zs.length → ps[i]?.getD 0 ≤ zs[i]?.getD 0) := Lib.hid (fun zs h => by
        obtain ⟨ps', e1, e2, e3⟩ := embed_least h
        rw [hR] at e1
        cases e1
        exact ⟨e2, e3⟩)
      clear hR
      obtain ⟨ap, cp, rfl, -⟩ := VP.out.slice
      go_wp2_with fail
      go_loopw [8] (fun i wr => ∃ k : Nat, i = .int .i64 k ∧ k ≤ 20 ∧ Hid (Deck wr p d) ∧ Hid (w6.grownBy wr (some d))) (fun i _ => 20 - (intOf i).toNat)
      case atStart => exact ⟨0, rfl, by omega, Lib.hid HS.out.1, Lib.hid (grown_refl _ _)⟩
      case round =>
        obtain ⟨k, rfl, hk, hd, hg⟩ := hrel
        rename World => wk
        by_cases hlt : k < 20
        · have h1 : (k : Int) < 20 := by omega
          go_wp2_with fail
          go_loopw [9, 10, 38] (fun v t i wq => ∃ (m : Nat) (y : Int) (zs : List Int), i = .int .i64 m ∧ m ≤ A.length ∧ t = .int .i64 y ∧ 0 ≤ y ∧ y ≤ 10 * (m : Int) ∧ zs.length = m ∧ Hid (∀ z ∈ zs, -9223372036854775808 ≤ z ∧ z ≤ 9223372036854775807) ∧ Hid (OwnI wq wk.heap.size v zs) ∧ Hid (Deck wq p d) ∧ Hid (wk.grownBy wq (some d))) (fun _ _ i _ => A.length - (intOf i).toNat)
          case atStart => exact ⟨0, 0, [], rfl, Nat.zero_le _, rfl, by omega, by omega, rfl, Lib.hid (by simp), Lib.hid (OwnI.nil _ _), hd, Lib.hid (grown_refl _ _)⟩
          case round =>
            obtain ⟨m, y, zs, rfl, hm, rfl, hy0, hy1, hzl, hzb, hzo, hd2, hg2⟩ := hrel
            by_cases hlm : m < A.length
            · have i1 : (m : Int) < (A.length : Int) := by omega
              go_wp2_with fail
              refine (next_any p d 3 _ hd2.out (by omega) (by omega)).mono ?_
              rintro e w20 ⟨t, rfl, ht0, ht1, hd3, hg3⟩
              have D3 := Lib.hid hd3
              have G3 := Lib.hid (grown_then hg2.out hg3 (fun j hj => .inr hj))
              have O3 := Lib.hid (hzo.out.kept hg3 (fun j hj => by cases hj; exact Nat.lt_of_lt_of_le hd.out.lt (Nat.le_refl _)))
              clear hd3 hg3
              have i2 : IntKind.i64.wrap (y + t) = y + t := IntWalk.i64_in _ (by omega)
              have i3 : IntKind.i64.wrap (y + t + 1) = y + t + 1 := IntWalk.i64_in _ (by omega)
              have O3' := Lib.hid (O3.out.kept (World.grownBy_alloc w20 (.cells #[.int .i64 (y + t)] 3) none) (by simp))
              have S3 := Nat.le_trans G3.out.size (World.grownBy_alloc w20 (.cells #[.int .i64 (y + t)] 3) none).size
              have hz12 : zs.length ≤ 1000000000000 := by omega
              go_wp2_with (at_builtin; refine app_int rfl _ _ rfl wk.heap.size _ zs rfl O3'.out w20.heap.size (y + t) rfl (cell_new rfl) hz12 S3 ?_)
              intro v4 w21 ho4 hg4
              have O4 := Lib.hid ho4
              have D4 := Lib.hid ((D3.out.kept (World.grownBy_alloc _ _ none) (by simp)).kept hg4 (fun j hj => Nat.lt_of_lt_of_le hd.out.lt (O3.out.fresh j hj).1))
              have G4 := Lib.hid (grown_then (grown_then G3.out (World.grownBy_alloc _ _ none) (by simp)) hg4 (fun j hj => .inl (O3.out.fresh j hj).1))
              clear ho4 hg4
              go_wp2_with fail
              go_roundw
              case rel => exact ⟨m + 1, y + t + 1, zs ++ [y + t], by go_num, by omega, rfl, by omega, by omega, by simp; omega, Lib.hid (mem_snoc hzb.out (by omega)), O4, D4, G4⟩
              case measure => simp [intOf]; omega
            · have G5 := Lib.hid (grown_then hg.out hg2.out (fun j hj => .inr hj))
              have Wa := Lib.hid (Vva.out.deal G5.out); have Wb := Lib.hid (Vvb.out.deal G5.out)
              obtain ⟨az, cz, rfl⟩ := hzo.out.opened'
              have ZI := Lib.hid (hzo.out.ints hzb.out)
              have hz9 : zs.length ≤ 4 := by omega
              clear hzl
              cases hpz : provesW A B zs
              · have HPZ := Lib.hid hpz
                clear hpz
                go_wp2_with fail
                refine (provesW_any _ _ _ _ _ _ _ Wa.out.1.1 Wb.out.1.1 ZI.out).mono ?_
                rintro e w30 ⟨rfl, hdr⟩
                rw [HPZ.out]
                have D6 := Lib.hid (hd2.out.kept (hdr.grown none) (by simp))
                have G6 := Lib.hid (grown_then G5.out (hdr.grown none) (by simp))
                clear hdr
                go_wp2_with fail
                go_roundw
                case rel => exact ⟨k + 1, by go_num, by omega, D6, G6⟩
                case measure => simp [intOf]; omega
              · obtain ⟨hlen, hle⟩ := HLE.out zs hpz
                have HPZ := Lib.hid hpz; have HL := Lib.hid hle
                clear hpz hle
                have j1 : ((ps.length : Int) != (zs.length : Int)) = false := by rw [bne_eq_false_iff_eq]; omega
                have HLN := Lib.hid hlen
                clear hlen
                go_wp2_with fail
                refine (provesW_any _ _ _ _ _ _ _ Wa.out.1.1 Wb.out.1.1 ZI.out).mono ?_
                rintro e w30 ⟨rfl, hdr⟩
                rw [HPZ.out]
                have D6 := Lib.hid (hd2.out.kept (hdr.grown none) (by simp))
                have G6 := Lib.hid (grown_then G5.out (hdr.grown none) (by simp))
                have Z6 := Lib.hid (ZI.out.same (hdr.grown none))
                have P6 := Lib.hid ((VP.out.deal G5.out).drew hdr)
                clear hdr
                go_wp2_with fail
                go_loopw [67] (fun i wt => ∃ n : Nat, i = .int .i64 n ∧ n ≤ zs.length ∧ Hid (w30.grownBy wt none)) (fun i _ => zs.length - (intOf i).toNat)
                case atStart => exact ⟨0, rfl, Nat.zero_le _, Lib.hid (grown_refl _ _)⟩
                case round =>
                  obtain ⟨n, rfl, hn, hg7⟩ := hrel
                  by_cases hln : n < zs.length
                  · have l1 : (n : Int) < (zs.length : Int) := by omega
                    have l2 : (n : Int) < (ps.length : Int) := by have := HLN.out; omega
                    obtain ⟨_, _, hv, _, _, hc⟩ := Z6.out.same hg7.out
                    simp only [Value.slice.injEq] at hv
                    obtain ⟨rfl, -, -⟩ := hv
                    obtain ⟨b1, o1, rfl, hx⟩ := Ints.at hc hln
                    obtain ⟨_, _, hv, _, _, hc2⟩ := (P6.out.step hg7.out).1.1
                    simp only [Value.slice.injEq] at hv
                    obtain ⟨rfl, -, -⟩ := hv
                    obtain ⟨b2, o2, rfl, hy⟩ := Ints.at hc2 (show n < ps.length by have := HLN.out; omega)
                    have l3 : ¬ zs[n]?.getD 0 < ps[n]?.getD 0 := by have := HL.out n hln; omega
                    clear hc hc2
                    generalize zs[n]?.getD 0 = z1 at *
                    generalize ps[n]?.getD 0 = z2 at *
                    go_wp2_with fail
                    go_quiet (fail)
                    go_wp2_with fail
                    go_roundw
                    case rel => exact ⟨n + 1, by go_num, by omega, Lib.hid (grown_trans hg7.out (grown_drewN _ _ none))⟩
                    case measure => simp [intOf]; omega
                  · have D8 := Lib.hid (D6.out.kept hg7.out (by simp))
                    have G8 := Lib.hid (grown_then G6.out hg7.out (by simp))
                    go_wp2_with fail
                    go_roundw
                    case rel => exact ⟨k + 1, by go_num, by omega, D8, G8⟩
                    case measure => simp [intOf]; omega
        · have HS2 := Lib.hid (HS.out.deal hd.out hg.out)
          have Wa := Lib.hid (Vva.out.deal hg.out); have Wb := Lib.hid (Vvb.out.deal hg.out); have Wp := Lib.hid (VP.out.deal hg.out)
          go_wp2_with fail
          refine (provesW_any _ _ _ _ _ _ _ Wa.out.1.1 Wb.out.1.1 Wp.out.1.1).mono ?_
          rintro e w40 ⟨rfl, hdr⟩
          rw [HPR.out]
          replace HS2 := Lib.hid (HS2.out.drew hdr)
          clear hdr
          go_wp2_with fail
          go_ret
          exact ⟨rfl, HS2.out.below⟩
  · go_enter Try.func7, Try.ntmps7
    go_wp2_with fail
    refine (awake02_any _).mono ?_
    rintro e w1 ⟨rfl, hg⟩
    have HG := Lib.hid hg
    clear hg
    go_wp2_with fail
    refine (few_any _ _ _ _).mono ?_
    rintro e w2 ⟨rfl, rfl⟩
    rw [decide_eq_false (by omega)]
    go_wp2_with fail
    refine (awake02_any _).mono ?_
    rintro e w3 ⟨rfl, hg⟩
    have HG := Lib.hid (grown_trans HG.out hg)
    clear hg
    go_wp2_with fail
    go_ret
    exact ⟨rfl, below_of HG.out⟩

/-! ### WordPlaces: the statement, from its walk -/
set_option maxRecDepth 100000 in
theorem liftedWordPlaces (os : Os) (started : os.Started) (H : Type) (enc : TypeId × Value → H) :
    ReturnsInHanded {} Try.checked os 7 .any (Rows.wordPlacesSpec.pre6 enc Try.prog Try.f7 Rows.wordPlacesRow.domain false) (Rows.wordPlacesSpec.post enc Try.prog Try.f7 false true false false) := by
  refine returnsInHanded_of_change (C := Try.checked) own started (by kernel_rfl) Try.func7
    (ChangeSpec.witness6 (enc := enc) (C := Try.checked) false ⟨#[], #[.slice none 0 0], []⟩ 8 (by kernel_rfl) (by kernel_rfl) (by kernel_rfl) (by kernel_rfl)) ?_
  intro W base args ds gs before hval0 hW hcnd _
  have hval : ∀ (j : Nat) t v, Try.f7.params[j]? = some t → args[j]? = some v → Value.okWide Try.prog W .any base t v := hval0
  have hW' := hW
  obtain ⟨p, q, hA0, hV, rfl, hfz, hnd⟩ := hW
  have hA : DataW.TrodAll enc Try.prog W 0 (fun _ => true) true Try.f7.params.toList args.toList ds p := hA0
  rw [Try.params7] at hA hval
  obtain ⟨v0, vs0, d0, ds0, p0, q0, hargs, rfl, rfl, h0, r0⟩ := trodAll_cons hA
  obtain ⟨rfl, rfl, rfl⟩ := trodAll_nil r0
  obtain rfl : args = #[v0] := by cases args; simp_all
  obtain ⟨rfl, rfl⟩ := trodVars_none hV
  obtain ⟨a0, len0, cap0, rfl⟩ := okWide_slice Try.underlying22 (hval 0 22 v0 rfl rfl)
  have k0 := h0
  have lt0 : ∀ x ∈ p0, x.block < W.heap.size := by obtain ⟨m, hm⟩ := k0; exact DataW.trod_lt m _ _ _ hm
  obtain ⟨z0, w0⟩ : ∃ zs, IsRow .i64 W a0 len0 cap0 zs := by
    obtain ⟨fuel, hf⟩ := h0
    rcases open_ints Try.underlying22 Try.underlying3 (by kernel_rfl) hf with ⟨hcs, _⟩ | ⟨x, l, c, zs, hcs, _, hl, hm, hz, _, hcell, hwz⟩
    · simp [Value.cells] at hcs
      obtain ⟨rfl, rfl, rfl⟩ := hcs
      exact ⟨[], .inl ⟨rfl, rfl, rfl, rfl⟩⟩
    · simp [Value.cells] at hcs
      obtain ⟨rfl, rfl, rfl⟩ := hcs
      exact ⟨zs, .inr ⟨_, rfl, hl, hm, by simpa using hz, hcell, hwz⟩⟩
  clear hA0 hval0
  refine (walkWordPlaces a0 len0 cap0 z0 W w0).mono fun e W' ⟨he, bel⟩ => ?_
  subst he
  exact ⟨_, rfl, _, _, _, [], _, [], hW', trodAll_mk1 (shut_bool Try.underlying4 _), (trodAll_cons_mk (Below.trod laidOut (by kernel_rfl) (of_decide_eq_true (by kernel_rfl)) k0 bel lt0) trodAll_mk0), rfl, bel.frame _, fun h => by cases h⟩

theorem wordPlaces_holds : Rows.WordPlacesSaid :=
  OpenClaim.holds_of_wide 7 Try.f7 rfl rfl rfl rfl rfl rfl rfl ⟨rfl, rfl, rfl, rfl, rfl⟩ rfl rfl rfl rfl rfl (by kernel_rfl) Try.func7 (by kernel_rfl)
    (of_decide_eq_true (by kernel_rfl)) (by unfold Func.isWrapper; first | (rw [if_pos (by decide +kernel)]; kernel_rfl) | (rw [if_neg (by decide +kernel)]; exact ⟨rfl, rfl⟩))
    (fun os started H enc _ => liftedWordPlaces os started H enc)
#print axioms wordPlaces_holds
end Go.Proofs.Ytiajngnjklbgkaa
