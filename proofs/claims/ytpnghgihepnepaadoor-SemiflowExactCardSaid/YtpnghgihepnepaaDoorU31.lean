/- Texts Qe, Qf in one. -/
import Derived.Test.YtpnghgihepnepaaDoorU30
import Derived.Test.YtpnghgihepnepaaDoorU23
namespace Go.Proofs.YtpnghgihepnepaaDoor
open Go.RowKit
set_option linter.unusedVariables false

def SortedL (fs : List (List Int)) : Prop := fs.Pairwise (fun a b => compareI a b ≤ 0)
def OfR (C : List (List Int)) (c n : Nat) (w : World) (e : Ending) (w' : World) : Prop := ∃ v fs, e = .returned (.tuple #[v, .int .i64 0]) ∧ RowsP w' v fs ∧ OfL C c (2 ^ n) (fs.map Prod.snd) ∧ SortedL (fs.map Prod.snd) ∧ w.grownBy w' none
theorem rOf_no {ms : List Row} {va : Value} {w : World} (h : RowsI w va ms) (hno : ¬ Shape11 ms) :
    Calls Tryd.prog 15 #[va] w fun e w' => e = .returned (.tuple #[.slice none 0 0, .int .i64 10]) ∧ w.grownBy w' none := by
  have H := Lib.hid h
  clear h
  go_enter Tryd.func15, Tryd.ntmps15
  go_wp2_with fail
  refine (rcheck11_no H.out hno).mono ?_
  rintro e w1 ⟨rfl, hg⟩
  have HG := Lib.hid hg
  clear hg
  go_wp2_with fail
  go_ret2
  exact ⟨rfl, HG.out⟩
theorem of_no {ms : List Row} {va : Value} {w : World} (h : RowsI w va ms) (hno : ¬ Shape11 ms) :
    Calls Tryd.prog 14 #[va] w fun e w' => e = .returned (.tuple #[.slice none 0 0, .int .i64 10]) ∧ w.grownBy w' none := by
  have H := Lib.hid h
  clear h
  go_enter Tryd.func14, Tryd.ntmps14
  go_wp2_with fail
  refine (scheck_no H.out hno).mono ?_
  rintro e w1 ⟨rfl, hw⟩
  subst hw
  have HG := Lib.hid (grown_refl w1 none)
  go_wp2_with fail
  go_ret2
  exact ⟨rfl, HG.out⟩
set_option maxRecDepth 100000 in
set_option maxHeartbeats 2000000 in
theorem rOf_any {w : World} {v : Value} {ps : List Row} {r c : Nat} (h : RowsP w v ps) (hm : MatOkP r c ps) (h6 : r ≤ 6) :
    Calls Tryd.prog 15 #[v] w (OfR (ps.map Prod.snd) c r w) := by
  have H := Lib.hid h; have HM := Lib.hid hm
  have HPL := Lib.hid hm.1
  have HCK := Lib.hid (rcheck11_ok h hm h6)
  obtain ⟨a, cap, rfl, -⟩ : ∃ a cap, v = .slice a ps.length cap ∧ True := by obtain ⟨a, cap, h, -⟩ := h; exact ⟨a, cap, h, trivial⟩
  have hp6 : ps.length ≤ 6 := by have := hm.1; omega
  have hpw := pow_6 ps.length (by omega)
  obtain ⟨N, hN⟩ : ∃ N, N = 2 ^ ps.length := ⟨_, rfl⟩
  have HN := Lib.hid hN
  rw [← hN] at hpw
  have iN : IntKind.i64.wrap (2 ^ ps.length) = (N : Int) := by
    have : ((2 : Int) ^ ps.length) = (N : Int) := by rw [hN]; simp
    rw [this]
    exact IntWalk.i64_in _ (by omega)
  obtain ⟨C, hC⟩ : ∃ C, C = ps.map Prod.snd := ⟨_, rfl⟩
  have HC := Lib.hid hC
  have HCL : Hid (C.length = ps.length) := Lib.hid (by rw [hC, List.length_map])
  have HNR : Hid (2 ^ r = N) := Lib.hid (by rw [hN, hm.1])
  have hpn : (0 : Int) ≤ (ps.length : Int) := by omega
  rw [← hC]
  clear h hN hC hm
  go_enter Tryd.func15, Tryd.ntmps15
  go_wp2_with fail
  refine HCK.out.mono ?_
  rintro e w1 ⟨rfl, hg⟩
  have HG0 := Lib.hid hg
  clear hg
  go_wp2_with fail
  go_loopw [6, 5] (fun i o wr => ∃ s : Nat, ∃ (fs : List Row) (ao : Option Addr) (co : Nat), i = .int .i64 s ∧ o = .slice ao fs.length co ∧ 1 ≤ s ∧ s ≤ N ∧ Hid (RowsP wr (.slice ao fs.length co) fs ∧ Good (.slice ao fs.length co)) ∧ Hid (OfL C c s (fs.map Prod.snd)) ∧ Hid (SortedL (fs.map Prod.snd)) ∧ Hid (fs.length < s) ∧ Hid (w.grownBy wr none)) (fun i _ _ => N - (intOf i).toNat)
  case atStart => exact ⟨1, [], none, 0, rfl, rfl, Nat.le_refl _, by omega, Lib.hid ⟨rowsP_nil _, Good.nil⟩, Lib.hid (OfL.start C c), Lib.hid List.Pairwise.nil, Lib.hid (by simp), HG0⟩
  case round =>
    clear HG0
    obtain ⟨s, fs, ao, co, rfl, rfl, hs1, hsN, HF, HL, HSO, HFL, HG⟩ := hrel
    rename World => wk
    have i1 : IntKind.i64.wrap ((s : Int) + 1) = (s : Int) + 1 := IntWalk.i64_in _ (by omega)
    by_cases hlt : s < N
    · have h1 : (s : Int) < (N : Int) := by omega
      go_wp2_with fail
      refine (rwith_any (H.out.same HG.out) HM.out h6 s hs1 (by rw [HNR.out]; exact hlt) (by omega)).mono ?_
      rintro e w1 ⟨hg, hcase⟩
      rw [← HC.out] at hcase
      replace HG := Lib.hid (grown_trans HG.out hg)
      have HF1 := Lib.hid (HF.out.1.same hg); have HGD := Lib.hid HF.out.2
      rcases hcase with ⟨y, v', rfl, ho, hat, hb⟩ | ⟨rfl, hno⟩
      · have HAT := Lib.hid hat; have HYB := Lib.hid hb
        have HYL : Hid (y.length ≤ 1000000) := Lib.hid (by rw [hat.flow.1, HCL.out]; omega)
        have HYR : Hid (RowOk w1 (v', y)) := Lib.hid (ho.row (fun x hx => by have := hb x hx; omega))
        have HL64 : Hid (fs.length ≤ 64) := Lib.hid (by have := HFL.out; omega)
        clear ho hat hb hg HF
        go_wp2_with fail
        refine (put_any _ _ fs y _ HF1.out HGD.out HYR.out (by have := HL64.out; omega) HYL.out).mono ?_
        rintro e w2 ⟨v2, qs, rfl, hr, hgd, hq, hg⟩
        obtain ⟨a2, c2, rfl, -⟩ : ∃ a cap, v2 = .slice a qs.length cap ∧ True := by obtain ⟨a, cap, h, -⟩ := hr; exact ⟨a, cap, h, trivial⟩
        have HF2 : Hid (RowsP w2 (.slice a2 qs.length c2) qs ∧ Good (.slice a2 qs.length c2)) := Lib.hid ⟨hr, hgd⟩
        have HL2 : Hid (OfL C c (s + 1) (qs.map Prod.snd)) := Lib.hid (by
          rw [hq]
          exact HL.out.put HCL.out (by omega) hs1 (by omega) (by rw [← HN.out]; exact hlt) HAT.out HYB.out)
        have HS2 : Hid (SortedL (qs.map Prod.snd)) := Lib.hid (by rw [hq]; exact putL_sorted HSO.out)
        have HFL2 : Hid (qs.length < s + 1) := Lib.hid (by
          have h1 := putL_len (r := y) (l := fs.map Prod.snd)
          rw [← hq, List.length_map, List.length_map] at h1
          have := HFL.out
          omega)
        have HG2 := Lib.hid (grown_trans HG.out hg)
        clear hr hgd hq hg
        go_wp2_with fail
        go_roundw
        case rel => exact ⟨s + 1, qs, a2, c2, by go_num, rfl, by omega, by omega, HF2, HL2, HS2, HFL2, HG2⟩
        case measure => simp [intOf]; omega
      · have HF2 : Hid (RowsP w1 (.slice ao fs.length co) fs ∧ Good (.slice ao fs.length co)) := Lib.hid ⟨HF1.out, HGD.out⟩
        have HL2 := Lib.hid (HL.out.skip hno)
        have HFL2 : Hid (fs.length < s + 1) := Lib.hid (by have := HFL.out; omega)
        clear hno hg HF
        go_wp2_with fail
        go_roundw
        case rel => exact ⟨s + 1, fs, ao, co, by go_num, rfl, by omega, by omega, HF2, HL2, HSO, HFL2, HG⟩
        case measure => simp [intOf]; omega
    · obtain rfl : s = N := by omega
      have h1 : ¬ (s : Int) < (s : Int) := by omega
      go_wp2_with fail
      go_ret2
      exact ⟨_, fs, rfl, HF.out.1, by rw [HNR.out]; exact HL.out, HSO.out, HG.out⟩
/-- One answer for both sides. -/
theorem of_u (ms : List Row) : ∃ rs err, (∀ w v, TabW w → RowsI w v ms → Calls Tryd.prog 14 #[v] w (GotU rs err w)) ∧ ∀ w v, RowsI w v ms → Calls Tryd.prog 15 #[v] w (GotU rs err w) := by
  by_cases hs : Shape11 ms
  · obtain ⟨r, c, hm, h6⟩ := hs
    by_cases he : ∃ fs, OfL (ms.map Prod.snd) c (2 ^ r) fs ∧ SortedL fs
    · obtain ⟨fs, h1, h2⟩ := he
      refine ⟨fs, 0, fun w v hT a => (of_any (a.toP hm) hm h6 hT).mono fun e w' h => ?_, fun w v a => (rOf_any (a.toP hm) hm h6).mono fun e w' h => ?_⟩
      · obtain ⟨v, qs, h3, h4, h5, h6, h7⟩ := h
        exact ⟨v, qs, h3, h4, h5.same h1 h6 h2, h7⟩
      · obtain ⟨v, qs, h3, h4, h5, h6, h7⟩ := h
        exact ⟨v, qs, h3, h4, h5.same h1 h6 h2, h7⟩
    · refine ⟨[], 0, fun w v hT a => (of_any (a.toP hm) hm h6 hT).mono fun e w' h => ?_, fun w v a => (rOf_any (a.toP hm) hm h6).mono fun e w' h => ?_⟩
      · obtain ⟨v, qs, h3, h4, h5, h6, h7⟩ := h
        exact absurd ⟨_, h5, h6⟩ he
      · obtain ⟨v, qs, h3, h4, h5, h6, h7⟩ := h
        exact absurd ⟨_, h5, h6⟩ he
  · exact ⟨[], 10, fun w v hT a => (of_no a hs).mono fun e w' h => gotU_bad h, fun w v a => (rOf_no a hs).mono fun e w' h => gotU_bad h⟩
end Go.Proofs.YtpnghgihepnepaaDoor

namespace Go.Proofs.YtpnghgihepnepaaDoor
open Go.RowKit
set_option linter.unusedVariables false

theorem rnumbers_is (v : Value) (xs : List Int) (most : Int) (w : World) (h : Ints w v xs) :
    Calls Tryd.prog 40 #[v, .int .i64 most] w fun e w' => e = .returned (.bool (xs.all (nnB most))) ∧ w' = w := by
  obtain ⟨a, cap, rfl, hl, -, hc⟩ := h
  unfold maxLen at hl
  have HC := Lib.hid hc
  clear hc
  go_enter Tryd.func40, Tryd.ntmps40
  go_wp2_with fail
  go_loop [5] (fun i => ∃ k : Nat, i = .int .i64 k ∧ k ≤ xs.length ∧ Hid ((xs.take k).all (nnB most) = true)) (fun i => xs.length - (intOf i).toNat)
  case atStart => exact ⟨0, rfl, Nat.zero_le _, Lib.hid rfl⟩
  case round =>
    obtain ⟨k, rfl, hk, HA⟩ := hrel
    by_cases hkb : k < xs.length
    · have h1 : (k : Int) < (xs.length : Int) := by omega
      have i1 : IntKind.i64.wrap ((k : Int) + 1) = (k : Int) + 1 := IntWalk.i64_in _ (by omega)
      obtain ⟨b, off, rfl, hx⟩ := Ints.at HC.out hkb
      have HN := Lib.hid (all_no (P := nnB most) hkb)
      have HS := Lib.hid (all_snoc1 (nnB most) xs k hkb)
      generalize xs[k]?.getD 0 = x at *
      by_cases f1 : x < 0
      · have HB : Hid (xs.all (nnB most) = false) := Lib.hid (HN.out (by unfold nnB; simp; omega))
        go_wp2_with fail
        go_ret
        rw [HB.out]
        exact ⟨rfl, rfl⟩
      · by_cases f2 : most < x
        · have HB : Hid (xs.all (nnB most) = false) := Lib.hid (HN.out (by unfold nnB; simp; omega))
          go_wp2_with fail
          go_ret
          rw [HB.out]
          exact ⟨rfl, rfl⟩
        · have HA2 : Hid ((xs.take (k + 1)).all (nnB most) = true) := Lib.hid (by rw [HS.out, HA.out]; unfold nnB; simp; omega)
          go_wp2_with fail
          go_round
          case rel => exact ⟨k + 1, by go_num, by omega, HA2⟩
          case measure => simp [intOf]; omega
    · obtain rfl : k = xs.length := by omega
      have h1 : ¬ (xs.length : Int) < (xs.length : Int) := by omega
      go_wp2_with fail
      go_ret
      exact ⟨ret_bool1 (by have := HA.out; rw [List.take_length] at this; rw [this]), rfl⟩
set_option maxRecDepth 100000 in
set_option maxHeartbeats 1000000 in
theorem rsum_any (vy vx : Value) (ys xs : List Int) (w : World) (h : Ints w vy ys) (h' : Ints w vx xs) (hl : ys.length = xs.length) (h6 : ys.length ≤ 6) (hy : ∀ y ∈ ys, 0 ≤ y ∧ y ≤ 1099511627776) (hx : ∀ x ∈ xs, 0 ≤ x ∧ x ≤ 1048576) :
    Calls Tryd.prog 41 #[vy, vx] w fun e w' => e = .returned (.int .i64 (dotL ys xs)) ∧ Drew w w' := by
  have HYB := Lib.hid hy; have HXB := Lib.hid hx; have HL := Lib.hid hl
  obtain ⟨a, cap, rfl, -, -, hc⟩ := id h
  obtain ⟨a2, cap2, rfl, -, -, hc2⟩ := id h'
  have HY := Lib.hid h; have HX := Lib.hid h'
  rw [← hl] at HX ⊢
  clear hc hc2 hy hx hl h h'
  have HG := Lib.hid (Drew.refl w)
  go_enter Tryd.func41, Tryd.ntmps41
  go_wp2_with fail
  go_loopw [6, 5] (fun i s wr => ∃ k : Nat, i = .int .i64 k ∧ k ≤ ys.length ∧ s = .int .i64 (dotL (ys.take k) (xs.take k)) ∧ Hid (Drew w wr)) (fun i _ _ => ys.length - (intOf i).toNat)
  case atStart => exact ⟨0, rfl, Nat.zero_le _, rfl, HG⟩
  case round =>
    clear HG
    obtain ⟨k, rfl, hk, rfl, HG⟩ := hrel
    rename World => wk
    by_cases hkb : k < ys.length
    · have h1 : (k : Int) < (ys.length : Int) := by omega
      have i1 : IntKind.i64.wrap ((k : Int) + 1) = (k : Int) + 1 := IntWalk.i64_in _ (by omega)
      have hkx : k < xs.length := by have := HL.out; omega
      obtain ⟨_, _, hv, -, -, hc⟩ := HY.out.same (HG.out.grown none)
      simp only [Value.slice.injEq] at hv
      obtain ⟨rfl, -, rfl⟩ := hv
      obtain ⟨_, _, hv, -, -, hc2⟩ := HX.out.same (HG.out.grown none)
      simp only [Value.slice.injEq] at hv
      obtain ⟨rfl, -, rfl⟩ := hv
      obtain ⟨b, off, rfl, hc1⟩ := Ints.at hc hkb
      obtain ⟨b2, off2, rfl, hc2⟩ := Ints.at hc2 hkx
      have b1 := mem_at (P := fun y => 0 ≤ y ∧ y ≤ 1099511627776) HYB.out hkb
      have b2' := mem_at (P := fun y => 0 ≤ y ∧ y ≤ 1048576) HXB.out hkx
      have hds := dot_snoc ys xs k hkb hkx
      have hbd := dot_bd (A := 1099511627776) (B := 1048576) (ys.take k) (xs.take k) (fun y hy => by have := HYB.out y (List.mem_of_mem_take hy); omega) (fun y hy => by have := HXB.out y (List.mem_of_mem_take hy); omega) (by decide)
      have hbl : (ys.take k).length ≤ 6 := by have := List.length_take_le k ys; omega
      have HDS := Lib.hid hds
      generalize (ys.take k).length = tl at *
      generalize dotL (ys.take k) (xs.take k) = s0 at *
      generalize ys[k]?.getD 0 = x at *
      generalize xs[k]?.getD 0 = y at *
      have hmb := mul_bd (x := x) (y := y) (A := 1099511627776) (B := 1048576) (by omega) (by omega)
      obtain ⟨z, hz⟩ : ∃ z, x * y = z := ⟨_, rfl⟩
      rw [hz] at hmb HDS
      have m1 : IntKind.i64.wrap (x * y) = z := by rw [hz]; exact IntWalk.i64_in _ (by omega)
      have m2 : IntKind.i64.wrap (s0 + z) = s0 + z := IntWalk.i64_in _ (by omega)
      clear hds b1 b2' hbd hbl hmb hz hkx hc
      go_wp2_with fail
      go_big_quiet (fail)
      have HGN := Lib.hid (HG.out.trans ⟨nq, rfl⟩)
      clear hc1 hc2 m1 m2 HG
      generalize wk.drewN nq = wd at *
      go_wp2_with fail
      go_roundw
      case rel => exact ⟨k + 1, by go_num, by omega, by rw [HDS.out], HGN⟩
      case measure => (simp [intOf]; try omega)
    · obtain rfl : k = ys.length := by omega
      have h1 : ¬ (ys.length : Int) < (ys.length : Int) := by omega
      have es : dotL (ys.take ys.length) (xs.take ys.length) = dotL ys xs := by rw [List.take_length, List.take_of_length_le (by rw [HL.out]; exact Nat.le_refl _)]
      rw [es]
      clear es
      go_wp2_with fail
      go_ret
      exact ⟨rfl, HG.out⟩
theorem all_nn {m : Int} {xs : List Int} (h : xs.all (nnB m) = true) : ∀ x ∈ xs, 0 ≤ x ∧ x ≤ m := fun x hx => nnB_iff.1 (List.all_eq_true.1 h x hx)
theorem nn_all {m : Int} {xs : List Int} (h : ∀ x ∈ xs, 0 ≤ x ∧ x ≤ m) : xs.all (nnB m) = true := List.all_eq_true.2 fun x hx => nnB_iff.2 (h x hx)
theorem rvalue_bad (vy vx : Value) (ys xs : List Int) (w : World) {err : Int} (h : Ints w vy ys) (h' : Ints w vx xs) (hb : ((ys.length ≠ xs.length ∨ 6 < ys.length) ∧ err = 3) ∨ (ys.length = xs.length ∧ ys.length ≤ 6 ∧ (ys.all (nnB 1099511627776) && xs.all (nnB 1048576)) = false ∧ err = 2)) :
    Calls Tryd.prog 25 #[vy, vx] w fun e w' => e = .returned (.tuple #[.int .i64 0, .int .i64 err]) ∧ w.grownBy w' none := by
  have HY := Lib.hid h; have HX := Lib.hid h'
  have HG := Lib.hid (grown_refl w none)
  obtain ⟨a, cap, rfl, hl1, -⟩ := h
  obtain ⟨a2, cap2, rfl, hl2, -⟩ := h'
  unfold maxLen at hl1 hl2
  rcases hb with ⟨hb, rfl⟩ | ⟨hl, h6, hb, rfl⟩
  · by_cases hl : ys.length = xs.length
    · have k1 : ((ys.length : Int) != (xs.length : Int)) = false := by simp; omega
      have k2 : (6 : Int) < (ys.length : Int) := by rcases hb with hb | hb <;> omega
      clear hb hl
      go_enter Tryd.func25, Tryd.ntmps25
      go_wp2_with fail
      go_ret2
      exact ⟨rfl, HG.out⟩
    · have k1 : ((ys.length : Int) != (xs.length : Int)) = true := by simp; omega
      clear hb hl
      go_enter Tryd.func25, Tryd.ntmps25
      go_wp2_with fail
      go_ret2
      exact ⟨rfl, HG.out⟩
  · have k1 : ((ys.length : Int) != (xs.length : Int)) = false := by simp; omega
    have k2 : ¬ (6 : Int) < (ys.length : Int) := by omega
    clear hl h6
    cases hy : ys.all (nnB 1099511627776) with
    | false =>
      have HB := Lib.hid hy
      clear hb hy
      go_enter Tryd.func25, Tryd.ntmps25
      go_wp2_with fail
      refine (rnumbers_is _ _ _ _ HY.out).mono ?_
      rintro e w' ⟨rfl, rfl⟩
      rw [HB.out]
      go_wp2_with fail
      go_ret2
      exact ⟨rfl, HG.out⟩
    | true =>
      have HB := Lib.hid hy
      have HB2 : Hid (xs.all (nnB 1048576) = false) := Lib.hid (by rw [hy, Bool.true_and] at hb; exact hb)
      clear hb hy
      go_enter Tryd.func25, Tryd.ntmps25
      go_wp2_with fail
      refine (rnumbers_is _ _ _ _ HY.out).mono ?_
      rintro e w' ⟨rfl, rfl⟩
      rw [HB.out]
      go_wp2_with fail
      refine (rnumbers_is _ _ _ _ HX.out).mono ?_
      rintro e w' ⟨rfl, rfl⟩
      rw [HB2.out]
      go_wp2_with fail
      go_ret2
      exact ⟨rfl, HG.out⟩
theorem rvalue_any (vy vx : Value) (ys xs : List Int) (w : World) (h : Ints w vy ys) (h' : Ints w vx xs) (hl : ys.length = xs.length) (h6 : ys.length ≤ 6) (hy : ∀ y ∈ ys, 0 ≤ y ∧ y ≤ 1099511627776) (hx : ∀ x ∈ xs, 0 ≤ x ∧ x ≤ 1048576) :
    Calls Tryd.prog 25 #[vy, vx] w fun e w' => e = .returned (.tuple #[.int .i64 (dotL ys xs), .int .i64 0]) ∧ w.grownBy w' none := by
  have HY := Lib.hid h; have HX := Lib.hid h'; have HYA := Lib.hid (nn_all hy); have HXA := Lib.hid (nn_all hx)
  have HSU := Lib.hid (rsum_any vy vx ys xs w h h' hl h6 hy hx)
  obtain ⟨a, cap, rfl, hl1, -⟩ := h
  obtain ⟨a2, cap2, rfl, hl2, -⟩ := h'
  unfold maxLen at hl1 hl2
  have k1 : ((ys.length : Int) != (xs.length : Int)) = false := by simp; omega
  have k2 : ¬ (6 : Int) < (ys.length : Int) := by omega
  clear hl hy hx h6
  go_enter Tryd.func25, Tryd.ntmps25
  go_wp2_with fail
  refine (rnumbers_is _ _ _ _ HY.out).mono ?_
  rintro e w1 ⟨rfl, hw⟩
  subst hw
  rw [HYA.out]
  go_wp2_with fail
  refine (rnumbers_is _ _ _ _ HX.out).mono ?_
  rintro e w1 ⟨rfl, hw⟩
  subst hw
  rw [HXA.out]
  go_wp2_with fail
  refine HSU.out.mono ?_
  rintro e w2 ⟨rfl, hg⟩
  have HG := Lib.hid (hg.grown none)
  clear hg
  go_wp2_with fail
  go_ret2
  exact ⟨rfl, HG.out⟩
/-- One answer for both sides. -/
theorem value_u (ys xs : List Int) : ∃ z err : Int, (∀ w v u, Ints w v ys → Ints w u xs → Calls Tryd.prog 24 #[v, u] w fun e w' => e = .returned (.tuple #[.int .i64 z, .int .i64 err]) ∧ w.grownBy w' none) ∧ ∀ w v u, Ints w v ys → Ints w u xs → Calls Tryd.prog 25 #[v, u] w fun e w' => e = .returned (.tuple #[.int .i64 z, .int .i64 err]) ∧ w.grownBy w' none := by
  by_cases hl : ys.length = xs.length ∧ ys.length ≤ 6
  · obtain ⟨hl, h6⟩ := hl
    cases hb : (ys.all (nnB 1099511627776) && xs.all (nnB 1048576)) with
    | false => exact ⟨0, 2, fun w v u a b => (value_bad v u ys xs w a b (.inr ⟨hl, h6, hb, rfl⟩)).mono fun e w' h => ⟨h.1, h.2 ▸ grown_refl _ _⟩, fun w v u a b => rvalue_bad v u ys xs w a b (.inr ⟨hl, h6, hb, rfl⟩)⟩
    | true =>
      rw [Bool.and_eq_true] at hb
      exact ⟨dotL ys xs, 0, fun w v u a b => (value_any v u ys xs w a b hl h6 (all_nn hb.1) (all_nn hb.2)).mono fun e w' h => ⟨h.1, h.2 ▸ grown_refl _ _⟩, fun w v u a b => rvalue_any v u ys xs w a b hl h6 (all_nn hb.1) (all_nn hb.2)⟩
  · exact ⟨0, 3, fun w v u a b => (value_bad v u ys xs w a b (.inl ⟨by omega, rfl⟩)).mono fun e w' h => ⟨h.1, h.2 ▸ grown_refl _ _⟩, fun w v u a b => rvalue_bad v u ys xs w a b (.inl ⟨by omega, rfl⟩)⟩
end Go.Proofs.YtpnghgihepnepaaDoor
