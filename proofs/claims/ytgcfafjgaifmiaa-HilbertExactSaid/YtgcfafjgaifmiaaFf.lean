/- What solves a system: both sides, whatever comes in. -/
import Derived.Test.YtgcfafjgaifmiaaFg
namespace Go.Proofs.Ytgcfafjgaifmiaa
open Go.RowKit
set_option linter.unusedVariables false

def VecF (c : Nat) (x : List Int) : Prop := x.length = c ∧ ∀ z ∈ x, 0 ≤ z ∧ z ≤ 1048576
theorem numB_iff {z : Int} : numB z = true ↔ 0 ≤ z ∧ z ≤ 1048576 := by unfold numB; simp
theorem VecF.fin {c : Nat} {x : List Int} (hc : c ≤ 6) (h : VecF c x) : finiteB x = true := by
  unfold finiteB
  simp only [Bool.and_eq_true, decide_eq_true_eq, List.all_eq_true]
  exact ⟨by have := h.1; omega, fun z hz => numB_iff.2 (h.2 z hz)⟩
theorem dotF_bd {c : Nat} {row x : List Int} (h : row.length = c) (hr : ∀ y ∈ row, -16 ≤ y ∧ y ≤ 16) (hc : c ≤ 12) (hx : VecF c x) : -9223372036854775808 ≤ dotL row x ∧ dotL row x ≤ 9223372036854775807 := by
  have := dot_bd (A := 16) (B := 1048576) row x hr (fun y hy => by have := hx.2 y hy; omega) (by decide)
  rw [h] at this
  have h2 : (c : Int) * (16 * 1048576) ≤ 12 * (16 * 1048576) := Int.mul_le_mul_of_nonneg_right (by omega) (by decide)
  omega
section
variable {r c : Nat} {ms : List Row} {va vb vx : Value} {bs x : List Int} {w : World}
set_option maxRecDepth 100000 in
set_option maxHeartbeats 1000000 in
theorem hsolves_fin (h : RowsP w va ms) (hm : MatOkP r c ms) (hr : r ≤ 6) (hc : c ≤ 6) (hb : Ints w vb bs) (hbo : RightOk r bs) (hx : Ints w vx x) (hxo : VecF c x) :
    Calls Try.prog 17 #[va, vb, vx] w fun e w' => e = .returned (.bool (solB ms bs x)) ∧ w.grownBy w' none := by
  have HM := Lib.hid hm; have HA := Lib.hid h; have HB := Lib.hid hb; have HX := Lib.hid hx; have HBO := Lib.hid hbo; have HXO := Lib.hid hxo
  obtain ⟨aa, capa, rfl, -⟩ : ∃ a cap, va = .slice a ms.length cap ∧ True := by obtain ⟨a, cap, h, -⟩ := h; exact ⟨a, cap, h, trivial⟩
  obtain ⟨ab, capb, hvb, -⟩ := id hb
  obtain ⟨ax, capx, hvx, -⟩ := id hx
  subst hvb hvx
  have HF := Lib.hid (hxo.fin hc)
  clear h hb hx hbo hxo hm
  go_enter Try.func17, Try.ntmps17
  go_wp2_with fail
  refine (hcheck_any HA.out HM.out hr hc HB.out HBO.out).mono ?_
  rintro e w' ⟨rfl, rfl⟩
  go_wp2_with fail
  refine (finite_any _ _ _ HX.out).mono ?_
  rintro e w' ⟨rfl, rfl⟩
  rw [HF.out]
  go_wp2_with fail
  refine (Apply_any HA.out HM.out HX.out HXO.out.1 (fun y hy => by have := HXO.out.2 y hy; omega)).mono ?_
  rintro e w1 ⟨v1, rfl, ho, hg⟩
  have HO : Hid (Ints w1 v1 (ms.map (fun q => dotL q.2 x))) := Lib.hid (ho.ints (fun z hz => by
    obtain ⟨q, hq, rfl⟩ := List.mem_map.1 hz
    obtain ⟨h1, h2⟩ := HM.out.2.2.2.2.2.2 q hq
    exact dotF_bd h1 h2 (by omega) HXO.out))
  have HG := Lib.hid hg
  clear ho hg
  go_wp2_with fail
  refine (equal_any _ _ _ _ _ HO.out (HB.out.same HG.out)).mono ?_
  rintro e w2 ⟨rfl, hd⟩
  have HG2 := Lib.hid (grown_trans HG.out (hd.grown none))
  clear hd
  go_wp2_with fail
  go_ret
  exact ⟨rfl, HG2.out⟩
theorem hsolves_err {err : Int} (hk : Calls Try.prog 15 #[va, vb] w fun e w' => e = .returned (.int .i64 err) ∧ w' = w) (he : err ≠ 0) :
    Calls Try.prog 17 #[va, vb, vx] w fun e w' => e = .returned (.bool false) ∧ w.grownBy w' none := by
  have HK := Lib.hid hk
  have p : (err != 0) = true := by simpa using he
  clear hk he
  go_enter Try.func17, Try.ntmps17
  go_wp2_with fail
  refine HK.out.mono ?_
  rintro e w' ⟨rfl, rfl⟩
  go_wp2_with fail
  go_ret
  exact ⟨rfl, grown_refl _ _⟩
theorem hsolves_inf (h : RowsP w va ms) (hm : MatOkP r c ms) (hr : r ≤ 6) (hc : c ≤ 6) (hb : Ints w vb bs) (hbo : RightOk r bs) (hx : Ints w vx x) (hxo : finiteB x = false) :
    Calls Try.prog 17 #[va, vb, vx] w fun e w' => e = .returned (.bool false) ∧ w.grownBy w' none := by
  have HM := Lib.hid hm; have HA := Lib.hid h; have HB := Lib.hid hb; have HX := Lib.hid hx; have HBO := Lib.hid hbo; have HF := Lib.hid hxo
  clear h hb hx hbo hxo hm
  go_enter Try.func17, Try.ntmps17
  go_wp2_with fail
  refine (hcheck_any HA.out HM.out hr hc HB.out HBO.out).mono ?_
  rintro e w' ⟨rfl, rfl⟩
  go_wp2_with fail
  refine (finite_any _ _ _ HX.out).mono ?_
  rintro e w' ⟨rfl, rfl⟩
  rw [HF.out]
  go_wp2_with fail
  go_ret
  exact ⟨rfl, grown_refl _ _⟩
theorem hsolves_len (h : RowsP w va ms) (hm : MatOkP r c ms) (hr : r ≤ 6) (hc : c ≤ 6) (hb : Ints w vb bs) (hbo : RightOk r bs) (hx : Ints w vx x) (hxo : finiteB x = true) (hl : x.length ≠ c) :
    Calls Try.prog 17 #[va, vb, vx] w fun e w' => e = .returned (.bool false) ∧ w.grownBy w' none := by
  have HM := Lib.hid hm; have HA := Lib.hid h; have HB := Lib.hid hb; have HX := Lib.hid hx; have HBO := Lib.hid hbo; have HF := Lib.hid hxo
  clear h hb hx hbo hxo hm
  go_enter Try.func17, Try.ntmps17
  go_wp2_with fail
  refine (hcheck_any HA.out HM.out hr hc HB.out HBO.out).mono ?_
  rintro e w' ⟨rfl, rfl⟩
  go_wp2_with fail
  refine (finite_any _ _ _ HX.out).mono ?_
  rintro e w' ⟨rfl, rfl⟩
  rw [HF.out]
  go_wp2_with fail
  refine (Apply_len HA.out HM.out HX.out hl).mono ?_
  rintro e w' ⟨rfl, rfl⟩
  go_wp2_with fail
  go_ret
  exact ⟨rfl, grown_refl _ _⟩
/-! ### The reference -/
theorem rsolves_err {err : Int} (hk : Calls Try.prog 16 #[va, vb] w fun e w' => e = .returned (.int .i64 err) ∧ w.grownBy w' none) (he : err ≠ 0) :
    Calls Try.prog 18 #[va, vb, vx] w fun e w' => e = .returned (.bool false) ∧ w.grownBy w' none := by
  have HK := Lib.hid hk
  have p : (err != 0) = true := by simpa using he
  clear hk he
  go_enter Try.func18, Try.ntmps18
  go_wp2_with fail
  refine HK.out.mono ?_
  rintro e w1 ⟨rfl, hg⟩
  have HG := Lib.hid hg
  clear hg
  go_wp2_with fail
  go_ret
  exact ⟨rfl, HG.out⟩
theorem right_all {r : Nat} {bs : List Int} (h : RightOk r bs) : rangeE bs = 0 := by
  unfold rangeE
  rw [if_pos (List.all_eq_true.2 (fun b hb => inR_iff.2 (h.2 b hb)))]
set_option maxRecDepth 100000 in
theorem rsolves_len (h : RowsP w va ms) (hm : MatOkP r c ms) (hr : r ≤ 6) (hc : c ≤ 6) (hb : Ints w vb bs) (hbo : RightOk r bs) (hx : Ints w vx x) (hl : x.length ≠ c) :
    Calls Try.prog 18 #[va, vb, vx] w fun e w' => e = .returned (.bool false) ∧ w.grownBy w' none := by
  have HK := Lib.hid (rcheck12_fit h hm hr hc hb hbo.1)
  rw [right_all hbo] at HK
  have h0 : 0 < ms.length := by have := hm.1; have := hm.2.1; omega
  have hml := hm.1
  have p1 : 0 < (ms.length : Int) := by omega
  obtain ⟨aa, capa, rfl, -⟩ : ∃ a cap, va = .slice a ms.length cap ∧ True := by obtain ⟨a, cap, h, -⟩ := h; exact ⟨a, cap, h, trivial⟩
  obtain ⟨ax, capx, hvx, hxl, -⟩ := hx
  unfold maxLen at hxl
  subst hvx
  obtain ⟨b, off, a2, c2, rfl, hc0, -, -⟩ := h.row h0
  rw [(hm.2.2.2.2.2.2 _ (List.getElem_mem h0)).1, Nat.add_zero] at hc0
  have HC := Lib.hid hc0
  have p2 : ((x.length : Int) != (c : Int)) = true := by simp; omega
  clear h hm hb hbo hl hc0 hml
  go_enter Try.func18, Try.ntmps18
  go_wp2_with fail
  refine HK.out.mono ?_
  rintro e w1 ⟨rfl, hg⟩
  have HG := Lib.hid hg
  have hc1 := hg.cell HC.out (by simp)
  clear hg
  go_wp2_with fail
  go_ret
  exact ⟨rfl, HG.out⟩
set_option maxRecDepth 100000 in
set_option maxHeartbeats 1000000 in
theorem rsolves_fit (h : RowsP w va ms) (hm : MatOkP r c ms) (hr : r ≤ 6) (hc : c ≤ 6) (hb : Ints w vb bs) (hbo : RightOk r bs) (hx : Ints w vx x) (hl : x.length = c) :
    Calls Try.prog 18 #[va, vb, vx] w fun e w' => e = .returned (.bool (x.all numB && solB ms bs x)) ∧ w.grownBy w' none := by
  have HK := Lib.hid (rcheck12_fit h hm hr hc hb hbo.1)
  rw [right_all hbo] at HK
  have HA := Lib.hid h; have HM := Lib.hid hm; have HB := Lib.hid hb; have HX := Lib.hid hx; have HL := Lib.hid hl
  have h0 : 0 < ms.length := by have := hm.1; have := hm.2.1; omega
  have hml := hm.1
  have p1 : 0 < (ms.length : Int) := by omega
  obtain ⟨aa, capa, rfl, -⟩ : ∃ a cap, va = .slice a ms.length cap ∧ True := by obtain ⟨a, cap, h, -⟩ := h; exact ⟨a, cap, h, trivial⟩
  obtain ⟨ax, capx, hvx, -⟩ := hx
  subst hvx
  obtain ⟨b, off, a2, c2, rfl, hc0, -, -⟩ := h.row h0
  rw [(hm.2.2.2.2.2.2 _ (List.getElem_mem h0)).1, Nat.add_zero] at hc0
  have HC := Lib.hid hc0
  have p2 : ((x.length : Int) != (c : Int)) = false := by simp; omega
  have hx6 : x.length ≤ 6 := by omega
  clear h hm hb hbo hl hc0 hml
  go_enter Try.func18, Try.ntmps18
  go_wp2_with fail
  refine HK.out.mono ?_
  rintro e w1 ⟨rfl, hg⟩
  have HG := Lib.hid hg
  have hc1 := hg.cell HC.out (by simp)
  replace HA := Lib.hid (HA.out.same hg); replace HB := Lib.hid (HB.out.same hg); replace HX := Lib.hid (HX.out.same hg)
  clear hg
  go_wp2_with fail
  clear p2 hc1
  go_loop [7] (fun i => ∃ k : Nat, k ≤ x.length ∧ i = .int .i64 k ∧ Hid ((x.take k).all numB = true)) (fun i => x.length - (intOf i).toNat)
  case atStart => exact ⟨0, Nat.zero_le _, rfl, Lib.hid rfl⟩
  case round =>
    obtain ⟨k, hk, rfl, HA2⟩ := hrel
    by_cases hlt : k < x.length
    · obtain ⟨_, _, hv, _, _, hbc⟩ := HX.out
      simp only [Value.slice.injEq] at hv
      obtain ⟨rfl, -, rfl⟩ := hv
      obtain ⟨bb, ob, rfl, hx⟩ := Ints.at hbc hlt
      have h1 : (k : Int) < (x.length : Int) := by omega
      have i1 : IntKind.i64.wrap ((k : Int) + 1) = (k : Int) + 1 := IntWalk.i64_in _ (by omega)
      have HS := Lib.hid (all_snoc1 numB x k hlt)
      have HN : Hid (numB (x[k]?.getD 0) = false → (x.all numB && solB ms bs x) = false) := Lib.hid (fun e => by rw [all_no hlt e]; rfl)
      generalize x[k]?.getD 0 = z at *
      clear hbc
      by_cases h2 : z < 0
      · have HI : Hid (numB z = false) := Lib.hid (by unfold numB; simp; omega)
        go_wp2_with fail
        go_ret
        exact ⟨ret_bool (HN.out HI.out).symm, HG.out⟩
      · by_cases h3 : (1048576 : Int) < z
        · have HI : Hid (numB z = false) := Lib.hid (by unfold numB; simp; omega)
          go_wp2_with fail
          go_ret
          exact ⟨ret_bool (HN.out HI.out).symm, HG.out⟩
        · have HI : Hid (numB z = true) := Lib.hid (numB_iff.2 ⟨by omega, by omega⟩)
          go_wp2_with fail
          go_round
          case rel => exact ⟨k + 1, by omega, by go_num, Lib.hid (by rw [HS.out, HA2.out, HI.out]; rfl)⟩
          case measure => simp [intOf]; omega
    · have h1 : ¬ (k : Int) < (x.length : Int) := by omega
      have HAL : Hid (x.all numB = true) := Lib.hid (by have := HA2.out; rwa [List.take_of_length_le (by omega)] at this)
      have HVF : Hid (VecF c x) := Lib.hid ⟨HL.out, fun z hz => numB_iff.1 (List.all_eq_true.1 HAL.out z hz)⟩
      go_wp2_with fail
      refine (rApply_any HA.out HM.out HX.out HL.out (fun z hz => by have := HVF.out.2 z hz; omega)).mono ?_
      rintro e w3 ⟨v3, rfl, ho, hg⟩
      have HO : Hid (Ints w3 v3 (ms.map (fun q => dotL q.2 x))) := Lib.hid (ho.ints (fun z hz => by
        obtain ⟨q, hq, rfl⟩ := List.mem_map.1 hz
        obtain ⟨h1, h2⟩ := HM.out.2.2.2.2.2.2 q hq
        exact dotF_bd h1 h2 (by omega) HVF.out))
      replace HG := Lib.hid (grown_trans HG.out hg); replace HB := Lib.hid (HB.out.same hg)
      clear ho hg
      go_wp2_with fail
      refine (same_any _ _ _ _ _ HO.out HB.out).mono ?_
      rintro e w4 ⟨rfl, hd⟩
      replace HG := Lib.hid (grown_trans HG.out (hd.grown none))
      clear hd
      go_wp2_with fail
      go_ret
      exact ⟨ret_bool (by rw [HAL.out, Bool.true_and]; unfold solB; rfl), HG.out⟩
end
/-- One answer for both sides. -/
theorem hsolves_u (ms : List Row) (bs x : List Int) : ∃ B : Bool, (∀ w v u t, RowsI w v ms → Ints w u bs → Ints w t x → Calls Try.prog 17 #[v, u, t] w fun e w' => e = .returned (.bool B) ∧ w.grownBy w' none) ∧ ∀ w v u t, RowsI w v ms → Ints w u bs → Ints w t x → Calls Try.prog 18 #[v, u, t] w fun e w' => e = .returned (.bool B) ∧ w.grownBy w' none := by
  obtain ⟨err, h1, h2, h3⟩ := hcheck_u ms bs
  rcases h3 with h3 | ⟨rfl, r, c, hm, hr, hc, hb⟩
  · exact ⟨false, fun w v u t a b _ => hsolves_err (h1 w v u a b) h3, fun w v u t a b _ => rsolves_err (h2 w v u a b) h3⟩
  · by_cases hl : x.length = c
    · cases ha : x.all numB with
      | true =>
        have hf : VecF c x := ⟨hl, fun z hz => numB_iff.1 (List.all_eq_true.1 ha z hz)⟩
        refine ⟨solB ms bs x, fun w v u t a b d => hsolves_fin (a.toP hm) hm hr hc b hb d hf, fun w v u t a b d => ?_⟩
        have := rsolves_fit (a.toP hm) hm hr hc b hb d hl
        rwa [ha, Bool.true_and] at this
      | false =>
        refine ⟨false, fun w v u t a b d => hsolves_inf (a.toP hm) hm hr hc b hb d (by unfold finiteB; rw [ha, Bool.and_false]), fun w v u t a b d => ?_⟩
        have := rsolves_fit (a.toP hm) hm hr hc b hb d hl
        rwa [ha, Bool.false_and] at this
    · cases hf : finiteB x with
      | true => exact ⟨false, fun w v u t a b d => hsolves_len (a.toP hm) hm hr hc b hb d hf hl, fun w v u t a b d => rsolves_len (a.toP hm) hm hr hc b hb d hl⟩
      | false => exact ⟨false, fun w v u t a b d => hsolves_inf (a.toP hm) hm hr hc b hb d hf, fun w v u t a b d => rsolves_len (a.toP hm) hm hr hc b hb d hl⟩
end Go.Proofs.Ytgcfafjgaifmiaa
