/- The reference's Proves. -/
import Derived.Test.YtnppmemcdcgjhaaMl
namespace Go.Proofs.Ytnppmemcdcgjhaa
open Go.RowKit Tr
set_option linter.unusedVariables false

set_option maxRecDepth 100000 in
set_option maxHeartbeats 1500000 in
theorem rProvesT_any {P Q : Nat → Prop} (s t : Tr) (y z vm : Value) (xs : List Int) (w : World) (h : TrK P w y s) (h' : TrK Q w z t) (hs : size s ≤ 100000) (ht : size t ≤ 100000) (hm : Ints w vm xs) (hxl : xs.length ≤ 100000) :
    Calls Try.prog 45 #[.agg #[.int .i64 s.label, y], .agg #[.int .i64 t.label, z], vm] w (BoolTo (provB s t xs) w) := by
  obtain ⟨a, cap, rfl⟩ := h.slice
  obtain ⟨a', cap', rfl⟩ := h'.slice
  have H := Lib.hid h; have H' := Lib.hid h'; have HS := Lib.hid hs; have HT := Lib.hid ht; have HM := Lib.hid hm
  obtain ⟨am, cm, rfl, -, hmbd, hmc⟩ := hm
  have HMC := Lib.hid hmc
  clear h h' hs ht hmc hmbd
  have hnn : ∀ g : Nat, some g ≠ (none : Option Nat) := by intro g; simp
  have hx := bx4_new w (.int .i64 s.label) (.slice a s.kids.length cap) (.int .i64 t.label) (.slice a' t.kids.length cap') 45 45
  have hg0 : w.grownBy ((w.alloc (.cells #[.int .i64 s.label, .slice a s.kids.length cap] 45)).alloc (.cells #[.int .i64 t.label, .slice a' t.kids.length cap'] 45)) none := grown_after (World.grownBy_alloc _ _ none)
  have HX := Lib.hid hx; have HG0 := Lib.hid hg0
  clear hx hg0
  go_enter Try.func45, Try.ntmps45
  go_wp2_with fail
  generalize (w.alloc (.cells #[.int .i64 s.label, .slice a s.kids.length cap] 45)).alloc (.cells #[.int .i64 t.label, .slice a' t.kids.length cap'] 45) = wb at *
  refine (rValidT_any s _ _ (H.out.same HG0.out) HS.out).mono ?_
  rintro e w1 ⟨B1, rfl, hB1, hg1⟩
  have HB1 := Lib.hid hB1; have HG1 := Lib.hid (grown_trans HG0.out hg1); have HX1 := Lib.hid (HX.out.same hg1)
  clear hB1 hg1 HX HG0
  cases B1 with
  | false =>
    have HF := Lib.hid (provB_false1 (t := t) (xs := xs) (fun h => by have := HB1.out.2 h; cases this))
    go_wp2_with fail
    go_ret
    exact ⟨ret_bool HF.out.symm, HG1.out⟩
  | true =>
    have OK1 : Hid (OkT s) := Lib.hid (HB1.out.1 rfl)
    have hb2 := HX1.out.2.2.1; have hb3 := HX1.out.2.2.2
    go_wp2_with fail
    clear hb2 hb3
    refine (rValidT_any t _ _ (H'.out.same HG1.out) HT.out).mono ?_
    rintro e w2 ⟨B2, rfl, hB2, hg2⟩
    have HB2 := Lib.hid hB2; have HG2 := Lib.hid (grown_trans HG1.out hg2); have HX2 := Lib.hid (HX1.out.same hg2)
    clear hB2 hg2 HB1 HX1 HG1
    cases B2 with
    | false =>
      have HF := Lib.hid (provB_false2 (s := s) (xs := xs) (fun h => by have := HB2.out.2 h; cases this))
      go_wp2_with fail
      go_ret
      exact ⟨ret_bool HF.out.symm, HG2.out⟩
    | true =>
      have OK2 : Hid (OkT t) := Lib.hid (HB2.out.1 rfl)
      have hb0 := HX2.out.1; have hb1 := HX2.out.2.1
      go_wp2_with fail
      clear hb0 hb1
      refine (rwalk_any s _ _ (H.out.same HG2.out) HS.out).mono ?_
      rintro e w3 ⟨v3, rfl, ho3, hg3⟩
      obtain ⟨a3, c3, rfl⟩ := ownI_sl ho3
      have hln : ((pre s).map label).length = size s := by rw [List.length_map, len_pre]
      rw [hln]
      have HG3 := Lib.hid (grown_trans HG2.out hg3); have HX3 := Lib.hid (HX2.out.same hg3)
      clear hln ho3 hg3 HB2 HX2 HG2
      by_cases hlen : xs.length = size s
      case neg =>
        have k1 : ((xs.length : Int) != (size s : Int)) = true := by simp; omega
        have HF := Lib.hid (provB_false3 (t := t) hlen)
        clear hlen
        go_wp2_with fail
        go_ret
        exact ⟨ret_bool HF.out.symm, HG3.out⟩
      have k1 : ((xs.length : Int) != (size s : Int)) = false := by simp; omega
      have HLEN := Lib.hid hlen
      have hb2 := HX3.out.2.2.1; have hb3 := HX3.out.2.2.2
      clear hlen
      go_wp2_with fail
      clear hb2 hb3
      refine (rwalk_any t _ _ (H'.out.same HG3.out) HT.out).mono ?_
      rintro e w4 ⟨v4, rfl, ho4, hg4⟩
      obtain ⟨a4, c4, rfl⟩ := ownI_sl ho4
      have hln : ((pre t).map label).length = size t := by rw [List.length_map, len_pre]
      rw [hln]
      have HG4 := Lib.hid (grown_trans HG3.out hg4); have HX4 := Lib.hid (HX3.out.same hg4)
      clear hln ho4 hg4 HX3 HG3 k1
      go_wp2_with fail
      go_loop [8] (fun i => ∃ k : Nat, i = .int .i64 k ∧ k ≤ xs.length ∧ Hid (∀ j, j < k → 0 ≤ xs[j]?.getD 0 ∧ xs[j]?.getD 0 < (size t : Int))) (fun i => xs.length - (intOf i).toNat)
      case atStart => exact ⟨0, rfl, Nat.zero_le _, Lib.hid (by omega)⟩
      case round =>
        obtain ⟨k, rfl, hk, hR⟩ := hrel
        by_cases hkb : k < xs.length
        · have e1 : (k : Int) < (xs.length : Int) := by omega
          have i1 : IntKind.i64.wrap ((k : Int) + 1) = (k : Int) + 1 := IntWalk.i64_in _ (by omega)
          obtain ⟨mb, mo, rfl, hxc⟩ := Ints.at HMC.out hkb
          have hx1 := HG4.out.cell hxc (hnn _)
          have HNX : Hid (0 ≤ xs[k]?.getD 0 ∧ xs[k]?.getD 0 < (size t : Int) → ∀ j, j < k + 1 → 0 ≤ xs[j]?.getD 0 ∧ xs[j]?.getD 0 < (size t : Int)) := Lib.hid (fun h j hj => by
            by_cases e : j = k
            · subst e; exact h
            · exact hR.out j (by omega))
          have HFA : Hid (¬ (0 ≤ xs[k]?.getD 0 ∧ xs[k]?.getD 0 < (size t : Int)) → provB s t xs = false) := Lib.hid (fun h => provB_false4 (i := k) (by rw [← HLEN.out]; exact hkb) (by
            unfold labB
            by_cases h0 : 0 ≤ xs[k]?.getD 0
            · rw [decide_eq_false (p := xs[k]?.getD 0 < (size t : Int)) (fun h1 => h ⟨h0, h1⟩)]; simp
            · rw [decide_eq_false h0]; simp))
          clear hxc
          generalize xs[k]?.getD 0 = v at *
          by_cases hv0 : v < 0
          · have HF := Lib.hid (HFA.out (fun h => by omega))
            go_wp2_with fail
            go_ret
            exact ⟨ret_bool HF.out.symm, HG4.out⟩
          · by_cases hv1 : (size t : Int) ≤ v
            · have HF := Lib.hid (HFA.out (fun h => by omega))
              go_wp2_with fail
              go_ret
              exact ⟨ret_bool HF.out.symm, HG4.out⟩
            · have HF := Lib.hid (HNX.out ⟨by omega, by omega⟩)
              go_wp2_with fail
              go_round
              case rel => exact ⟨k + 1, by go_num, by omega, HF⟩
              case measure => simp [intOf]; omega
        · obtain rfl : k = xs.length := by omega
          have e1 : ¬ (xs.length : Int) < (xs.length : Int) := by omega
          have HF := Lib.hid (prov_rgt OK1.out OK2.out HLEN.out hR.out)
          have hb0 := HX4.out.1; have hb1 := HX4.out.2.1; have hb2 := HX4.out.2.2.1; have hb3 := HX4.out.2.2.2
          go_wp2_with fail
          refine (right_any t xs HT.out hR.out hxl s _ _ _ _ _ 0 _ (H.out.same HG4.out) (H'.out.same HG4.out) (HM.out.same HG4.out) HS.out (by have := HLEN.out; omega)).mono ?_
          rintro e w5 ⟨rfl, hg5⟩
          have HG5 := Lib.hid (grown_trans HG4.out hg5)
          clear hg5
          go_wp2_with fail
          go_ret
          exact ⟨ret_bool HF.out.symm, HG5.out⟩

end Go.Proofs.Ytnppmemcdcgjhaa
