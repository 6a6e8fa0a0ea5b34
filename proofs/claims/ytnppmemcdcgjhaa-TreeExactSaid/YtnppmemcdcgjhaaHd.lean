/- most, Valid, Most. -/
import Derived.Test.YtnppmemcdcgjhaaHb
import Derived.Test.YtnppmemcdcgjhaaHc
namespace Go.Proofs.Ytnppmemcdcgjhaa
open Go.RowKit
set_option linter.unusedVariables false

def NuTo (T : List (List Bool)) (w : World) (e : Ending) (w' : World) : Prop := ∃ n : Nat, e = .returned (.int .i64 (n : Int)) ∧ Nu T n ∧ w.grownBy w' none
/-- A table with few rows and columns. -/
def Few12 (ps : List BRow) : Prop := ps.length ≤ 12 ∧ ∀ p ∈ ps, p.2.length ≤ 12
theorem Few12.tb {ps : List BRow} (h : Few12 ps) {r j : Nat} (hj : tb (ps.map Prod.snd) r j = true) : r < (ps.map Prod.snd).length ∧ j < 12 := by
  obtain ⟨h1, h2⟩ := tb_lt hj
  have h3 : r < ps.length := by simpa using h1
  have := h.2 _ (List.getElem_mem h3)
  simp at h2
  exact ⟨h1, by omega⟩

set_option maxRecDepth 100000 in
set_option maxHeartbeats 1000000 in
theorem most_any (vt : Value) (ps : List BRow) (w : World) (ht : BRowsP w vt ps) (hf : Few12 ps) :
    Calls Try.prog 48 #[vt] w (NuTo (ps.map Prod.snd) w) := by
  have HT := Lib.hid ht; have HF := Lib.hid hf
  obtain ⟨a, cap, rfl, -, -, -⟩ := ht
  have hl12 : ps.length ≤ 12 := hf.1
  have HTL : Hid ((ps.map Prod.snd).length = ps.length) := Lib.hid (by simp)
  clear hf
  go_enter Try.func48, Try.ntmps48
  go_wp2_with fail
  generalize hwb : World.alloc _ _ = wb
  have hA : ArrO wb w.heap.size (List.replicate 12 0) := by rw [← hwb]; exact ⟨rfl, heap_new _ rfl⟩
  have hg : w.grownBy wb none := by rw [← hwb]; exact World.grownBy_alloc _ _ none
  have HA := Lib.hid hA; have HG := Lib.hid hg
  clear hwb hA hg
  go_loopw [4, 9] (fun nv i wr => ∃ (k n : Nat) (O : List Nat), i = .int .i64 k ∧ nv = .int .i64 n ∧ k ≤ ps.length ∧ n ≤ k ∧ Hid (MostI (ps.map Prod.snd) k O n) ∧ Hid (ArrO wr w.heap.size O) ∧ Hid (w.grownBy wr none)) (fun _ i _ => ps.length - (intOf i).toNat)
  case atStart => exact ⟨0, 0, _, rfl, rfl, Nat.zero_le _, Nat.le_refl _, Lib.hid (most_start _), HA, HG⟩
  case round =>
    obtain ⟨k, n, O, rfl, rfl, hk, hn, hI, hA, hG⟩ := hrel
    by_cases hkb : k < ps.length
    · have h1 : (k : Int) < (ps.length : Int) := by omega
      have i1 : IntKind.i64.wrap ((k : Int) + 1) = (k : Int) + 1 := IntWalk.i64_in _ (by omega)
      have i2 : IntKind.i64.wrap ((n : Int) + 1) = (n : Int) + 1 := IntWalk.i64_in _ (by omega)
      go_wp2_with fail
      refine (augment_any _ ps w w.heap.size wr.heap.size HT.out HF.out.1 HF.out.2 _ k O (List.replicate 12 false) _ rfl hkb hI.out.pre ⟨grown_trans hG.out (World.grownBy_alloc _ _ none), ⟨hA.out.1, heap_old _ hA.out.2⟩, ⟨rfl, heap_new _ rfl⟩, Nat.le_refl _, hG.out.size, Nat.ne_of_lt (Array.getElem?_eq_some_iff.1 hA.out.2).1⟩).mono ?_
      rintro e w1 ⟨O1, S1, ha1, (⟨rfl, hw⟩ | ⟨rfl, rfl, hl⟩)⟩
      · have HI2 := Lib.hid (hI.out.win hw); have HA2 := Lib.hid ha1.o; have HG2 := Lib.hid ha1.g
        clear ha1 hw
        go_wp2_with fail
        go_roundw
        case rel => exact ⟨k + 1, n + 1, O1, by go_num, by go_num, by omega, by omega, HI2, HA2, HG2⟩
        case measure => simp [intOf]; omega
      · have HI2 := Lib.hid (hI.out.lose hl (fun r j hj => (HF.out.tb hj).2)); have HA2 := Lib.hid ha1.o; have HG2 := Lib.hid ha1.g
        clear ha1 hl
        go_wp2_with fail
        go_roundw
        case rel => exact ⟨k + 1, n, O1, by go_num, rfl, by omega, by omega, HI2, HA2, HG2⟩
        case measure => simp [intOf]; omega
    · obtain rfl : k = ps.length := by omega
      have h1 : ¬ (ps.length : Int) < (ps.length : Int) := by omega
      go_wp2_with fail
      go_ret
      have h2 := hI.out
      rw [← HTL.out] at h2
      exact ⟨n, rfl, h2.nu (fun r j hj => (HF.out.tb hj).1), hG.out⟩

/-- Is a table valid? -/
def validT (T : List (List Bool)) : Bool := decide (T.length ≤ 12) && T.all (fun r => decide (r.length ≤ 12) && r.length == (T[0]?.getD []).length)
theorem validT_iff {T : List (List Bool)} : validT T = true ↔ T.length ≤ 12 ∧ ∀ r ∈ T, r.length ≤ 12 ∧ r.length = (T[0]?.getD []).length := by
  unfold validT
  simp [List.all_eq_true]
theorem validT_few {ps : List BRow} (h : validT (ps.map Prod.snd) = true) : Few12 ps := by
  obtain ⟨h1, h2⟩ := validT_iff.1 h
  exact ⟨by simpa using h1, fun p hp => (h2 _ (List.mem_map_of_mem hp)).1⟩

set_option maxRecDepth 100000 in
set_option maxHeartbeats 1000000 in
theorem Valid_any (vt : Value) (ps : List BRow) (w : World) (ht : BRowsP w vt ps) :
    Calls Try.prog 23 #[vt] w fun e w' => e = .returned (.bool (validT (ps.map Prod.snd))) ∧ w' = w := by
  obtain ⟨a, cap, rfl, hml, hct, hrs⟩ := ht
  have HCT := Lib.hid hct; have HRS := Lib.hid hrs
  clear hct hrs
  by_cases h12 : ps.length ≤ 12
  · have h1 : ¬ (12 : Int) < (ps.length : Int) := by omega
    go_enter Try.func23, Try.ntmps23
    go_wp2_with fail
    go_loop [10] (fun i => ∃ k : Nat, i = .int .i64 k ∧ k ≤ ps.length ∧ Hid (∀ q ∈ ps.take k, q.2.length ≤ 12 ∧ q.2.length = ((ps.map Prod.snd)[0]?.getD []).length)) (fun i => ps.length - (intOf i).toNat)
    case atStart => exact ⟨0, rfl, Nat.zero_le _, Lib.hid (by simp)⟩
    case round =>
      obtain ⟨k, rfl, hk, hall⟩ := hrel
      by_cases hkb : k < ps.length
      · have h2 : (k : Int) < (ps.length : Int) := by omega
        have h20 : (0 : Int) < (ps.length : Int) := by omega
        obtain ⟨b, off, rfl, hc1⟩ := BRowsP.at HCT.out hkb
        obtain ⟨b', off', hbe, hc0⟩ := BRowsP.at HCT.out (show 0 < ps.length by omega)
        simp only [Option.some.injEq, Addr.mk.injEq, and_true] at hbe
        obtain ⟨rfl, rfl⟩ := hbe
        rw [Nat.add_zero] at hc0
        have HP0 : Hid (((ps.map Prod.snd)[0]?.getD []) = (ps[0]).2) := Lib.hid (by rw [List.getElem?_eq_getElem (by simpa using (show 0 < ps.length by omega))]; simp)
        have HB1 := Lib.hid (HRS.out _ (List.getElem_mem hkb)); have HB0 := Lib.hid (HRS.out _ (List.getElem_mem (show 0 < ps.length by omega)))
        have HTK : Hid (ps.take (k + 1) = ps.take k ++ [ps[k]]) := Lib.hid (by rw [List.take_add_one, List.getElem?_eq_getElem hkb]; rfl)
        have HM : Hid (ps[k] ∈ ps) := Lib.hid (List.getElem_mem hkb)
        generalize ps[k] = P at *
        generalize ps[0]'(by omega) = P0 at *
        obtain ⟨pv, P⟩ := P
        obtain ⟨pv0, P0⟩ := P0
        obtain ⟨⟨a1, c1, hv1, -, -⟩, -⟩ := HB1.out
        obtain ⟨⟨a2, c2, hv2, -, -⟩, -⟩ := HB0.out
        dsimp only at hv1 hv2 hc1 hc0 HP0
        subst hv1 hv2
        have i1 : IntKind.i64.wrap ((k : Int) + 1) = (k : Int) + 1 := IntWalk.i64_in _ (by omega)
        have fails : (P.length ≤ 12 ∧ P.length = P0.length) ∨ Hid (validT (ps.map Prod.snd) = false) := by
          by_cases hx : P.length ≤ 12 ∧ P.length = P0.length
          · exact .inl hx
          · refine .inr (Lib.hid ?_)
            cases e : validT (ps.map Prod.snd)
            · rfl
            · have := (validT_iff.1 e).2 P (List.mem_map.2 ⟨_, HM.out, rfl⟩)
              rw [HP0.out] at this
              exact absurd this hx
        clear HB1 HB0 HM
        by_cases hp12 : P.length ≤ 12
        · have h3 : ¬ (12 : Int) < (P.length : Int) := by omega
          by_cases hpe : P.length = P0.length
          · have h4 : ((P.length : Int) != (P0.length : Int)) = false := by simp [hpe]
            have HPE := Lib.hid hpe; have HP12 := Lib.hid hp12
            clear hpe fails
            go_wp2_with fail
            go_round
            case rel => exact ⟨k + 1, by go_num, by omega, Lib.hid (fun q hq => by
              rw [HTK.out] at hq
              rcases List.mem_append.1 hq with hq | hq
              · exact hall.out q hq
              · rw [List.mem_singleton.1 hq, HP0.out]
                exact ⟨HP12.out, HPE.out⟩)⟩
            case measure => simp [intOf]; omega
          · have h4 : ((P.length : Int) != (P0.length : Int)) = true := by simp; omega
            have HN : Hid (validT (ps.map Prod.snd) = false) := fails.resolve_left (fun h => hpe h.2)
            clear hpe fails
            go_wp2_with fail
            go_ret
            exact ⟨by rw [HN.out]; rfl, rfl⟩
        · have h3 : (12 : Int) < (P.length : Int) := by omega
          have HN : Hid (validT (ps.map Prod.snd) = false) := fails.resolve_left (fun h => hp12 h.1)
          clear fails
          go_wp2_with fail
          go_ret
          exact ⟨by rw [HN.out]; rfl, rfl⟩
      · have h2 : ¬ (k : Int) < (ps.length : Int) := by omega
        go_wp2_with fail
        go_ret
        have hv : validT (ps.map Prod.snd) = true := by
          refine validT_iff.2 ⟨by simpa using h12, fun r hr => ?_⟩
          obtain ⟨q, hq, rfl⟩ := List.mem_map.1 hr
          exact hall.out q (by rw [List.take_of_length_le (by omega)]; exact hq)
        exact ⟨by rw [hv]; rfl, rfl⟩
  · have h1 : (12 : Int) < (ps.length : Int) := by omega
    go_enter Try.func23, Try.ntmps23
    go_wp2_with fail
    go_ret
    refine ⟨?_, rfl⟩
    have : validT (ps.map Prod.snd) = false := by
      cases e : validT (ps.map Prod.snd)
      · rfl
      · exact absurd (by simpa using (validT_iff.1 e).1) h12
    rw [this]; rfl

end Go.Proofs.Ytnppmemcdcgjhaa
