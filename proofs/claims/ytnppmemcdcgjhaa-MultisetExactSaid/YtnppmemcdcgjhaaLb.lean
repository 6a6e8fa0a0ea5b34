/- The reference's Valid, most, Most. -/
import Derived.Test.YtnppmemcdcgjhaaLa
import Derived.Test.YtnppmemcdcgjhaaHi
namespace Go.Proofs.Ytnppmemcdcgjhaa
open Go.RowKit
set_option linter.unusedVariables false

set_option maxRecDepth 100000 in
set_option maxHeartbeats 2000000 in
theorem rvalid_any (vt : Value) (ps : List BRow) (w : World) (ht : BRowsP w vt ps) :
    Calls Try.prog 24 #[vt] w fun e w' => e = .returned (.bool (validT (ps.map Prod.snd))) ∧ Drew w w' := by
  obtain ⟨a, cap, rfl, hml, hct, hrs⟩ := ht
  have HCT := Lib.hid hct; have HRS := Lib.hid hrs
  have hml2 : ps.length ≤ 9223372036854775807 := by unfold maxLen at hml; omega
  clear hct hrs
  go_enter Try.func24, Try.ntmps24
  go_wp2_with fail
  go_loopw [3] (fun i wr => ∃ k n : Nat, i = .int .i64 k ∧ k ≤ ps.length ∧ Hid (∀ q ∈ ps.take k, q.2.length ≤ 12 ∧ q.2.length = ((ps.map Prod.snd)[0]?.getD []).length) ∧ wr = w.drewN n) (fun i _ => ps.length - (intOf i).toNat)
  case atStart => exact ⟨0, 0, rfl, Nat.zero_le _, Lib.hid (by simp), rfl⟩
  case round =>
    obtain ⟨k, n, rfl, hk, hall, rfl⟩ := hrel
    by_cases hkb : k < ps.length
    · have h2 : (k : Int) < (ps.length : Int) := by omega
      have h20 : (0 : Int) < (ps.length : Int) := by omega
      obtain ⟨b, off, rfl, hc1⟩ := BRowsP.at HCT.out hkb
      obtain ⟨b', off', hbe, hc0⟩ := BRowsP.at HCT.out (show 0 < ps.length by omega)
      simp only [Option.some.injEq, Addr.mk.injEq, and_true] at hbe
      obtain ⟨rfl, rfl⟩ := hbe
      rw [Nat.add_zero] at hc0
      have HP0 : Hid (((ps.map Prod.snd)[0]?.getD []) = (ps[0]).2) := Lib.hid (by rw [List.getElem?_eq_getElem (by simpa using (show 0 < ps.length by omega))]; simp)
      have HB1 := Lib.hid (HRS.out _ (List.getElem_mem hkb)); have HB0 := Lib.hid (HRS.out _ (List.getElem_mem (show 0 < ps.length by omega)))
      have HTK : Hid (ps.take (k + 1) = ps.take k ++ [ps[k]]) := Lib.hid (by rw [List.take_add_one, List.getElem?_eq_getElem hkb]; rfl)
      have HM : Hid (ps[k] ∈ ps) := Lib.hid (List.getElem_mem hkb)
      generalize ps[k] = P at *
      generalize ps[0]'(by omega) = P0 at *
      obtain ⟨pv, P⟩ := P
      obtain ⟨pv0, P0⟩ := P0
      obtain ⟨⟨a1, c1, hv1, -, -⟩, -⟩ := HB1.out
      obtain ⟨⟨a2, c2, hv2, -, -⟩, -⟩ := HB0.out
      dsimp only at hv1 hv2 hc1 hc0 HP0
      subst hv1 hv2
      have i1 : IntKind.i64.wrap ((k : Int) + 1) = (k : Int) + 1 := IntWalk.i64_in _ (by omega)
      have fails : (P.length ≤ 12 ∧ P.length = P0.length) ∨ Hid (validT (ps.map Prod.snd) = false) := by
        by_cases hx : P.length ≤ 12 ∧ P.length = P0.length
        · exact .inl hx
        · refine .inr (Lib.hid ?_)
          cases e : validT (ps.map Prod.snd)
          · rfl
          · have := (validT_iff.1 e).2 P (List.mem_map.2 ⟨_, HM.out, rfl⟩)
            rw [HP0.out] at this
            exact absurd this hx
      clear HB1 HB0 HM
      by_cases hpe : P.length = P0.length
      · have h4 : ((P.length : Int) != (P0.length : Int)) = false := by simp [hpe]
        by_cases hp12 : P.length ≤ 12
        · have h3 : decide ((12 : Int) < (P.length : Int)) = false := by simp; omega
          have HPE := Lib.hid hpe; have HP12 := Lib.hid hp12
          clear hpe fails hp12
          go_wp2_with fail
          go_big_quiet (fail)
          go_wp2_with fail
          go_roundw
          case rel => exact ⟨k + 1, _, by go_num, by omega, Lib.hid (fun q hq => by
            rw [HTK.out] at hq
            rcases List.mem_append.1 hq with hq | hq
            · exact hall.out q hq
            · rw [List.mem_singleton.1 hq, HP0.out]
              exact ⟨HP12.out, HPE.out⟩), rfl⟩
          case measure => simp [intOf]; omega
        · have h3 : decide ((12 : Int) < (P.length : Int)) = true := by simp; omega
          have HN : Hid (validT (ps.map Prod.snd) = false) := fails.resolve_left (fun h => hp12 h.1)
          clear hpe fails hp12
          go_wp2_with fail
          go_big_quiet (fail)
          go_wp2_with fail
          go_ret
          exact ⟨by rw [HN.out]; rfl, (Drew.mk _ _).trans (Drew.mk _ _)⟩
      · have h4 : ((P.length : Int) != (P0.length : Int)) = true := by simp; omega
        have HN : Hid (validT (ps.map Prod.snd) = false) := fails.resolve_left (fun h => hpe h.2)
        clear hpe fails
        go_wp2_with fail
        go_big_quiet (fail)
        go_wp2_with fail
        go_ret
        exact ⟨by rw [HN.out]; rfl, (Drew.mk _ _).trans (Drew.mk _ _)⟩
    · have h2 : ¬ (k : Int) < (ps.length : Int) := by omega
      have HV : Hid (validT (ps.map Prod.snd) = decide ((ps.length : Int) ≤ 12)) := Lib.hid (by
        rw [Bool.eq_iff_iff, validT_iff, decide_eq_true_iff, List.length_map]
        refine ⟨fun h => by omega, fun h => ⟨by omega, fun r hr => ?_⟩⟩
        obtain ⟨q, hq, rfl⟩ := List.mem_map.1 hr
        exact hall.out q (by rw [List.take_of_length_le (by omega)]; exact hq))
      by_cases h12 : (ps.length : Int) ≤ 12
      · go_wp2_with fail
        go_ret
        exact ⟨by rw [HV.out, decide_eq_true (by omega)]; rfl, Drew.mk _ _⟩
      · go_wp2_with fail
        go_ret
        exact ⟨by rw [HV.out, decide_eq_false (by omega)]; rfl, Drew.mk _ _⟩

theorem full_int {w : World} {base g n : Nat} {xs : List Int} (h : OwnI w base (.slice (some ⟨g, 0, none⟩) n n) xs) (hl : xs.length = n) : w.heap[g]? = some (.cells (xs.map (Value.int .i64)).toArray 3 (0, 0)) := by
  rcases h.2 with ⟨h0, -⟩ | ⟨g', cap, cur, hv, -, hh, hn, hm, hs, ht⟩
  · cases h0
  · simp only [Value.slice.injEq, Option.some.injEq, Addr.mk.injEq, and_true] at hv
    obtain ⟨rfl, -, rfl⟩ := hv
    rw [List.take_of_length_le (by simp; omega)] at ht
    rw [hh, ← ht]
theorem full_bool {w : World} {base g n : Nat} {xs : List Bool} (h : OwnB w base (.slice (some ⟨g, 0, none⟩) n n) xs) (hl : xs.length = n) : w.heap[g]? = some (.cells (xs.map Value.bool).toArray 4 (0, 0)) := by
  rcases h.2 with ⟨h0, -⟩ | ⟨g', cap, cur, hv, -, hh, hn, hm, hs, ht⟩
  · cases h0
  · simp only [Value.slice.injEq, Option.some.injEq, Addr.mk.injEq, and_true] at hv
    obtain ⟨rfl, -, rfl⟩ := hv
    rw [List.take_of_length_le (by simp; omega)] at ht
    rw [hh, ← ht]
/-- The owners, as far as they are set to -1. -/
def FillM (w : World) (g n c : Nat) : Prop := w.heap[g]? = some (.cells ((List.replicate c (-1 : Int) ++ List.replicate (n - c) 0).map (Value.int .i64)).toArray 3 (0, 0))
theorem FillM.cell {w : World} {g n c : Nat} (h : FillM w g n c) (hc : c < n) : w.cell? ⟨g, c, none⟩ = some (.int .i64 0) ∧ w.frozen? ⟨g, c, none⟩ = false := by
  unfold FillM at h
  refine ⟨?_, by unfold World.frozen?; dsimp only; rw [h]; rfl⟩
  unfold World.cell?
  dsimp only
  rw [h]
  simp [List.getElem?_append_right, List.getElem?_replicate, show ¬ n - c = 0 by omega]
theorem FillM.set {w : World} {g n c : Nat} (h : FillM w g n c) (hc : c < n) : FillM (w.setCell ⟨g, c, none⟩ (.int .i64 (-1))) g n (c + 1) := by
  unfold FillM at h ⊢
  rw [heap_set h]
  obtain ⟨m, rfl⟩ : ∃ m, n = c + (m + 1) := ⟨n - c - 1, by omega⟩
  have h1 := set_repl (List.replicate c (-1 : Int)) m 0 (-1)
  rw [List.length_replicate] at h1
  rw [show c + (m + 1) - c = m + 1 by omega, show c + (m + 1) - (c + 1) = m by omega]
  simp only [List.setIfInBounds_toArray, ← List.map_set, h1]
  rw [← List.replicate_succ']

set_option maxRecDepth 100000 in
set_option maxHeartbeats 2000000 in
theorem rmost_any (vt : Value) (ps : List BRow) (w : World) (n : Nat) (ht : BRowsP w vt ps) (hl : ps.length ≤ 12) (hn : n ≤ 12) (hc : ∀ p ∈ ps, p.2.length = n) :
    Calls Try.prog 51 #[vt] w (NuTo (ps.map Prod.snd) w) := by
  have HT := Lib.hid ht; have HC := Lib.hid hc
  have HF : Hid (Few12 ps) := Lib.hid ⟨hl, fun p hp => by rw [hc p hp]; exact hn⟩
  obtain ⟨a, cap, rfl, -, hct, hrs⟩ := ht
  have HTL : Hid ((ps.map Prod.snd).length = ps.length) := Lib.hid (by simp)
  clear hc
  by_cases h0 : ps.length = 0
  · have HE : Hid (ps = []) := Lib.hid (List.eq_nil_of_length_eq_zero h0)
    have k0 : ((ps.length : Int) == 0) = true := by simp [h0]
    clear h0 hct hrs
    go_enter Try.func51, Try.ntmps51
    go_wp2_with fail
    go_ret
    refine ⟨0, rfl, ?_, grown_refl _ _⟩
    rw [HE.out]
    exact ⟨⟨[], ⟨by simp, by simp, by simp⟩, rfl⟩, fun M hM => by
      cases M with
      | nil => exact Nat.le_refl _
      | cons p M => have := hM.edge p (by simp); simp [tb] at this⟩
  have k0 : ((ps.length : Int) == 0) = false := beq_eq_false_iff_ne.2 (by omega)
  have k1 : (0 : Int) < (ps.length : Int) := by omega
  obtain ⟨b, off, rfl, hc0⟩ := BRowsP.at hct (show 0 < ps.length by omega)
  rw [Nat.add_zero] at hc0
  have HB0 := Lib.hid (hrs _ (List.getElem_mem (show 0 < ps.length by omega)))
  have HLN : Hid ((ps[0]'(by omega)).2.length = n) := Lib.hid (HC.out _ (List.getElem_mem (show 0 < ps.length by omega)))
  clear hct hrs h0
  generalize ps[0]'(by omega) = P0 at *
  obtain ⟨pv0, P0⟩ := P0
  obtain ⟨⟨a2, c2, hv2, -, -⟩, -⟩ := HB0.out
  dsimp only at hv2 hc0 HLN
  subst hv2
  rw [HLN.out] at hc0
  clear HB0 HLN
  go_enter Try.func51, Try.ntmps51
  go_wp2_with (at_make; refine make_int rfl _ _ rfl n rfl rfl (by omega) ?_)
  intro wb hown hg
  have HF0 : Hid (FillM wb w.heap.size n 0) := Lib.hid (by
    have := full_int hown (by simp)
    unfold FillM
    simpa using this)
  have HG := Lib.hid hg
  clear hown hg
  go_wp2_with fail
  go_loopw [4] (fun i wr => ∃ c : Nat, i = .int .i64 c ∧ c ≤ n ∧ Hid (FillM wr w.heap.size n c) ∧ Hid (w.grownBy wr none)) (fun i _ => n - (intOf i).toNat)
  case atStart => exact ⟨0, rfl, Nat.zero_le _, HF0, HG⟩
  case round =>
    obtain ⟨c, rfl, hcn, hfi, hgr⟩ := hrel
    by_cases hcb : c < n
    · have h1 : (c : Int) < (n : Int) := by omega
      have i1 : IntKind.i64.wrap ((c : Int) + 1) = (c : Int) + 1 := IntWalk.i64_in _ (by omega)
      obtain ⟨p1, p2⟩ := hfi.out.cell hcb
      have HF1 := Lib.hid (hfi.out.set hcb)
      have HG1 : Hid (w.grownBy (wr.setCell ⟨w.heap.size, c, none⟩ (.int .i64 (-1))) none) := Lib.hid (grown_then hgr.out (grown_set _ _ _) (by rintro j ⟨⟩; exact .inl (Nat.le_refl _)))
      go_wp2_with fail
      go_roundw
      case rel => exact ⟨c + 1, by go_num, by omega, HF1, HG1⟩
      case measure => simp [intOf]; omega
    · obtain rfl : c = n := by omega
      have h1 : ¬ (c : Int) < (c : Int) := by omega
      have HO : Hid (RowO wr w.heap.size c (List.replicate 12 0)) := Lib.hid ⟨rfl, hn, by
        have := hfi.out
        unfold FillM at this
        rw [this, List.take_replicate, Nat.min_eq_left hn]
        simp⟩
      clear hfi
      go_wp2_with fail
      rename World => wq
      go_loopw [5, 6] (fun nv i wr => ∃ (k m : Nat) (O : List Nat), i = .int .i64 k ∧ nv = .int .i64 m ∧ k ≤ ps.length ∧ m ≤ k ∧ Hid (MostI (ps.map Prod.snd) k O m) ∧ Hid (RowO wr w.heap.size c O) ∧ Hid (w.grownBy wr none)) (fun _ i _ => ps.length - (intOf i).toNat)
      case atStart => exact ⟨0, 0, _, rfl, rfl, Nat.zero_le _, Nat.le_refl _, Lib.hid (most_start _), HO, hgr⟩
      case round =>
        obtain ⟨k, m, O, rfl, rfl, hk, hm, hI, hA, hG⟩ := hrel
        by_cases hkb : k < ps.length
        · have h1 : (k : Int) < (ps.length : Int) := by omega
          have i1 : IntKind.i64.wrap ((k : Int) + 1) = (k : Int) + 1 := IntWalk.i64_in _ (by omega)
          have i2 : IntKind.i64.wrap ((m : Int) + 1) = (m : Int) + 1 := IntWalk.i64_in _ (by omega)
          go_wp2_with (at_make; refine make_bool rfl _ _ rfl c rfl rfl (by omega) ?_)
          intro wm hown hgm
          have HS : Hid (RowS wm wr.heap.size c (List.replicate 12 false)) := Lib.hid ⟨rfl, hn, by
            have := full_bool hown (by simp)
            rw [this, List.take_replicate, Nat.min_eq_left hn]⟩
          have HA2 : Hid (AugR w wm w.heap.size wr.heap.size c O (List.replicate 12 false)) := Lib.hid ⟨grown_trans hG.out hgm, ⟨hA.out.1, hA.out.2.1, (hgm.block _ (Array.getElem?_eq_some_iff.1 hA.out.2.2).1 (by simp)).trans hA.out.2.2⟩, HS.out, Nat.le_refl _, hG.out.size, Nat.ne_of_lt (Array.getElem?_eq_some_iff.1 hA.out.2.2).1⟩
          clear hown hgm
          go_wp2_with fail
          refine (try_any _ ps w w.heap.size wr.heap.size c HT.out HC.out _ k O (List.replicate 12 false) _ rfl hkb hl hI.out.pre HA2.out).mono ?_
          rintro e w1 ⟨O1, S1, ha1, (⟨rfl, hw⟩ | ⟨rfl, rfl, hl1⟩)⟩
          · have HI2 := Lib.hid (hI.out.win hw); have HO2 := Lib.hid ha1.o; have HG2 := Lib.hid ha1.g
            clear ha1 hw
            go_wp2_with fail
            go_roundw
            case rel => exact ⟨k + 1, m + 1, O1, by go_num, by go_num, by omega, by omega, HI2, HO2, HG2⟩
            case measure => simp [intOf]; omega
          · have HI2 := Lib.hid (hI.out.lose hl1 (fun r j hj => (HF.out.tb hj).2)); have HO2 := Lib.hid ha1.o; have HG2 := Lib.hid ha1.g
            clear ha1 hl1
            go_wp2_with fail
            go_roundw
            case rel => exact ⟨k + 1, m, O1, by go_num, rfl, by omega, by omega, HI2, HO2, HG2⟩
            case measure => simp [intOf]; omega
        · obtain rfl : k = ps.length := by omega
          have h1 : ¬ (ps.length : Int) < (ps.length : Int) := by omega
          go_wp2_with fail
          go_ret
          have h2 := hI.out
          rw [← HTL.out] at h2
          exact ⟨m, rfl, h2.nu (fun r j hj => (HF.out.tb hj).1), hG.out⟩

end Go.Proofs.Ytnppmemcdcgjhaa
