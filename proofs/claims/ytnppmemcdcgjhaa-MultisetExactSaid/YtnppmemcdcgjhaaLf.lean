/- The reference's fixed: the contract. -/
import Derived.Test.YtnppmemcdcgjhaaLe
namespace Go.Proofs.Ytnppmemcdcgjhaa
open Go.RowKit
set_option linter.unusedVariables false

def FixTo (ps : List BRow) (row col : Nat) (w : World) (e : Ending) (w' : World) : Prop := ∃ g qs, e = .returned (.slice (some ⟨g, 0, none⟩) ps.length ps.length) ∧ OwnT w' w.heap.size (.slice (some ⟨g, 0, none⟩) ps.length ps.length) qs ∧ FixI ps qs row col ps.length ∧ w.grownBy w' none
theorem fx_ints (row col k c : Nat) : fx row col k c = (((k : Int) == (row : Int)) == ((c : Int) == (col : Int))) := by
  unfold fx
  congr 1
  · rw [Bool.eq_iff_iff]; simp; omega
  · rw [Bool.eq_iff_iff]; simp; omega

set_option maxRecDepth 100000 in
set_option maxHeartbeats 3000000 in
theorem fixed_any (vt : Value) (ps : List BRow) (w : World) (row col : Nat) (ht : BRowsP w vt ps) (hl : ps.length ≤ 1000) (h1 : ∀ p ∈ ps, 1 ≤ p.2.length ∧ p.2.length ≤ 1000) :
    Calls Try.prog 52 #[vt, .int .i64 (row : Int), .int .i64 (col : Int)] w (FixTo ps row col w) := by
  have HT := Lib.hid ht; have H1 := Lib.hid h1
  obtain ⟨a, cap, rfl, -, hct, hrs⟩ := ht
  have HCT := Lib.hid hct; have HRS := Lib.hid hrs
  clear hct hrs h1
  go_enter Try.func52, Try.ntmps52
  go_wp2_with (at_make; refine make_brows rfl _ _ rfl ps.length rfl rfl (by omega) ?_)
  intro w1 ho hg
  have HG := Lib.hid hg
  have HO : Hid (OwnT w1 w.heap.size (.slice (some ⟨w.heap.size, 0, none⟩) ps.length ps.length) (List.replicate ps.length nilB)) := Lib.hid ⟨ho, (fun q hq => by rw [List.eq_of_mem_replicate hq]; exact OwnB.nil _ _), List.pairwise_replicate.2 (.inr (by intro g hg; simp [nilB, Value.ownBlock] at hg))⟩
  clear ho hg
  obtain ⟨M, hMM⟩ : ∃ M, w.heap.size = M := ⟨_, rfl⟩
  have HMM := Lib.hid hMM
  rw [hMM] at HO ⊢
  clear hMM
  go_wp2_with fail
  go_loopw [8] (fun i wr => ∃ (k : Nat) (qs : List BRow), i = .int .i64 k ∧ k ≤ ps.length ∧ Hid (OwnT wr M (.slice (some ⟨M, 0, none⟩) ps.length ps.length) qs) ∧ Hid (FixI ps qs row col k) ∧ Hid (w.grownBy wr none)) (fun i _ => ps.length - (intOf i).toNat)
  case atStart => exact ⟨0, _, rfl, Nat.zero_le _, HO, Lib.hid ⟨by simp, fun x hx => by omega, fun x hx => by omega⟩, HG⟩
  case round =>
    obtain ⟨k, qs, rfl, hk, hO, hF, hG⟩ := hrel
    rename World => wk
    by_cases hkb : k < ps.length
    · have h2 : (k : Int) < (ps.length : Int) := by omega
      have i1 : IntKind.i64.wrap ((k : Int) + 1) = (k : Int) + 1 := IntWalk.i64_in _ (by omega)
      obtain ⟨b, off, rfl, hc0⟩ := BRowsP.at HCT.out hkb
      have HBR := Lib.hid ((HRS.out _ (List.getElem_mem hkb)).same hG.out); have HRC := Lib.hid (H1.out _ (List.getElem_mem hkb))
      have HFJ : Hid (∀ v, FixJ ps (qs.set k (v, (ps[k]).2)) row col k 0) := Lib.hid (fun v => hF.out.row hkb)
      have HPL : Hid ((ps.map Prod.snd)[k]?.getD [] = (ps[k]).2) := Lib.hid (by simp [hkb])
      generalize ps[k] = R at *
      obtain ⟨rv, R⟩ := R
      obtain ⟨⟨ra, rc, hrv, -, -⟩, -⟩ := HBR.out
      dsimp only at hrv hc0 HRC HFJ HPL
      subst hrv
      have HC0 := Lib.hid hc0
      have hR1 : 1 ≤ R.length := HRC.out.1
      have hR2 : R.length ≤ 1000 := HRC.out.2
      have hc1 := hG.out.cell hc0 (by simp)
      have HQL : Hid (qs.length = ps.length) := Lib.hid hF.out.len
      clear hc0
      go_wp2_with (at_builtin; refine app_bools rfl _ _ rfl wk.heap.size (.slice none 0 0) [] rfl (OwnB.nil _ _) _ R rfl HBR.out.1 HBR.out.2.1 (by simp; omega) (Nat.le_refl _) ?_)
      intro v2 w2 ho2 hg2
      replace ho2 : OwnB w2 wk.heap.size v2 R := ho2
      obtain ⟨a2, c2, rfl⟩ := ownB_open ho2
      have HG2 : Hid (wk.grownBy w2 none) := Lib.hid hg2
      obtain ⟨hcc, hfz⟩ := (hO.out.same7 hg2).1.cell k (by rw [HQL.out]; exact hkb)
      have HOT := Lib.hid (hO.out.put (k := k) (by rw [HQL.out]; exact hkb) ho2 hg2)
      have HJ0 := Lib.hid (HFJ.out (.slice a2 R.length c2))
      have HG3 : Hid (w.grownBy (w2.setCell ⟨M, k, none⟩ (.slice a2 R.length c2)) none) := Lib.hid (grown_then (grown_trans hG.out hg2) (grown_set w2 ⟨M, k, none⟩ (.slice a2 R.length c2)) (by rintro j ⟨⟩; exact .inl (Nat.le_of_eq HMM.out)))
      clear ho2 hg2 hc1
      go_wp2_with fail
      clear hcc hfz
      go_loopw [9] (fun i wr => ∃ (c : Nat) (q2 : List BRow), i = .int .i64 c ∧ c ≤ R.length ∧ Hid (OwnT wr M (.slice (some ⟨M, 0, none⟩) ps.length ps.length) q2) ∧ Hid (FixJ ps q2 row col k c) ∧ Hid (w.grownBy wr none)) (fun i _ => R.length - (intOf i).toNat)
      case atStart => exact ⟨0, _, rfl, Nat.zero_le _, HOT, HJ0, HG3⟩
      case round =>
        obtain ⟨c, q2, rfl, hc, hO2, hJ, hG2⟩ := hrel
        have hrc := hG2.out.cell HC0.out (by simp)
        by_cases hcb : c < R.length
        · have h3 : (c : Int) < (R.length : Int) := by omega
          have i2 : IntKind.i64.wrap ((c : Int) + 1) = (c : Int) + 1 := IntWalk.i64_in _ (by omega)
          have HKQ : Hid (k < q2.length) := Lib.hid (by rw [hJ.out.i.len]; exact hkb)
          have hfxi := fx_ints row col k c
          generalize hb1 : ((k : Int) == (row : Int)) = b1 at hfxi
          generalize hb2 : ((c : Int) == (col : Int)) = b2 at hfxi
          have HFX := Lib.hid hfxi
          clear hfxi
          have HQK : Hid ((q2[k]'HKQ.out).2.length = R.length) := Lib.hid (by
            have := hJ.out.lenk
            rw [HPL.out, List.getElem?_eq_getElem (by rw [List.length_map]; exact HKQ.out)] at this
            simpa using this)
          have HOB := Lib.hid (hO2.out.2.1 _ (List.getElem_mem HKQ.out))
          obtain ⟨hcell, -⟩ := hO2.out.1.cell k HKQ.out
          obtain ⟨b, cp, hv, -, -⟩ := ownB_own HOB.out (by rw [HQK.out]; omega)
          have HQ : Hid (q2[k]'HKQ.out = (.slice (some ⟨b, 0, none⟩) (q2[k]'HKQ.out).2.length cp, (q2[k]'HKQ.out).2)) := Lib.hid (by rw [← hv])
          have HCL := Lib.hid (fun hf => hJ.out.clear HKQ.out hf hv.symm)
          rw [hv] at HOB hcell
          obtain ⟨hx1, hx2⟩ := HOB.out.cell c (by rw [HQK.out]; exact hcb)
          have HO3 := Lib.hid (hO2.out.stored (col := c) HKQ.out HQ.out false)
          have HMB : Hid (M ≤ b) := Lib.hid (HOB.out.fresh b rfl).1
          clear hv
          rw [HQK.out] at hcell HO3 HCL
          have HG4 : Hid (w.grownBy (wr.setCell ⟨b, c, none⟩ (.bool false)) none) := Lib.hid (grown_then hG2.out (grown_set wr ⟨b, c, none⟩ (.bool false)) (by rintro j ⟨⟩; exact .inl (Nat.le_trans (Nat.le_of_eq HMM.out) HMB.out)))
          have hkn : (k : Int) < (ps.length : Int) := h2
          cases b1 <;> cases b2
          · have HS := Lib.hid (hJ.out.skip (by rw [HFX.out]; rfl))
            go_wp2_with fail
            go_roundw
            case rel => exact ⟨c + 1, q2, by go_num, by omega, hO2, HS, hG2⟩
            case measure => simp [intOf]; omega
          · have HS := Lib.hid (HCL.out (by rw [HFX.out]; rfl))
            go_wp2_with fail
            go_roundw
            case rel => exact ⟨c + 1, _, by go_num, by omega, HO3, HS, HG4⟩
            case measure => simp [intOf]; omega
          · have HS := Lib.hid (HCL.out (by rw [HFX.out]; rfl))
            go_wp2_with fail
            go_roundw
            case rel => exact ⟨c + 1, _, by go_num, by omega, HO3, HS, HG4⟩
            case measure => simp [intOf]; omega
          · have HS := Lib.hid (hJ.out.skip (by rw [HFX.out]; rfl))
            go_wp2_with fail
            go_roundw
            case rel => exact ⟨c + 1, q2, by go_num, by omega, hO2, HS, hG2⟩
            case measure => simp [intOf]; omega
        · obtain rfl : c = R.length := by omega
          have h3 : ¬ (R.length : Int) < (R.length : Int) := by omega
          have HD := Lib.hid (hJ.out.done (by rw [HPL.out]; exact Nat.le_refl _))
          go_wp2_with fail
          go_roundw
          case rel => exact ⟨k + 1, q2, by go_num, by omega, hO2, HD, hG2⟩
          case measure => simp [intOf]; omega
    · obtain rfl : k = ps.length := by omega
      have h2 : ¬ (ps.length : Int) < (ps.length : Int) := by omega
      go_wp2_with fail
      go_ret
      exact ⟨M, qs, rfl, by rw [HMM.out]; exact hO.out, hF.out, hG.out⟩

end Go.Proofs.Ytnppmemcdcgjhaa
