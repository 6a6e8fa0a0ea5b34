/- Tables whose empty rows may name any block: the contracts that read alone. -/
import Derived.Test.YtnppmemcdcgjhaaLi
namespace Go.Proofs.Ytnppmemcdcgjhaa
open Go.RowKit
set_option linter.unusedVariables false

def BOkW (w : World) (p : BRow) : Prop := Bools w p.1 p.2 ∧ Good p.1
def BRowsW (w : World) (v : Value) (ps : List BRow) : Prop :=
  ∃ a cap, v = .slice a ps.length cap ∧ ps.length ≤ maxLen ∧ (ps = [] ∨ ∃ b off, a = some ⟨b, off, none⟩ ∧ ∀ i, i < ps.length → w.cell? ⟨b, off + i, none⟩ = some (ps[i]?.map Prod.fst |>.getD (.slice none 0 0))) ∧ ∀ p ∈ ps, BOkW w p
theorem BOkW.same {w w' : World} {p : BRow} (h : BOkW w p) (g : w.grownBy w' none) : BOkW w' p := ⟨h.1.same g, h.2⟩
theorem BRowsW.same {w w' : World} {v : Value} {ps : List BRow} (h : BRowsW w v ps) (g : w.grownBy w' none) : BRowsW w' v ps := by
  obtain ⟨a, cap, hv, hl, hc, hp⟩ := h
  refine ⟨a, cap, hv, hl, ?_, fun p hp' => (hp p hp').same g⟩
  rcases hc with hc | ⟨b, off, ha, hc⟩
  · exact .inl hc
  · exact .inr ⟨b, off, ha, fun i hi => g.cell (hc i hi) (by simp)⟩
theorem BRowsP.weak {w : World} {v : Value} {ps : List BRow} (h : BRowsP w v ps) : BRowsW w v ps := by
  obtain ⟨a, cap, hv, hl, hc, hp⟩ := h
  exact ⟨a, cap, hv, hl, hc, fun p hp' => ⟨(hp p hp').1, (hp p hp').2.1⟩⟩

set_option maxRecDepth 100000 in
set_option maxHeartbeats 2000000 in
theorem augment_w (vt : Value) (ps : List BRow) (w0 : World) (bo bs : Nat) (ht : BRowsW w0 vt ps) (hr12 : ps.length ≤ 12) (hc12 : ∀ p ∈ ps, p.2.length ≤ 12) (m : Nat) :
    ∀ (row : Nat) (O : List Nat) (S : List Bool) (w : World), S.count false = m → row < ps.length → AugPre (ps.map Prod.snd) row O S → Aug w0 w bo bs O S →
    Calls Try.prog 66 #[vt, .int .i64 (row : Int), .pointer (some ⟨bo, 0, none⟩), .pointer (some ⟨bs, 0, none⟩)] w (AugPost (ps.map Prod.snd) row O S w0 bo bs) := by
  induction m using Nat.strongRecOn with
  | ind m ih =>
  intro row O S w hm hrow hpre haug
  have HT := Lib.hid ht; have IH := Lib.hid ih; have HM := Lib.hid hm; have HP := Lib.hid hpre; have HA := Lib.hid haug; have HC := Lib.hid hc12
  obtain ⟨a, cap, rfl, hml, hct, hrs⟩ := ht
  have HRS := Lib.hid hrs
  have HRW : Hid (BOkW w0 ps[row]) := Lib.hid (hrs _ (List.getElem_mem hrow))
  obtain ⟨b, off, rfl, hcell0⟩ := BRowsP.at hct hrow
  have HC0 := Lib.hid hcell0
  clear hct hrs hcell0 ih hm hpre haug hc12
  have hTl : row < (ps.map Prod.snd).length := by simpa using hrow
  have HTB : Hid (∀ j, tb (ps.map Prod.snd) row j = (ps[row]).2[j]?.getD false) := Lib.hid (fun j => by rw [tb_row hTl]; simp)
  have HL12 : Hid ((ps[row]).2.length ≤ 12) := Lib.hid (HC.out _ (List.getElem_mem hrow))
  have HOB : Hid (∀ j, ow O j ≠ 0 → ow O j - 1 < ps.length) := Lib.hid (fun j hj => by
    obtain ⟨h1, -⟩ := tb_lt (HP.out.edge j hj)
    simpa using h1)
  have HTW : Hid (∀ r k, tb (ps.map Prod.snd) r k = true → k < 12) := Lib.hid (fun r k hk => by
    obtain ⟨h1, h2⟩ := tb_lt hk
    have h3 : r < ps.length := by simpa using h1
    have := HC.out _ (List.getElem_mem h3)
    simp at h2
    omega)
  generalize hR : ps[row] = R at *
  clear hR
  obtain ⟨rv, R⟩ := R
  obtain ⟨⟨ra, rc, hrv, hrl, hrc⟩, -⟩ := HRW.out
  dsimp only at hrv
  subst hrv
  have HRC := Lib.hid hrc
  dsimp only at HTB HL12
  clear hTl hrc HRW HC
  go_enter Try.func66, Try.ntmps66
  have hcell := HA.out.g.cell HC0.out (by simp)
  have h1 : (row : Int) < (ps.length : Int) := by omega
  go_wp2_with fail
  clear hcell
  go_loopw [16] (fun i wr => ∃ (j : Nat) (S0 : List Bool), i = .int .i64 j ∧ j ≤ R.length ∧ Hid (Aug w0 wr bo bs O S0) ∧ Hid (Lose (ps.map Prod.snd) row O S S0 j)) (fun i _ => R.length - (intOf i).toNat)
  case atStart => exact ⟨0, S, rfl, Nat.zero_le _, HA, Lib.hid lose_start⟩
  case round =>
    obtain ⟨j, S0, rfl, hj, hA, hL⟩ := hrel
    by_cases hjb : j < R.length
    · have hj12 : j < 12 := by have := HL12.out; omega
      obtain ⟨rb, ro, rfl, hbit0⟩ := Bools.at HRC.out hjb
      have hbit := hA.out.g.cell hbit0 (by simp)
      have h2 : (j : Int) < (R.length : Int) := by omega
      have h12 : (j : Int) < 12 := by omega
      have TBJ := Lib.hid (HTB.out j)
      obtain ⟨hs1, hs2⟩ := hA.out.s.cell hj12
      obtain ⟨ho1, -⟩ := hA.out.o.cell hj12
      clear hbit0
      generalize R[j]?.getD false = fits at *
      have i1 : IntKind.i64.wrap ((j : Int) + 1) = (j : Int) + 1 := IntWalk.i64_in _ (by omega)
      cases fits with
      | false =>
        go_wp2_with fail
        go_roundw
        case rel => exact ⟨j + 1, S0, by go_num, by omega, hA, Lib.hid (hL.out.skip (.inl TBJ.out))⟩
        case measure => simp [intOf]; omega
      | true =>
        generalize hseen : sn S0 j = seen at *
        cases seen with
        | true =>
          have HSE := Lib.hid hseen
          clear hseen
          go_wp2_with fail
          go_roundw
          case rel => exact ⟨j + 1, S0, by go_num, by omega, hA, Lib.hid (hL.out.skip (.inr HSE.out))⟩
          case measure => simp [intOf]; omega
        | false =>
          have HSE := Lib.hid hseen
          have hA2 := Lib.hid (hA.out.setS j true)
          clear hseen ho1
          obtain ⟨ho2, hf2⟩ := hA2.out.o.cell hj12
          have hS0l : j < S0.length := by rw [hA.out.s.1]; exact hj12
          have hcnt : Hid ((S0.set j true).count false < m) := Lib.hid (by
            have h5 := count_set S0 j hS0l HSE.out
            have h6 := count_mono S S0 (by rw [hA.out.s.1, HA.out.s.1]) hL.out.mono
            have h7 := HM.out
            omega)
          have i2 : IntKind.i64.wrap ((row : Int) + 1) = ((row + 1 : Nat) : Int) := by rw [IntWalk.i64_in _ (by omega)]; omega
          by_cases hz : ow O j = 0
          · have HZ := Lib.hid hz
            have hA3 := Lib.hid (hA2.out.setO j (row + 1))
            rw [hz] at ho2
            clear hz
            go_wp2_with fail
            go_ret
            exact ⟨_, _, hA3.out, .inl ⟨rfl, win_free HP.out hL.out (by rw [HA.out.o.1]; exact hj12) hS0l TBJ.out HSE.out HZ.out⟩⟩
          · have HZ := Lib.hid hz
            have HQ : Hid (ow O j - 1 < ps.length) := Lib.hid (HOB.out j hz)
            have i3 : IntKind.i64.wrap (((ow O j : Nat) : Int) - 1) = ((ow O j - 1 : Nat) : Int) := by
              have := HQ.out
              rw [IntWalk.i64_in _ (by omega)]; omega
            have hzi : ¬ ((ow O j : Nat) : Int) = 0 := by omega
            have HPD := Lib.hid (HP.out.deep hS0l hz)
            clear hz
            generalize hq : ((ow O j : Nat) : Int) = q at *
            clear hq
            go_wp2_with fail
            refine (IH.out _ hcnt.out (ow O j - 1) O (S0.set j true) _ rfl HQ.out HPD.out hA2.out).mono ?_
            rintro e w1 ⟨O1, S1, ha1, (⟨rfl, hw⟩ | ⟨rfl, rfl, hl⟩)⟩
            · have hA4 := Lib.hid ha1; have HW := Lib.hid hw
              have hA5 := Lib.hid (ha1.setO j (row + 1))
              obtain ⟨ho5, hf5⟩ := ha1.o.cell hj12
              clear ha1 hw ho2 hf2 hs1 hs2
              go_wp2_with fail
              go_ret
              exact ⟨_, _, hA5.out, .inl ⟨rfl, win_deep HP.out hL.out (by rw [hA4.out.o.1]; exact hj12) hS0l TBJ.out HSE.out HZ.out HW.out⟩⟩
            · have hA4 := Lib.hid ha1; have HW := Lib.hid hl
              clear ha1 hl ho2 hf2 hs1 hs2
              go_wp2_with fail
              go_roundw
              case rel => exact ⟨j + 1, S1, by go_num, by omega, hA4, Lib.hid (hL.out.fail hS0l HZ.out HW.out (fun k hk => HTW.out _ k hk))⟩
              case measure => simp [intOf]; omega
    · have h2 : ¬ (j : Int) < (R.length : Int) := by omega
      go_wp2_with fail
      go_ret
      exact ⟨O, S0, hA.out, .inr ⟨rfl, rfl, ⟨hL.out.mono, fun k _ hk => hL.out.all k (by
        have := HTB.out k
        rw [hk] at this
        by_cases hkl : k < R.length
        · omega
        · rw [List.getElem?_eq_none (by omega)] at this; simp at this) hk, hL.out.clos⟩⟩⟩

set_option maxRecDepth 100000 in
set_option maxHeartbeats 1000000 in
theorem most_w (vt : Value) (ps : List BRow) (w : World) (ht : BRowsW w vt ps) (hf : Few12 ps) :
    Calls Try.prog 48 #[vt] w (NuTo (ps.map Prod.snd) w) := by
  have HT := Lib.hid ht; have HF := Lib.hid hf
  obtain ⟨a, cap, rfl, -, -, -⟩ := ht
  have hl12 : ps.length ≤ 12 := hf.1
  have HTL : Hid ((ps.map Prod.snd).length = ps.length) := Lib.hid (by simp)
  clear hf
  go_enter Try.func48, Try.ntmps48
  go_wp2_with fail
  generalize hwb : World.alloc _ _ = wb
  have hA : ArrO wb w.heap.size (List.replicate 12 0) := by rw [← hwb]; exact ⟨rfl, heap_new _ rfl⟩
  have hg : w.grownBy wb none := by rw [← hwb]; exact World.grownBy_alloc _ _ none
  have HA := Lib.hid hA; have HG := Lib.hid hg
  clear hwb hA hg
  go_loopw [4, 9] (fun nv i wr => ∃ (k n : Nat) (O : List Nat), i = .int .i64 k ∧ nv = .int .i64 n ∧ k ≤ ps.length ∧ n ≤ k ∧ Hid (MostI (ps.map Prod.snd) k O n) ∧ Hid (ArrO wr w.heap.size O) ∧ Hid (w.grownBy wr none)) (fun _ i _ => ps.length - (intOf i).toNat)
  case atStart => exact ⟨0, 0, _, rfl, rfl, Nat.zero_le _, Nat.le_refl _, Lib.hid (most_start _), HA, HG⟩
  case round =>
    obtain ⟨k, n, O, rfl, rfl, hk, hn, hI, hA, hG⟩ := hrel
    by_cases hkb : k < ps.length
    · have h1 : (k : Int) < (ps.length : Int) := by omega
      have i1 : IntKind.i64.wrap ((k : Int) + 1) = (k : Int) + 1 := IntWalk.i64_in _ (by omega)
      have i2 : IntKind.i64.wrap ((n : Int) + 1) = (n : Int) + 1 := IntWalk.i64_in _ (by omega)
      go_wp2_with fail
      refine (augment_w _ ps w w.heap.size wr.heap.size HT.out HF.out.1 HF.out.2 _ k O (List.replicate 12 false) _ rfl hkb hI.out.pre ⟨grown_trans hG.out (World.grownBy_alloc _ _ none), ⟨hA.out.1, heap_old _ hA.out.2⟩, ⟨rfl, heap_new _ rfl⟩, Nat.le_refl _, hG.out.size, Nat.ne_of_lt (Array.getElem?_eq_some_iff.1 hA.out.2).1⟩).mono ?_
      rintro e w1 ⟨O1, S1, ha1, (⟨rfl, hw⟩ | ⟨rfl, rfl, hl⟩)⟩
      · have HI2 := Lib.hid (hI.out.win hw); have HA2 := Lib.hid ha1.o; have HG2 := Lib.hid ha1.g
        clear ha1 hw
        go_wp2_with fail
        go_roundw
        case rel => exact ⟨k + 1, n + 1, O1, by go_num, by go_num, by omega, by omega, HI2, HA2, HG2⟩
        case measure => simp [intOf]; omega
      · have HI2 := Lib.hid (hI.out.lose hl (fun r j hj => (HF.out.tb hj).2)); have HA2 := Lib.hid ha1.o; have HG2 := Lib.hid ha1.g
        clear ha1 hl
        go_wp2_with fail
        go_roundw
        case rel => exact ⟨k + 1, n, O1, by go_num, rfl, by omega, by omega, HI2, HA2, HG2⟩
        case measure => simp [intOf]; omega
    · obtain rfl : k = ps.length := by omega
      have h1 : ¬ (ps.length : Int) < (ps.length : Int) := by omega
      go_wp2_with fail
      go_ret
      have h2 := hI.out
      rw [← HTL.out] at h2
      exact ⟨n, rfl, h2.nu (fun r j hj => (HF.out.tb hj).1), hG.out⟩

set_option maxRecDepth 100000 in
set_option maxHeartbeats 1000000 in
theorem Valid_w (vt : Value) (ps : List BRow) (w : World) (ht : BRowsW w vt ps) :
    Calls Try.prog 23 #[vt] w fun e w' => e = .returned (.bool (validT (ps.map Prod.snd))) ∧ w' = w := by
  obtain ⟨a, cap, rfl, hml, hct, hrs⟩ := ht
  have HCT := Lib.hid hct; have HRS := Lib.hid hrs
  clear hct hrs
  by_cases h12 : ps.length ≤ 12
  · have h1 : ¬ (12 : Int) < (ps.length : Int) := by omega
    go_enter Try.func23, Try.ntmps23
    go_wp2_with fail
    go_loop [10] (fun i => ∃ k : Nat, i = .int .i64 k ∧ k ≤ ps.length ∧ Hid (∀ q ∈ ps.take k, q.2.length ≤ 12 ∧ q.2.length = ((ps.map Prod.snd)[0]?.getD []).length)) (fun i => ps.length - (intOf i).toNat)
    case atStart => exact ⟨0, rfl, Nat.zero_le _, Lib.hid (by simp)⟩
    case round =>
      obtain ⟨k, rfl, hk, hall⟩ := hrel
      by_cases hkb : k < ps.length
      · have h2 : (k : Int) < (ps.length : Int) := by omega
        have h20 : (0 : Int) < (ps.length : Int) := by omega
        obtain ⟨b, off, rfl, hc1⟩ := BRowsP.at HCT.out hkb
        obtain ⟨b', off', hbe, hc0⟩ := BRowsP.at HCT.out (show 0 < ps.length by omega)
        simp only [Option.some.injEq, Addr.mk.injEq, and_true] at hbe
        obtain ⟨rfl, rfl⟩ := hbe
        rw [Nat.add_zero] at hc0
        have HP0 : Hid (((ps.map Prod.snd)[0]?.getD []) = (ps[0]).2) := Lib.hid (by rw [List.getElem?_eq_getElem (by simpa using (show 0 < ps.length by omega))]; simp)
        have HB1 := Lib.hid (HRS.out _ (List.getElem_mem hkb)); have HB0 := Lib.hid (HRS.out _ (List.getElem_mem (show 0 < ps.length by omega)))
        have HTK : Hid (ps.take (k + 1) = ps.take k ++ [ps[k]]) := Lib.hid (by rw [List.take_add_one, List.getElem?_eq_getElem hkb]; rfl)
        have HM : Hid (ps[k] ∈ ps) := Lib.hid (List.getElem_mem hkb)
        generalize ps[k] = P at *
        generalize ps[0]'(by omega) = P0 at *
        obtain ⟨pv, P⟩ := P
        obtain ⟨pv0, P0⟩ := P0
        obtain ⟨⟨a1, c1, hv1, -, -⟩, -⟩ := HB1.out
        obtain ⟨⟨a2, c2, hv2, -, -⟩, -⟩ := HB0.out
        dsimp only at hv1 hv2 hc1 hc0 HP0
        subst hv1 hv2
        have i1 : IntKind.i64.wrap ((k : Int) + 1) = (k : Int) + 1 := IntWalk.i64_in _ (by omega)
        have fails : (P.length ≤ 12 ∧ P.length = P0.length) ∨ Hid (validT (ps.map Prod.snd) = false) := by
          by_cases hx : P.length ≤ 12 ∧ P.length = P0.length
          · exact .inl hx
          · refine .inr (Lib.hid ?_)
            cases e : validT (ps.map Prod.snd)
            · rfl
            · have := (validT_iff.1 e).2 P (List.mem_map.2 ⟨_, HM.out, rfl⟩)
              rw [HP0.out] at this
              exact absurd this hx
        clear HB1 HB0 HM
        by_cases hp12 : P.length ≤ 12
        · have h3 : ¬ (12 : Int) < (P.length : Int) := by omega
          by_cases hpe : P.length = P0.length
          · have h4 : ((P.length : Int) != (P0.length : Int)) = false := by simp [hpe]
            have HPE := Lib.hid hpe; have HP12 := Lib.hid hp12
            clear hpe fails
            go_wp2_with fail
            go_round
            case rel => exact ⟨k + 1, by go_num, by omega, Lib.hid (fun q hq => by
              rw [HTK.out] at hq
              rcases List.mem_append.1 hq with hq | hq
              · exact hall.out q hq
              · rw [List.mem_singleton.1 hq, HP0.out]
                exact ⟨HP12.out, HPE.out⟩)⟩
            case measure => simp [intOf]; omega
          · have h4 : ((P.length : Int) != (P0.length : Int)) = true := by simp; omega
            have HN : Hid (validT (ps.map Prod.snd) = false) := fails.resolve_left (fun h => hpe h.2)
            clear hpe fails
            go_wp2_with fail
            go_ret
            exact ⟨by rw [HN.out]; rfl, rfl⟩
        · have h3 : (12 : Int) < (P.length : Int) := by omega
          have HN : Hid (validT (ps.map Prod.snd) = false) := fails.resolve_left (fun h => hp12 h.1)
          clear fails
          go_wp2_with fail
          go_ret
          exact ⟨by rw [HN.out]; rfl, rfl⟩
      · have h2 : ¬ (k : Int) < (ps.length : Int) := by omega
        go_wp2_with fail
        go_ret
        have hv : validT (ps.map Prod.snd) = true := by
          refine validT_iff.2 ⟨by simpa using h12, fun r hr => ?_⟩
          obtain ⟨q, hq, rfl⟩ := List.mem_map.1 hr
          exact hall.out q (by rw [List.take_of_length_le (by omega)]; exact hq)
        exact ⟨by rw [hv]; rfl, rfl⟩
  · have h1 : (12 : Int) < (ps.length : Int) := by omega
    go_enter Try.func23, Try.ntmps23
    go_wp2_with fail
    go_ret
    refine ⟨?_, rfl⟩
    have : validT (ps.map Prod.snd) = false := by
      cases e : validT (ps.map Prod.snd)
      · rfl
      · exact absurd (by simpa using (validT_iff.1 e).1) h12
    rw [this]; rfl

set_option maxRecDepth 100000 in
set_option maxHeartbeats 2000000 in
theorem try_w (vt : Value) (ps : List BRow) (w0 : World) (bo bs n : Nat) (ht : BRowsW w0 vt ps) (hc12 : ∀ p ∈ ps, p.2.length = n) (m : Nat) :
    ∀ (row : Nat) (O : List Nat) (S : List Bool) (w : World), S.count false = m → row < ps.length → ps.length ≤ 12 → AugPre (ps.map Prod.snd) row O S → AugR w0 w bo bs n O S →
    Calls Try.prog 67 #[vt, .int .i64 (row : Int), .slice (some ⟨bs, 0, none⟩) n n, .slice (some ⟨bo, 0, none⟩) n n] w (TryPost (ps.map Prod.snd) row O S w0 bo bs n) := by
  induction m using Nat.strongRecOn with
  | ind m ih =>
  intro row O S w hm hrow hp12 hpre haug
  have HT := Lib.hid ht; have IH := Lib.hid ih; have HM := Lib.hid hm; have HP := Lib.hid hpre; have HA := Lib.hid haug; have HC := Lib.hid hc12
  obtain ⟨a, cap, rfl, hml, hct, hrs⟩ := ht
  have HRS := Lib.hid hrs
  have HRW : Hid (BOkW w0 ps[row]) := Lib.hid (hrs _ (List.getElem_mem hrow))
  obtain ⟨b, off, rfl, hcell0⟩ := BRowsP.at hct hrow
  have HC0 := Lib.hid hcell0
  have HN12 : Hid (n ≤ 12) := Lib.hid haug.o.2.1
  clear hct hrs hcell0 ih hm hpre haug hc12
  have hTl : row < (ps.map Prod.snd).length := by simpa using hrow
  have HTB : Hid (∀ j, tb (ps.map Prod.snd) row j = (ps[row]).2[j]?.getD false) := Lib.hid (fun j => by rw [tb_row hTl]; simp)
  have HLN : Hid ((ps[row]).2.length = n) := Lib.hid (HC.out _ (List.getElem_mem hrow))
  have HOB : Hid (∀ j, ow O j ≠ 0 → ow O j - 1 < ps.length) := Lib.hid (fun j hj => by
    obtain ⟨h1, -⟩ := tb_lt (HP.out.edge j hj)
    simpa using h1)
  have HTW : Hid (∀ r k, tb (ps.map Prod.snd) r k = true → k < 12) := Lib.hid (fun r k hk => by
    obtain ⟨h1, h2⟩ := tb_lt hk
    have h3 : r < ps.length := by simpa using h1
    have := HC.out _ (List.getElem_mem h3)
    have := HN12.out
    simp at h2
    omega)
  generalize hR : ps[row] = R at *
  clear hR
  obtain ⟨rv, R⟩ := R
  obtain ⟨⟨ra, rc, hrv, hrl, hrc⟩, -⟩ := HRW.out
  dsimp only at hrv
  subst hrv
  have HRC := Lib.hid hrc
  dsimp only at HTB HLN
  clear hTl hrc HRW HC
  go_enter Try.func67, Try.ntmps67
  have h1 : (row : Int) < (ps.length : Int) := by omega
  go_wp2_with fail
  go_loopw [9] (fun i wr => ∃ (j : Nat) (S0 : List Bool), i = .int .i64 j ∧ j ≤ R.length ∧ Hid (AugR w0 wr bo bs n O S0) ∧ Hid (Lose (ps.map Prod.snd) row O S S0 j)) (fun i _ => R.length - (intOf i).toNat)
  case atStart => exact ⟨0, S, rfl, Nat.zero_le _, HA, Lib.hid lose_start⟩
  case round =>
    obtain ⟨j, S0, rfl, hj, hA, hL⟩ := hrel
    have hcell := hA.out.g.cell HC0.out (by simp)
    by_cases hjb : j < R.length
    · have hjn : j < n := by have := HLN.out; omega
      have hj12 : j < 12 := by have := HN12.out; omega
      obtain ⟨rb, ro, rfl, hbit0⟩ := Bools.at HRC.out hjb
      have hbit := hA.out.g.cell hbit0 (by simp)
      have h2 : (j : Int) < (R.length : Int) := by omega
      have h12 : (j : Int) < (n : Int) := by omega
      have TBJ := Lib.hid (HTB.out j)
      obtain ⟨hs1, hs2⟩ := hA.out.s.cell hjn
      obtain ⟨ho1, -⟩ := hA.out.o.cell hjn
      clear hbit0
      generalize R[j]?.getD false = fits at *
      have i1 : IntKind.i64.wrap ((j : Int) + 1) = (j : Int) + 1 := IntWalk.i64_in _ (by omega)
      cases fits with
      | false =>
        go_wp2_with fail
        go_roundw
        case rel => exact ⟨j + 1, S0, by go_num, by omega, hA, Lib.hid (hL.out.skip (.inl TBJ.out))⟩
        case measure => simp [intOf]; omega
      | true =>
        generalize hseen : sn S0 j = seen at *
        cases seen with
        | true =>
          have HSE := Lib.hid hseen
          clear hseen
          go_wp2_with fail
          go_roundw
          case rel => exact ⟨j + 1, S0, by go_num, by omega, hA, Lib.hid (hL.out.skip (.inr HSE.out))⟩
          case measure => simp [intOf]; omega
        | false =>
          have HSE := Lib.hid hseen
          have hA2 := Lib.hid (hA.out.setS j true)
          clear hseen ho1
          obtain ⟨ho2, hf2⟩ := hA2.out.o.cell hjn
          have hcell2 := hA2.out.g.cell HC0.out (by simp)
          have hS0l : j < S0.length := by rw [hA.out.s.1]; exact hj12
          have hcnt : Hid ((S0.set j true).count false < m) := Lib.hid (by
            have h5 := count_set S0 j hS0l HSE.out
            have h6 := count_mono S S0 (by rw [hA.out.s.1, HA.out.s.1]) hL.out.mono
            have h7 := HM.out
            omega)
          by_cases hz : ow O j = 0
          · have HZ := Lib.hid hz
            have hA3 := Lib.hid (hA2.out.setO j row)
            rw [hz, show (((0 : Nat) : Int) - 1) = -1 by rfl] at ho2
            clear hz
            go_wp2_with fail
            go_ret
            exact ⟨_, _, hA3.out, .inl ⟨rfl, win_free HP.out hL.out (by rw [HA.out.o.1]; exact hj12) hS0l TBJ.out HSE.out HZ.out⟩⟩
          · have HZ := Lib.hid hz
            have HQ : Hid (ow O j - 1 < ps.length) := Lib.hid (HOB.out j hz)
            have HPD := Lib.hid (HP.out.deep hS0l hz)
            rw [show ((ow O j : Nat) : Int) - 1 = ((ow O j - 1 : Nat) : Int) by omega] at ho2
            have hzi : ¬ ((ow O j - 1 : Nat) : Int) < 0 := by omega
            have IHH := Lib.hid (IH.out _ hcnt.out (ow O j - 1) O (S0.set j true) _ rfl HQ.out hp12 HPD.out hA2.out)
            clear hz
            generalize hq : ow O j - 1 = q at *
            have HQE := Lib.hid hq
            clear hq
            go_wp2_with fail
            refine IHH.out.mono ?_
            rintro e w1 ⟨O1, S1, ha1, (⟨rfl, hw⟩ | ⟨rfl, rfl, hl⟩)⟩
            · have hA4 := Lib.hid ha1; have HW := Lib.hid hw
              have hA5 := Lib.hid (ha1.setO j row)
              obtain ⟨ho5, hf5⟩ := ha1.o.cell hjn
              clear ha1 hw ho2 hf2 hs1 hs2 IHH
              go_wp2_with fail
              go_ret
              exact ⟨_, _, hA5.out, .inl ⟨rfl, win_deep HP.out hL.out (by rw [hA4.out.o.1]; exact hj12) hS0l TBJ.out HSE.out HZ.out (by rw [HQE.out]; exact HW.out)⟩⟩
            · have hA4 := Lib.hid ha1; have HW := Lib.hid hl
              clear ha1 hl ho2 hf2 hs1 hs2 IHH
              go_wp2_with fail
              go_roundw
              case rel => exact ⟨j + 1, S1, by go_num, by omega, hA4, Lib.hid (hL.out.fail hS0l HZ.out (by rw [HQE.out]; exact HW.out) (fun k hk => HTW.out _ k hk))⟩
              case measure => simp [intOf]; omega
    · have h2 : ¬ (j : Int) < (R.length : Int) := by omega
      go_wp2_with fail
      go_ret
      exact ⟨O, S0, hA.out, .inr ⟨rfl, rfl, ⟨hL.out.mono, fun k _ hk => hL.out.all k (by
        have := HTB.out k
        rw [hk] at this
        by_cases hkl : k < R.length
        · omega
        · rw [List.getElem?_eq_none (by omega)] at this; simp at this) hk, hL.out.clos⟩⟩⟩

set_option maxRecDepth 100000 in
set_option maxHeartbeats 2000000 in
theorem rvalid_w (vt : Value) (ps : List BRow) (w : World) (ht : BRowsW w vt ps) :
    Calls Try.prog 24 #[vt] w fun e w' => e = .returned (.bool (validT (ps.map Prod.snd))) ∧ Drew w w' := by
  obtain ⟨a, cap, rfl, hml, hct, hrs⟩ := ht
  have HCT := Lib.hid hct; have HRS := Lib.hid hrs
  have hml2 : ps.length ≤ 9223372036854775807 := by unfold maxLen at hml; omega
  clear hct hrs
  go_enter Try.func24, Try.ntmps24
  go_wp2_with fail
  go_loopw [3] (fun i wr => ∃ k n : Nat, i = .int .i64 k ∧ k ≤ ps.length ∧ Hid (∀ q ∈ ps.take k, q.2.length ≤ 12 ∧ q.2.length = ((ps.map Prod.snd)[0]?.getD []).length) ∧ wr = w.drewN n) (fun i _ => ps.length - (intOf i).toNat)
  case atStart => exact ⟨0, 0, rfl, Nat.zero_le _, Lib.hid (by simp), rfl⟩
  case round =>
    obtain ⟨k, n, rfl, hk, hall, rfl⟩ := hrel
    by_cases hkb : k < ps.length
    · have h2 : (k : Int) < (ps.length : Int) := by omega
      have h20 : (0 : Int) < (ps.length : Int) := by omega
      obtain ⟨b, off, rfl, hc1⟩ := BRowsP.at HCT.out hkb
      obtain ⟨b', off', hbe, hc0⟩ := BRowsP.at HCT.out (show 0 < ps.length by omega)
      simp only [Option.some.injEq, Addr.mk.injEq, and_true] at hbe
      obtain ⟨rfl, rfl⟩ := hbe
      rw [Nat.add_zero] at hc0
      have HP0 : Hid (((ps.map Prod.snd)[0]?.getD []) = (ps[0]).2) := Lib.hid (by rw [List.getElem?_eq_getElem (by simpa using (show 0 < ps.length by omega))]; simp)
      have HB1 := Lib.hid (HRS.out _ (List.getElem_mem hkb)); have HB0 := Lib.hid (HRS.out _ (List.getElem_mem (show 0 < ps.length by omega)))
      have HTK : Hid (ps.take (k + 1) = ps.take k ++ [ps[k]]) := Lib.hid (by rw [List.take_add_one, List.getElem?_eq_getElem hkb]; rfl)
      have HM : Hid (ps[k] ∈ ps) := Lib.hid (List.getElem_mem hkb)
      generalize ps[k] = P at *
      generalize ps[0]'(by omega) = P0 at *
      obtain ⟨pv, P⟩ := P
      obtain ⟨pv0, P0⟩ := P0
      obtain ⟨⟨a1, c1, hv1, -, -⟩, -⟩ := HB1.out
      obtain ⟨⟨a2, c2, hv2, -, -⟩, -⟩ := HB0.out
      dsimp only at hv1 hv2 hc1 hc0 HP0
      subst hv1 hv2
      have i1 : IntKind.i64.wrap ((k : Int) + 1) = (k : Int) + 1 := IntWalk.i64_in _ (by omega)
      have fails : (P.length ≤ 12 ∧ P.length = P0.length) ∨ Hid (validT (ps.map Prod.snd) = false) := by
        by_cases hx : P.length ≤ 12 ∧ P.length = P0.length
        · exact .inl hx
        · refine .inr (Lib.hid ?_)
          cases e : validT (ps.map Prod.snd)
          · rfl
          · have := (validT_iff.1 e).2 P (List.mem_map.2 ⟨_, HM.out, rfl⟩)
            rw [HP0.out] at this
            exact absurd this hx
      clear HB1 HB0 HM
      by_cases hpe : P.length = P0.length
      · have h4 : ((P.length : Int) != (P0.length : Int)) = false := by simp [hpe]
        by_cases hp12 : P.length ≤ 12
        · have h3 : decide ((12 : Int) < (P.length : Int)) = false := by simp; omega
          have HPE := Lib.hid hpe; have HP12 := Lib.hid hp12
          clear hpe fails hp12
          go_wp2_with fail
          go_big_quiet (fail)
          go_wp2_with fail
          go_roundw
          case rel => exact ⟨k + 1, _, by go_num, by omega, Lib.hid (fun q hq => by
            rw [HTK.out] at hq
            rcases List.mem_append.1 hq with hq | hq
            · exact hall.out q hq
            · rw [List.mem_singleton.1 hq, HP0.out]
              exact ⟨HP12.out, HPE.out⟩), rfl⟩
          case measure => simp [intOf]; omega
        · have h3 : decide ((12 : Int) < (P.length : Int)) = true := by simp; omega
          have HN : Hid (validT (ps.map Prod.snd) = false) := fails.resolve_left (fun h => hp12 h.1)
          clear hpe fails hp12
          go_wp2_with fail
          go_big_quiet (fail)
          go_wp2_with fail
          go_ret
          exact ⟨by rw [HN.out]; rfl, (Drew.mk _ _).trans (Drew.mk _ _)⟩
      · have h4 : ((P.length : Int) != (P0.length : Int)) = true := by simp; omega
        have HN : Hid (validT (ps.map Prod.snd) = false) := fails.resolve_left (fun h => hpe h.2)
        clear hpe fails
        go_wp2_with fail
        go_big_quiet (fail)
        go_wp2_with fail
        go_ret
        exact ⟨by rw [HN.out]; rfl, (Drew.mk _ _).trans (Drew.mk _ _)⟩
    · have h2 : ¬ (k : Int) < (ps.length : Int) := by omega
      have HV : Hid (validT (ps.map Prod.snd) = decide ((ps.length : Int) ≤ 12)) := Lib.hid (by
        rw [Bool.eq_iff_iff, validT_iff, decide_eq_true_iff, List.length_map]
        refine ⟨fun h => by omega, fun h => ⟨by omega, fun r hr => ?_⟩⟩
        obtain ⟨q, hq, rfl⟩ := List.mem_map.1 hr
        exact hall.out q (by rw [List.take_of_length_le (by omega)]; exact hq))
      by_cases h12 : (ps.length : Int) ≤ 12
      · go_wp2_with fail
        go_ret
        exact ⟨by rw [HV.out, decide_eq_true (by omega)]; rfl, Drew.mk _ _⟩
      · go_wp2_with fail
        go_ret
        exact ⟨by rw [HV.out, decide_eq_false (by omega)]; rfl, Drew.mk _ _⟩

set_option maxRecDepth 100000 in
set_option maxHeartbeats 2000000 in
theorem rmost_w (vt : Value) (ps : List BRow) (w : World) (n : Nat) (ht : BRowsW w vt ps) (hl : ps.length ≤ 12) (hn : n ≤ 12) (hc : ∀ p ∈ ps, p.2.length = n) :
    Calls Try.prog 51 #[vt] w (NuTo (ps.map Prod.snd) w) := by
  have HT := Lib.hid ht; have HC := Lib.hid hc
  have HF : Hid (Few12 ps) := Lib.hid ⟨hl, fun p hp => by rw [hc p hp]; exact hn⟩
  obtain ⟨a, cap, rfl, -, hct, hrs⟩ := ht
  have HTL : Hid ((ps.map Prod.snd).length = ps.length) := Lib.hid (by simp)
  clear hc
  by_cases h0 : ps.length = 0
  · have HE : Hid (ps = []) := Lib.hid (List.eq_nil_of_length_eq_zero h0)
    have k0 : ((ps.length : Int) == 0) = true := by simp [h0]
    clear h0 hct hrs
    go_enter Try.func51, Try.ntmps51
    go_wp2_with fail
    go_ret
    refine ⟨0, rfl, ?_, grown_refl _ _⟩
    rw [HE.out]
    exact ⟨⟨[], ⟨by simp, by simp, by simp⟩, rfl⟩, fun M hM => by
      cases M with
      | nil => exact Nat.le_refl _
      | cons p M => have := hM.edge p (by simp); simp [tb] at this⟩
  have k0 : ((ps.length : Int) == 0) = false := beq_eq_false_iff_ne.2 (by omega)
  have k1 : (0 : Int) < (ps.length : Int) := by omega
  obtain ⟨b, off, rfl, hc0⟩ := BRowsP.at hct (show 0 < ps.length by omega)
  rw [Nat.add_zero] at hc0
  have HB0 := Lib.hid (hrs _ (List.getElem_mem (show 0 < ps.length by omega)))
  have HLN : Hid ((ps[0]'(by omega)).2.length = n) := Lib.hid (HC.out _ (List.getElem_mem (show 0 < ps.length by omega)))
  clear hct hrs h0
  generalize ps[0]'(by omega) = P0 at *
  obtain ⟨pv0, P0⟩ := P0
  obtain ⟨⟨a2, c2, hv2, -, -⟩, -⟩ := HB0.out
  dsimp only at hv2 hc0 HLN
  subst hv2
  rw [HLN.out] at hc0
  clear HB0 HLN
  go_enter Try.func51, Try.ntmps51
  go_wp2_with (at_make; refine make_int rfl _ _ rfl n rfl rfl (by omega) ?_)
  intro wb hown hg
  have HF0 : Hid (FillM wb w.heap.size n 0) := Lib.hid (by
    have := full_int hown (by simp)
    unfold FillM
    simpa using this)
  have HG := Lib.hid hg
  clear hown hg
  go_wp2_with fail
  go_loopw [4] (fun i wr => ∃ c : Nat, i = .int .i64 c ∧ c ≤ n ∧ Hid (FillM wr w.heap.size n c) ∧ Hid (w.grownBy wr none)) (fun i _ => n - (intOf i).toNat)
  case atStart => exact ⟨0, rfl, Nat.zero_le _, HF0, HG⟩
  case round =>
    obtain ⟨c, rfl, hcn, hfi, hgr⟩ := hrel
    by_cases hcb : c < n
    · have h1 : (c : Int) < (n : Int) := by omega
      have i1 : IntKind.i64.wrap ((c : Int) + 1) = (c : Int) + 1 := IntWalk.i64_in _ (by omega)
      obtain ⟨p1, p2⟩ := hfi.out.cell hcb
      have HF1 := Lib.hid (hfi.out.set hcb)
      have HG1 : Hid (w.grownBy (wr.setCell ⟨w.heap.size, c, none⟩ (.int .i64 (-1))) none) := Lib.hid (grown_then hgr.out (grown_set _ _ _) (by rintro j ⟨⟩; exact .inl (Nat.le_refl _)))
      go_wp2_with fail
      go_roundw
      case rel => exact ⟨c + 1, by go_num, by omega, HF1, HG1⟩
      case measure => simp [intOf]; omega
    · obtain rfl : c = n := by omega
      have h1 : ¬ (c : Int) < (c : Int) := by omega
      have HO : Hid (RowO wr w.heap.size c (List.replicate 12 0)) := Lib.hid ⟨rfl, hn, by
        have := hfi.out
        unfold FillM at this
        rw [this, List.take_replicate, Nat.min_eq_left hn]
        simp⟩
      clear hfi
      go_wp2_with fail
      rename World => wq
      go_loopw [5, 6] (fun nv i wr => ∃ (k m : Nat) (O : List Nat), i = .int .i64 k ∧ nv = .int .i64 m ∧ k ≤ ps.length ∧ m ≤ k ∧ Hid (MostI (ps.map Prod.snd) k O m) ∧ Hid (RowO wr w.heap.size c O) ∧ Hid (w.grownBy wr none)) (fun _ i _ => ps.length - (intOf i).toNat)
      case atStart => exact ⟨0, 0, _, rfl, rfl, Nat.zero_le _, Nat.le_refl _, Lib.hid (most_start _), HO, hgr⟩
      case round =>
        obtain ⟨k, m, O, rfl, rfl, hk, hm, hI, hA, hG⟩ := hrel
        by_cases hkb : k < ps.length
        · have h1 : (k : Int) < (ps.length : Int) := by omega
          have i1 : IntKind.i64.wrap ((k : Int) + 1) = (k : Int) + 1 := IntWalk.i64_in _ (by omega)
          have i2 : IntKind.i64.wrap ((m : Int) + 1) = (m : Int) + 1 := IntWalk.i64_in _ (by omega)
          go_wp2_with (at_make; refine make_bool rfl _ _ rfl c rfl rfl (by omega) ?_)
          intro wm hown hgm
          have HS : Hid (RowS wm wr.heap.size c (List.replicate 12 false)) := Lib.hid ⟨rfl, hn, by
            have := full_bool hown (by simp)
            rw [this, List.take_replicate, Nat.min_eq_left hn]⟩
          have HA2 : Hid (AugR w wm w.heap.size wr.heap.size c O (List.replicate 12 false)) := Lib.hid ⟨grown_trans hG.out hgm, ⟨hA.out.1, hA.out.2.1, (hgm.block _ (Array.getElem?_eq_some_iff.1 hA.out.2.2).1 (by simp)).trans hA.out.2.2⟩, HS.out, Nat.le_refl _, hG.out.size, Nat.ne_of_lt (Array.getElem?_eq_some_iff.1 hA.out.2.2).1⟩
          clear hown hgm
          go_wp2_with fail
          refine (try_w _ ps w w.heap.size wr.heap.size c HT.out HC.out _ k O (List.replicate 12 false) _ rfl hkb hl hI.out.pre HA2.out).mono ?_
          rintro e w1 ⟨O1, S1, ha1, (⟨rfl, hw⟩ | ⟨rfl, rfl, hl1⟩)⟩
          · have HI2 := Lib.hid (hI.out.win hw); have HO2 := Lib.hid ha1.o; have HG2 := Lib.hid ha1.g
            clear ha1 hw
            go_wp2_with fail
            go_roundw
            case rel => exact ⟨k + 1, m + 1, O1, by go_num, by go_num, by omega, by omega, HI2, HO2, HG2⟩
            case measure => simp [intOf]; omega
          · have HI2 := Lib.hid (hI.out.lose hl1 (fun r j hj => (HF.out.tb hj).2)); have HO2 := Lib.hid ha1.o; have HG2 := Lib.hid ha1.g
            clear ha1 hl1
            go_wp2_with fail
            go_roundw
            case rel => exact ⟨k + 1, m, O1, by go_num, rfl, by omega, by omega, HI2, HO2, HG2⟩
            case measure => simp [intOf]; omega
        · obtain rfl : k = ps.length := by omega
          have h1 : ¬ (ps.length : Int) < (ps.length : Int) := by omega
          go_wp2_with fail
          go_ret
          have h2 := hI.out
          rw [← HTL.out] at h2
          exact ⟨m, rfl, h2.nu (fun r j hj => (HF.out.tb hj).1), hG.out⟩

set_option maxRecDepth 100000 in
set_option maxHeartbeats 2000000 in
theorem ProvesM_w (vt vm : Value) (ps : List BRow) (xs : List Int) (w : World) (ht : BRowsW w vt ps) (hm : Ints w vm xs) :
    Calls Try.prog 25 #[vt, vm] w (ProvTo (ps.map Prod.snd) xs w) := by
  have HT := Lib.hid ht
  have HTL : Hid ((ps.map Prod.snd).length = ps.length) := Lib.hid (by simp)
  obtain ⟨a, cap, rfl, -, hct, hrs⟩ := ht
  obtain ⟨am, cm, rfl, -, hbd, hcm⟩ := hm
  have HCT := Lib.hid hct; have HRS := Lib.hid hrs; have HCM := Lib.hid hcm
  clear hct hrs hcm hbd
  go_enter Try.func25, Try.ntmps25
  go_wp2_with fail
  refine (Valid_w _ ps _ HT.out).mono ?_
  rintro e w1 ⟨rfl, hw1⟩
  rw [hw1]
  clear hw1 w1
  by_cases hv : validT (ps.map Prod.snd) = true
  · rw [hv]
    have HV := Lib.hid hv
    have HF := Lib.hid (validT_few hv)
    have hl12 : ps.length ≤ 12 := HF.out.1
    clear hv
    by_cases hl : xs.length = ps.length
    · have HL := Lib.hid hl
      have k1 : ((xs.length : Int) != (ps.length : Int)) = false := by simp; omega
      clear hl
      go_wp2_with fail
      generalize hwb : World.alloc _ _ = wb
      have hA : ArrS wb w.heap.size (List.replicate 12 false) := by rw [← hwb]; exact ⟨rfl, heap_new _ rfl⟩
      have hg : w.grownBy wb none := by rw [← hwb]; exact World.grownBy_alloc _ _ none
      have HA := Lib.hid hA; have HG := Lib.hid hg
      clear hwb hA hg k1
      go_loopw [20] (fun i wr => ∃ (k : Nat) (m : List Nat) (S : List Bool), i = .int .i64 k ∧ k ≤ xs.length ∧ Hid (ProvI (ps.map Prod.snd) xs k m S) ∧ Hid (ArrS wr w.heap.size S) ∧ Hid (w.grownBy wr none)) (fun i _ => xs.length - (intOf i).toNat)
      case atStart => exact ⟨0, [], _, rfl, Nat.zero_le _, Lib.hid ⟨rfl, rfl, fun i hi => by omega, List.nodup_nil, fun j => by rw [sn_rep]; simp⟩, HA, HG⟩
      case round =>
        obtain ⟨k, m, S, rfl, hk, hI, hA, hG⟩ := hrel
        by_cases hkb : k < xs.length
        · have h2 : (k : Int) < (xs.length : Int) := by omega
          have hkp : k < ps.length := by rw [← HL.out]; exact hkb
          have h3 : (k : Int) < (ps.length : Int) := by omega
          have i1 : IntKind.i64.wrap ((k : Int) + 1) = (k : Int) + 1 := IntWalk.i64_in _ (by have := HL.out; omega)
          obtain ⟨b1, o1, rfl, hx0⟩ := Ints.at HCM.out hkb
          have hx1 := hG.out.cell hx0 (by simp)
          obtain ⟨b2, o2, rfl, hr0⟩ := BRowsP.at HCT.out hkp
          have hr1 := hG.out.cell hr0 (by simp)
          have HRW := Lib.hid (HRS.out _ (List.getElem_mem hkp)); have HR1 := Lib.hid (HF.out.2 _ (List.getElem_mem hkp))
          have HTB : Hid (∀ j, tb (ps.map Prod.snd) k j = (ps[k]).2[j]?.getD false) := Lib.hid (fun j => by rw [tb_row (by rw [List.length_map]; exact hkp)]; simp)
          generalize ps[k] = R at *
          obtain ⟨rv, R⟩ := R
          obtain ⟨⟨ra, rc, hrv, -, hrc⟩, -⟩ := HRW.out
          dsimp only at hrv hr1 HR1 HTB
          subst hrv
          have HRC := Lib.hid hrc
          have HXE : Hid (xs[k]?.getD 0 = xs[k]?.getD 0) := Lib.hid rfl
          clear hrc HRW hx0 hr0
          generalize hx : xs[k]?.getD 0 = x at hx1
          have HX := Lib.hid hx
          clear hx HXE
          by_cases hneg : x < 0
          · have HN : Hid (PMI (ps.map Prod.snd) xs → False) := Lib.hid (fun h => by
              obtain ⟨j, hj, -⟩ := h.at_ hkb
              rw [HX.out] at hj; omega)
            go_wp2_with fail
            go_ret
            exact ⟨false, rfl, no_iff (fun e => HN.out e.2), hG.out⟩
          · obtain ⟨j, rfl⟩ : ∃ j : Nat, x = (j : Int) := ⟨x.toNat, by omega⟩
            by_cases hjl : j < R.length
            · have h4 : (j : Int) < (R.length : Int) := by omega
              have h5 : ¬ (R.length : Int) ≤ (j : Int) := by omega
              have hj12 : j < 12 := by have := HR1.out; omega
              have h12 : (j : Int) < 12 := by omega
              obtain ⟨hs1, hs2⟩ := hA.out.cell hj12
              have HSL : Hid (j < S.length) := Lib.hid (by rw [hA.out.1]; exact hj12)
              have HSJ := Lib.hid (hI.out.sn_ j)
              generalize hsv : sn S j = sv at hs1
              have HSV := Lib.hid hsv
              clear hsv
              cases sv with
              | true =>
                have HN : Hid (PMI (ps.map Prod.snd) xs → False) := Lib.hid (fun h => by
                  obtain ⟨j', hj', -, hno⟩ := h.at_ hkb
                  rw [HX.out] at hj'
                  have e : j' = j := by omega
                  subst e
                  obtain ⟨i, hi, he⟩ := List.getElem_of_mem (HSJ.out.1 HSV.out)
                  rw [hI.out.len] at hi
                  refine hno i hi ?_
                  have h6 : (xs.take k)[i]?.getD 0 = xs[i]?.getD 0 := by rw [List.getElem?_take, if_pos hi]
                  rw [← h6, hI.out.eq, getD_map, cl, List.getElem?_eq_getElem (by rw [hI.out.len]; exact hi), Option.getD_some, he])
                go_wp2_with fail
                go_ret
                exact ⟨false, rfl, no_iff (fun e => HN.out e.2), hG.out⟩
              | false =>
                obtain ⟨rb, ro, rfl, hbit0⟩ := Bools.at HRC.out hjl
                have hbit := hG.out.cell hbit0 (by simp)
                have TBJ := Lib.hid (HTB.out j)
                clear hbit0
                generalize R[j]?.getD false = fits at *
                cases fits with
                | false =>
                  have HN : Hid (PMI (ps.map Prod.snd) xs → False) := Lib.hid (fun h => by
                    obtain ⟨j', hj', hb, -⟩ := h.at_ hkb
                    rw [HX.out] at hj'
                    have e : j' = j := by omega
                    subst e
                    rw [TBJ.out] at hb; cases hb)
                  go_wp2_with fail
                  go_ret
                  exact ⟨false, rfl, no_iff (fun e => HN.out e.2), hG.out⟩
                | true =>
                  have HI2 := Lib.hid (hI.out.next hkb HX.out TBJ.out HSV.out HSL.out)
                  have HA2 := Lib.hid (hA.out.set j true)
                  have HG2 := Lib.hid (grown_then hG.out (grown_set wr ⟨w.heap.size, j, none⟩ (.bool true)) (by rintro b ⟨⟩; exact .inl (Nat.le_refl _)))
                  go_wp2_with fail
                  go_roundw
                  case rel => exact ⟨k + 1, _, _, by go_num, by omega, HI2, HA2, HG2⟩
                  case measure => simp [intOf]; omega
            · have h5 : (R.length : Int) ≤ (j : Int) := by omega
              have HN : Hid (PMI (ps.map Prod.snd) xs → False) := Lib.hid (fun h => by
                obtain ⟨j', hj', hb, -⟩ := h.at_ hkb
                rw [HX.out] at hj'
                have e : j' = j := by omega
                subst e
                rw [HTB.out, List.getElem?_eq_none (by omega)] at hb
                simp at hb)
              go_wp2_with fail
              go_ret
              exact ⟨false, rfl, no_iff (fun e => HN.out e.2), hG.out⟩
        · obtain rfl : k = xs.length := by omega
          have h2 : ¬ (xs.length : Int) < (xs.length : Int) := by omega
          go_wp2_with fail
          go_ret
          refine ⟨true, rfl, ⟨fun _ => ⟨HV.out, m, ?_, ?_⟩, fun _ => rfl⟩, hG.out⟩
          · rw [← hI.out.eq, List.take_length]
          · exact ⟨by rw [hI.out.len, HTL.out, HL.out], fun i hi => hI.out.edge i (by rw [← hI.out.len]; exact hi), hI.out.nd⟩
    · have k1 : ((xs.length : Int) != (ps.length : Int)) = true := by simp; omega
      have HN : Hid (PMI (ps.map Prod.snd) xs → False) := Lib.hid (by
        rintro ⟨m, rfl, hm⟩
        have := hm.len
        rw [HTL.out] at this
        simp at hl
        omega)
      clear hl
      go_wp2_with fail
      go_ret
      exact ⟨false, rfl, no_iff (fun e => HN.out e.2), grown_refl _ _⟩
  · have hv' : validT (ps.map Prod.snd) = false := by simpa using hv
    have HV := Lib.hid hv'
    rw [hv']
    clear hv hv'
    go_wp2_with fail
    go_ret
    exact ⟨false, rfl, no_iff (fun e => by rw [HV.out] at e; cases e.1), grown_refl _ _⟩

set_option maxRecDepth 100000 in
set_option maxHeartbeats 3000000 in
theorem rproves_w (vt vm : Value) (ps : List BRow) (xs : List Int) (w : World) (ht : BRowsW w vt ps) (hm : Ints w vm xs) :
    Calls Try.prog 26 #[vt, vm] w (ProvTo (ps.map Prod.snd) xs w) := by
  have HT := Lib.hid ht
  have HTL : Hid ((ps.map Prod.snd).length = ps.length) := Lib.hid (by simp)
  obtain ⟨a, cap, rfl, -, hct, hrs⟩ := ht
  obtain ⟨am, cm, rfl, -, hbd, hcm⟩ := hm
  have HCT := Lib.hid hct; have HRS := Lib.hid hrs; have HCM := Lib.hid hcm
  clear hct hrs hcm hbd
  go_enter Try.func26, Try.ntmps26
  go_wp2_with fail
  refine (rvalid_w _ ps _ HT.out).mono ?_
  rintro e w1 ⟨rfl, q1, rfl⟩
  by_cases hv : validT (ps.map Prod.snd) = true
  · rw [hv]
    have HV := Lib.hid hv
    have HF := Lib.hid (validT_few hv)
    have hl12 : ps.length ≤ 12 := HF.out.1
    clear hv
    by_cases hl : xs.length = ps.length
    · have HL := Lib.hid hl
      have k1 : ((xs.length : Int) != (ps.length : Int)) = false := by simp; omega
      clear hl
      go_wp2_with fail
      clear k1
      go_loopw [5] (fun i wr => ∃ (k q : Nat) (m : List Nat) (S : List Bool), i = .int .i64 k ∧ k ≤ ps.length ∧ Hid (ProvI (ps.map Prod.snd) xs k m S) ∧ Hid (S.length = 12) ∧ wr = w.drewN q) (fun i _ => ps.length - (intOf i).toNat)
      case atStart => exact ⟨0, _, [], List.replicate 12 false, rfl, Nat.zero_le _, Lib.hid ⟨rfl, rfl, fun i hi => by omega, List.nodup_nil, fun j => by rw [sn_rep]; simp⟩, Lib.hid rfl, rfl⟩
      case round =>
        obtain ⟨k, q, m, S, rfl, hk, hI, hS, rfl⟩ := hrel
        by_cases hkp : k < ps.length
        · have hkb : k < xs.length := by rw [HL.out]; exact hkp
          have h3 : (k : Int) < (ps.length : Int) := by omega
          have h2 : (k : Int) < (xs.length : Int) := by omega
          have i1 : IntKind.i64.wrap ((k : Int) + 1) = (k : Int) + 1 := IntWalk.i64_in _ (by omega)
          obtain ⟨b1, o1, rfl, hx1⟩ := Ints.at HCM.out hkb
          obtain ⟨b2, o2, rfl, hr1⟩ := BRowsP.at HCT.out hkp
          have HRW := Lib.hid (HRS.out _ (List.getElem_mem hkp)); have HR1 := Lib.hid (HF.out.2 _ (List.getElem_mem hkp))
          have HTB : Hid (∀ j, tb (ps.map Prod.snd) k j = (ps[k]).2[j]?.getD false) := Lib.hid (fun j => by rw [tb_row (by rw [List.length_map]; exact hkp)]; simp)
          generalize ps[k] = R at *
          obtain ⟨rv, R⟩ := R
          obtain ⟨⟨ra, rc, hrv, -, hrc⟩, -⟩ := HRW.out
          dsimp only at hrv hr1 HR1 HTB
          subst hrv
          have HRC := Lib.hid hrc
          clear hrc HRW
          generalize hx : xs[k]?.getD 0 = x at hx1
          have HX := Lib.hid hx
          clear hx
          by_cases hneg : x < 0
          · have HN : Hid (PMI (ps.map Prod.snd) xs → False) := Lib.hid (fun h => by
              obtain ⟨j, hj, -⟩ := h.at_ hkb
              rw [HX.out] at hj; omega)
            have k4 : decide (x < 0) = true := by simpa using hneg
            go_wp2_with fail
            go_big_quiet (fail)
            go_wp2_with fail
            go_ret
            exact ⟨false, rfl, no_iff (fun e => HN.out e.2), (Drew.grown ((Drew.mk _ _).trans (Drew.mk _ _)) none)⟩
          · obtain ⟨j, rfl⟩ : ∃ j : Nat, x = (j : Int) := ⟨x.toNat, by omega⟩
            have k4 : decide ((j : Int) < 0) = false := by simp
            by_cases hjl : j < R.length
            · have h4 : (j : Int) < (R.length : Int) := by omega
              have k5 : decide ((R.length : Int) ≤ (j : Int)) = false := by simp; omega
              have k6 : decide (R.length ≤ j) = false := by simp; omega
              obtain ⟨rb, ro, rfl, hbit⟩ := Bools.at HRC.out hjl
              have TBJ := Lib.hid (HTB.out j)
              have HJ12 : Hid (j < 12) := Lib.hid (by have := HR1.out; omega)
              generalize R[j]?.getD false = fits at *
              cases fits with
              | false =>
                have HN : Hid (PMI (ps.map Prod.snd) xs → False) := Lib.hid (fun h => by
                  obtain ⟨j', hj', hb, -⟩ := h.at_ hkb
                  rw [HX.out] at hj'
                  have e : j' = j := by omega
                  subst e
                  rw [TBJ.out] at hb; cases hb)
                go_wp2_with fail
                go_big_quiet (fail)
                go_wp2_with fail
                go_ret
                exact ⟨false, rfl, no_iff (fun e => HN.out e.2), (Drew.grown ((Drew.mk _ _).trans (Drew.mk _ _)) none)⟩
              | true =>
                have HSJ := Lib.hid (hI.out.sn_ j)
                go_wp2_with fail
                go_big_quiet (fail)
                go_wp2_with fail
                clear k4 k5 k6 hbit hr1
                go_loopw [6] (fun i wr => ∃ (c q2 : Nat), i = .int .i64 c ∧ c ≤ k ∧ Hid (∀ i, i < c → xs[i]?.getD 0 ≠ (j : Int)) ∧ wr = w.drewN q2) (fun i _ => k - (intOf i).toNat)
                case atStart =>
                  have hd : ∀ n2, ∃ z, (w.drewN q).drewN n2 = w.drewN z := fun n2 => (Drew.mk w q).trans (Drew.mk _ n2)
                  obtain ⟨z, hz⟩ := hd _
                  exact ⟨0, z, rfl, Nat.zero_le _, Lib.hid (fun i hi => by omega), hz⟩
                case round =>
                  obtain ⟨c, q2, rfl, hck, hall, rfl⟩ := hrel
                  by_cases hcb : c < k
                  · have h6 : (c : Int) < (k : Int) := by omega
                    have h7 : (c : Int) < (xs.length : Int) := by omega
                    have i3 : IntKind.i64.wrap ((c : Int) + 1) = (c : Int) + 1 := IntWalk.i64_in _ (by omega)
                    obtain ⟨b3, o3, hbe, hy⟩ := Ints.at HCM.out (show c < xs.length by omega)
                    simp only [Option.some.injEq, Addr.mk.injEq, and_true] at hbe
                    obtain ⟨rfl, rfl⟩ := hbe
                    generalize hyv : xs[c]?.getD 0 = y at hy
                    have HY := Lib.hid hyv
                    clear hyv
                    by_cases he : y = (j : Int)
                    · subst he
                      have HN : Hid (PMI (ps.map Prod.snd) xs → False) := Lib.hid (fun h => by
                        obtain ⟨j', hj', -, hno⟩ := h.at_ hkb
                        rw [HX.out] at hj'
                        exact hno c hcb (by rw [HY.out]; omega))
                      have k7 : ((j : Int) == (j : Int)) = true := by simp
                      go_wp2_with fail
                      go_big_quiet (fail)
                      go_wp2_with fail
                      go_ret
                      exact ⟨false, rfl, no_iff (fun e => HN.out e.2), (Drew.grown ((Drew.mk _ _).trans (Drew.mk _ _)) none)⟩
                    · have HNE := Lib.hid he
                      have k7 : (y == (j : Int)) = false := by simpa using he
                      clear he
                      go_wp2_with fail
                      go_big_quiet (fail)
                      go_wp2_with fail
                      go_roundw
                      case rel => exact ⟨c + 1, _, by go_num, by omega, Lib.hid (fun i hi => by
                        by_cases e : i < c
                        · exact hall.out i e
                        · obtain rfl : i = c := by omega
                          rw [HY.out]; exact HNE.out), rfl⟩
                      case measure => simp [intOf]; omega
                  · obtain rfl : c = k := by omega
                    have h6 : ¬ (c : Int) < (c : Int) := by omega
                    have HSF : Hid (sn S j = false) := Lib.hid (by
                      cases e : sn S j
                      · rfl
                      · exfalso
                        obtain ⟨i, hi, he⟩ := List.getElem_of_mem (HSJ.out.1 e)
                        rw [hI.out.len] at hi
                        refine hall.out i hi ?_
                        have h6 : (xs.take c)[i]?.getD 0 = xs[i]?.getD 0 := by rw [List.getElem?_take, if_pos hi]
                        rw [← h6, hI.out.eq, getD_map, cl, List.getElem?_eq_getElem (by rw [hI.out.len]; exact hi), Option.getD_some, he])
                    have HI2 := Lib.hid (hI.out.next hkb HX.out TBJ.out HSF.out (by rw [hS.out]; exact HJ12.out))
                    go_wp2_with fail
                    go_roundw
                    case rel => exact ⟨c + 1, _, _, _, by go_num, by omega, HI2, Lib.hid (by rw [List.length_set]; exact hS.out), rfl⟩
                    case measure => simp [intOf]; omega
            · have k5 : decide ((R.length : Int) ≤ (j : Int)) = true := by simp; omega
              have k6 : decide (R.length ≤ j) = true := by simp; omega
              have HN : Hid (PMI (ps.map Prod.snd) xs → False) := Lib.hid (fun h => by
                obtain ⟨j', hj', hb, -⟩ := h.at_ hkb
                rw [HX.out] at hj'
                have e : j' = j := by omega
                subst e
                rw [HTB.out, List.getElem?_eq_none (by omega)] at hb
                simp at hb)
              go_wp2_with fail
              go_big_quiet (fail)
              go_wp2_with fail
              go_ret
              exact ⟨false, rfl, no_iff (fun e => HN.out e.2), (Drew.grown ((Drew.mk _ _).trans (Drew.mk _ _)) none)⟩
        · obtain rfl : k = ps.length := by omega
          have h2 : ¬ (ps.length : Int) < (ps.length : Int) := by omega
          go_wp2_with fail
          go_ret
          refine ⟨true, rfl, ⟨fun _ => ⟨HV.out, m, ?_, ?_⟩, fun _ => rfl⟩, grown_drewN _ _ none⟩
          · rw [← hI.out.eq, ← HL.out, List.take_length]
          · exact ⟨by rw [hI.out.len, HTL.out], fun i hi => hI.out.edge i (by rw [← hI.out.len]; exact hi), hI.out.nd⟩
    · have k1 : ((xs.length : Int) != (ps.length : Int)) = true := by simp; omega
      have HN : Hid (PMI (ps.map Prod.snd) xs → False) := Lib.hid (by
        rintro ⟨m, rfl, hm⟩
        have := hm.len
        rw [HTL.out] at this
        simp at hl
        omega)
      clear hl
      go_wp2_with fail
      go_ret
      exact ⟨false, rfl, no_iff (fun e => HN.out e.2), grown_drewN _ _ none⟩
  · have hv' : validT (ps.map Prod.snd) = false := by simpa using hv
    have HV := Lib.hid hv'
    rw [hv']
    clear hv hv'
    go_wp2_with fail
    go_ret
    exact ⟨false, rfl, no_iff (fun e => by rw [HV.out] at e; cases e.1), grown_drewN _ _ none⟩

end Go.Proofs.Ytnppmemcdcgjhaa
