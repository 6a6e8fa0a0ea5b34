/- The reference's Proves. -/
import Derived.Test.YtnppmemcdcgjhaaLc
namespace Go.Proofs.Ytnppmemcdcgjhaa
open Go.RowKit
set_option linter.unusedVariables false

set_option maxRecDepth 100000 in
set_option maxHeartbeats 3000000 in
theorem rproves_any (vt vm : Value) (ps : List BRow) (xs : List Int) (w : World) (ht : BRowsP w vt ps) (hm : Ints w vm xs) :
    Calls Try.prog 26 #[vt, vm] w (ProvTo (ps.map Prod.snd) xs w) := by
  have HT := Lib.hid ht
  have HTL : Hid ((ps.map Prod.snd).length = ps.length) := Lib.hid (by simp)
  obtain ⟨a, cap, rfl, -, hct, hrs⟩ := ht
  obtain ⟨am, cm, rfl, -, hbd, hcm⟩ := hm
  have HCT := Lib.hid hct; have HRS := Lib.hid hrs; have HCM := Lib.hid hcm
  clear hct hrs hcm hbd
  go_enter Try.func26, Try.ntmps26
  go_wp2_with fail
  refine (rvalid_any _ ps _ HT.out).mono ?_
  rintro e w1 ⟨rfl, q1, rfl⟩
  by_cases hv : validT (ps.map Prod.snd) = true
  · rw [hv]
    have HV := Lib.hid hv
    have HF := Lib.hid (validT_few hv)
    have hl12 : ps.length ≤ 12 := HF.out.1
    clear hv
    by_cases hl : xs.length = ps.length
    · have HL := Lib.hid hl
      have k1 : ((xs.length : Int) != (ps.length : Int)) = false := by simp; omega
      clear hl
      go_wp2_with fail
      clear k1
      go_loopw [5] (fun i wr => ∃ (k q : Nat) (m : List Nat) (S : List Bool), i = .int .i64 k ∧ k ≤ ps.length ∧ Hid (ProvI (ps.map Prod.snd) xs k m S) ∧ Hid (S.length = 12) ∧ wr = w.drewN q) (fun i _ => ps.length - (intOf i).toNat)
      case atStart => exact ⟨0, _, [], List.replicate 12 false, rfl, Nat.zero_le _, Lib.hid ⟨rfl, rfl, fun i hi => by omega, List.nodup_nil, fun j => by rw [sn_rep]; simp⟩, Lib.hid rfl, rfl⟩
      case round =>
        obtain ⟨k, q, m, S, rfl, hk, hI, hS, rfl⟩ := hrel
        by_cases hkp : k < ps.length
        · have hkb : k < xs.length := by rw [HL.out]; exact hkp
          have h3 : (k : Int) < (ps.length : Int) := by omega
          have h2 : (k : Int) < (xs.length : Int) := by omega
          have i1 : IntKind.i64.wrap ((k : Int) + 1) = (k : Int) + 1 := IntWalk.i64_in _ (by omega)
          obtain ⟨b1, o1, rfl, hx1⟩ := Ints.at HCM.out hkb
          obtain ⟨b2, o2, rfl, hr1⟩ := BRowsP.at HCT.out hkp
          have HRW := Lib.hid (HRS.out _ (List.getElem_mem hkp)); have HR1 := Lib.hid (HF.out.2 _ (List.getElem_mem hkp))
          have HTB : Hid (∀ j, tb (ps.map Prod.snd) k j = (ps[k]).2[j]?.getD false) := Lib.hid (fun j => by rw [tb_row (by rw [List.length_map]; exact hkp)]; simp)
          generalize ps[k] = R at *
          obtain ⟨rv, R⟩ := R
          obtain ⟨⟨ra, rc, hrv, -, hrc⟩, -⟩ := HRW.out
          dsimp only at hrv hr1 HR1 HTB
          subst hrv
          have HRC := Lib.hid hrc
          clear hrc HRW
          generalize hx : xs[k]?.getD 0 = x at hx1
          have HX := Lib.hid hx
          clear hx
          by_cases hneg : x < 0
          · have HN : Hid (PMI (ps.map Prod.snd) xs → False) := Lib.hid (fun h => by
              obtain ⟨j, hj, -⟩ := h.at_ hkb
              rw [HX.out] at hj; omega)
            have k4 : decide (x < 0) = true := by simpa using hneg
            go_wp2_with fail
            go_big_quiet (fail)
            go_wp2_with fail
            go_ret
            exact ⟨false, rfl, no_iff (fun e => HN.out e.2), (Drew.grown ((Drew.mk _ _).trans (Drew.mk _ _)) none)⟩
          · obtain ⟨j, rfl⟩ : ∃ j : Nat, x = (j : Int) := ⟨x.toNat, by omega⟩
            have k4 : decide ((j : Int) < 0) = false := by simp
            by_cases hjl : j < R.length
            · have h4 : (j : Int) < (R.length : Int) := by omega
              have k5 : decide ((R.length : Int) ≤ (j : Int)) = false := by simp; omega
              have k6 : decide (R.length ≤ j) = false := by simp; omega
              obtain ⟨rb, ro, rfl, hbit⟩ := Bools.at HRC.out hjl
              have TBJ := Lib.hid (HTB.out j)
              have HJ12 : Hid (j < 12) := Lib.hid (by have := HR1.out; omega)
              generalize R[j]?.getD false = fits at *
              cases fits with
              | false =>
                have HN : Hid (PMI (ps.map Prod.snd) xs → False) := Lib.hid (fun h => by
                  obtain ⟨j', hj', hb, -⟩ := h.at_ hkb
                  rw [HX.out] at hj'
                  have e : j' = j := by omega
                  subst e
                  rw [TBJ.out] at hb; cases hb)
                go_wp2_with fail
                go_big_quiet (fail)
                go_wp2_with fail
                go_ret
                exact ⟨false, rfl, no_iff (fun e => HN.out e.2), (Drew.grown ((Drew.mk _ _).trans (Drew.mk _ _)) none)⟩
              | true =>
                have HSJ := Lib.hid (hI.out.sn_ j)
                go_wp2_with fail
                go_big_quiet (fail)
                go_wp2_with fail
                clear k4 k5 k6 hbit hr1
                go_loopw [6] (fun i wr => ∃ (c q2 : Nat), i = .int .i64 c ∧ c ≤ k ∧ Hid (∀ i, i < c → xs[i]?.getD 0 ≠ (j : Int)) ∧ wr = w.drewN q2) (fun i _ => k - (intOf i).toNat)
                case atStart =>
                  have hd : ∀ n2, ∃ z, (w.drewN q).drewN n2 = w.drewN z := fun n2 => (Drew.mk w q).trans (Drew.mk _ n2)
                  obtain ⟨z, hz⟩ := hd _
                  exact ⟨0, z, rfl, Nat.zero_le _, Lib.hid (fun i hi => by omega), hz⟩
                case round =>
                  obtain ⟨c, q2, rfl, hck, hall, rfl⟩ := hrel
                  by_cases hcb : c < k
                  · have h6 : (c : Int) < (k : Int) := by omega
                    have h7 : (c : Int) < (xs.length : Int) := by omega
                    have i3 : IntKind.i64.wrap ((c : Int) + 1) = (c : Int) + 1 := IntWalk.i64_in _ (by omega)
                    obtain ⟨b3, o3, hbe, hy⟩ := Ints.at HCM.out (show c < xs.length by omega)
                    simp only [Option.some.injEq, Addr.mk.injEq, and_true] at hbe
                    obtain ⟨rfl, rfl⟩ := hbe
                    generalize hyv : xs[c]?.getD 0 = y at hy
                    have HY := Lib.hid hyv
                    clear hyv
                    by_cases he : y = (j : Int)
                    · subst he
                      have HN : Hid (PMI (ps.map Prod.snd) xs → False) := Lib.hid (fun h => by
                        obtain ⟨j', hj', -, hno⟩ := h.at_ hkb
                        rw [HX.out] at hj'
                        exact hno c hcb (by rw [HY.out]; omega))
                      have k7 : ((j : Int) == (j : Int)) = true := by simp
                      go_wp2_with fail
                      go_big_quiet (fail)
                      go_wp2_with fail
                      go_ret
                      exact ⟨false, rfl, no_iff (fun e => HN.out e.2), (Drew.grown ((Drew.mk _ _).trans (Drew.mk _ _)) none)⟩
                    · have HNE := Lib.hid he
                      have k7 : (y == (j : Int)) = false := by simpa using he
                      clear he
                      go_wp2_with fail
                      go_big_quiet (fail)
                      go_wp2_with fail
                      go_roundw
                      case rel => exact ⟨c + 1, _, by go_num, by omega, Lib.hid (fun i hi => by
                        by_cases e : i < c
                        · exact hall.out i e
                        · obtain rfl : i = c := by omega
                          rw [HY.out]; exact HNE.out), rfl⟩
                      case measure => simp [intOf]; omega
                  · obtain rfl : c = k := by omega
                    have h6 : ¬ (c : Int) < (c : Int) := by omega
                    have HSF : Hid (sn S j = false) := Lib.hid (by
                      cases e : sn S j
                      · rfl
                      · exfalso
                        obtain ⟨i, hi, he⟩ := List.getElem_of_mem (HSJ.out.1 e)
                        rw [hI.out.len] at hi
                        refine hall.out i hi ?_
                        have h6 : (xs.take c)[i]?.getD 0 = xs[i]?.getD 0 := by rw [List.getElem?_take, if_pos hi]
                        rw [← h6, hI.out.eq, getD_map, cl, List.getElem?_eq_getElem (by rw [hI.out.len]; exact hi), Option.getD_some, he])
                    have HI2 := Lib.hid (hI.out.next hkb HX.out TBJ.out HSF.out (by rw [hS.out]; exact HJ12.out))
                    go_wp2_with fail
                    go_roundw
                    case rel => exact ⟨c + 1, _, _, _, by go_num, by omega, HI2, Lib.hid (by rw [List.length_set]; exact hS.out), rfl⟩
                    case measure => simp [intOf]; omega
            · have k5 : decide ((R.length : Int) ≤ (j : Int)) = true := by simp; omega
              have k6 : decide (R.length ≤ j) = true := by simp; omega
              have HN : Hid (PMI (ps.map Prod.snd) xs → False) := Lib.hid (fun h => by
                obtain ⟨j', hj', hb, -⟩ := h.at_ hkb
                rw [HX.out] at hj'
                have e : j' = j := by omega
                subst e
                rw [HTB.out, List.getElem?_eq_none (by omega)] at hb
                simp at hb)
              go_wp2_with fail
              go_big_quiet (fail)
              go_wp2_with fail
              go_ret
              exact ⟨false, rfl, no_iff (fun e => HN.out e.2), (Drew.grown ((Drew.mk _ _).trans (Drew.mk _ _)) none)⟩
        · obtain rfl : k = ps.length := by omega
          have h2 : ¬ (ps.length : Int) < (ps.length : Int) := by omega
          go_wp2_with fail
          go_ret
          refine ⟨true, rfl, ⟨fun _ => ⟨HV.out, m, ?_, ?_⟩, fun _ => rfl⟩, grown_drewN _ _ none⟩
          · rw [← hI.out.eq, ← HL.out, List.take_length]
          · exact ⟨by rw [hI.out.len, HTL.out], fun i hi => hI.out.edge i (by rw [← hI.out.len]; exact hi), hI.out.nd⟩
    · have k1 : ((xs.length : Int) != (ps.length : Int)) = true := by simp; omega
      have HN : Hid (PMI (ps.map Prod.snd) xs → False) := Lib.hid (by
        rintro ⟨m, rfl, hm⟩
        have := hm.len
        rw [HTL.out] at this
        simp at hl
        omega)
      clear hl
      go_wp2_with fail
      go_ret
      exact ⟨false, rfl, no_iff (fun e => HN.out e.2), grown_drewN _ _ none⟩
  · have hv' : validT (ps.map Prod.snd) = false := by simpa using hv
    have HV := Lib.hid hv'
    rw [hv']
    clear hv hv'
    go_wp2_with fail
    go_ret
    exact ⟨false, rfl, no_iff (fun e => by rw [HV.out] at e; cases e.1), grown_drewN _ _ none⟩

end Go.Proofs.Ytnppmemcdcgjhaa
