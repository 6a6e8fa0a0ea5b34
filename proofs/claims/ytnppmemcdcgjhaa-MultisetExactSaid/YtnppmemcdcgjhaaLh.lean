/- The reference's Match: the contract. -/
import Derived.Test.YtnppmemcdcgjhaaLg
namespace Go.Proofs.Ytnppmemcdcgjhaa
open Go.RowKit
set_option linter.unusedVariables false

theorem FixI.lenC {ps qs : List BRow} {row col C : Nat} (h : FixI ps qs row col ps.length) (hC : ∀ p ∈ ps, p.2.length = C) : ∀ q ∈ qs, q.2.length = C := fun q hq => by
  obtain ⟨i, hi, rfl⟩ := List.getElem_of_mem hq
  have hi' : i < ps.length := by rw [← h.len]; exact hi
  have := h.lens i hi'
  rw [List.getElem?_eq_getElem (by rw [List.length_map]; exact hi), List.getElem?_eq_getElem (by rw [List.length_map]; exact hi')] at this
  simp only [Option.getD_some, List.getElem_map] at this
  rw [this]
  exact hC _ (List.getElem_mem hi')
theorem tb_ltC {ps : List BRow} {C r j : Nat} (hC : ∀ p ∈ ps, p.2.length = C) (h : tb (ps.map Prod.snd) r j = true) : r < ps.length ∧ j < C := by
  obtain ⟨hr, hj⟩ := tb_lt h
  have hr' : r < ps.length := by simpa using hr
  have := hC _ (List.getElem_mem hr')
  simp at hj
  exact ⟨hr', by omega⟩
/-- Blocks of an own row of integers, and of a table, are apart. -/
def Sep (vo vl : Value) (qs : List BRow) : Prop := ∀ k, vo.ownBlock = some k → vl.ownBlock ≠ some k ∧ ∀ q ∈ qs, q.1.ownBlock ≠ some k

set_option maxRecDepth 100000 in
set_option maxHeartbeats 4000000 in
theorem rMatch_any (vt : Value) (ps : List BRow) (w : World) (ht : BRowsP w vt ps) :
    Calls Try.prog 19 #[vt] w (MatchAll (ps.map Prod.snd) w) := by
  have HT := Lib.hid ht
  have HTL : Hid ((ps.map Prod.snd).length = ps.length) := Lib.hid (by simp)
  obtain ⟨a, cap, rfl, -, hct, hrs⟩ := ht
  have HCT := Lib.hid hct; have HRS := Lib.hid hrs
  clear hct hrs
  go_enter Try.func19, Try.ntmps19
  go_wp2_with fail
  refine (rvalid_any _ ps _ HT.out).mono ?_
  rintro e w1 ⟨rfl, hd⟩
  have G1 := Lib.hid (hd.grown none)
  clear hd
  by_cases hv : validT (ps.map Prod.snd) = true
  case neg =>
    have hv' : validT (ps.map Prod.snd) = false := by simpa using hv
    have HV := Lib.hid hv'
    rw [hv']
    clear hv hv'
    go_wp2_with fail
    go_ret2
    exact ⟨G1.out, .inl ⟨(fun h => by rw [HV.out] at h; cases h.1), rfl⟩⟩
  have HV := Lib.hid hv
  obtain ⟨C, HC, hC12, hl12⟩ : ∃ C, Hid (∀ p ∈ ps, p.2.length = C) ∧ C ≤ 12 ∧ ps.length ≤ 12 := by
    obtain ⟨h1, h2⟩ := validT_iff.1 hv
    refine ⟨((ps.map Prod.snd)[0]?.getD []).length, Lib.hid (fun p hp => (h2 _ (List.mem_map_of_mem hp)).2), ?_, by simpa using h1⟩
    cases ps with
    | nil => simp
    | cons p ps => exact (h2 p.2 (by simp)).1
  rw [hv]
  clear hv
  go_wp2_with fail
  refine (rmost_any _ ps _ C (HT.out.same G1.out) hl12 hC12 HC.out).mono ?_
  rintro e w2 ⟨n, rfl, hn, hg⟩
  have HN := Lib.hid hn; have G2 := Lib.hid (grown_trans G1.out hg)
  have HNL : Hid (n ≤ ps.length) := Lib.hid (by have := hn.le; rw [HTL.out] at this; exact this)
  clear hn hg
  by_cases hlt : n < ps.length
  · have k1 : (n : Int) < (ps.length : Int) := by omega
    go_wp2_with fail
    go_ret2
    exact ⟨G2.out, .inl ⟨(fun ⟨_, m, hm⟩ => by have := hm.nu HN.out; rw [HTL.out] at this; omega), rfl⟩⟩
  have HPM : Hid (∃ M, PM (ps.map Prod.snd) M) := Lib.hid (by
    have e : n = (ps.map Prod.snd).length := by rw [HTL.out]; have := HNL.out; omega
    have := HN.out
    rw [e] at this
    exact this.full)
  have k1 : ¬ (n : Int) < (ps.length : Int) := by omega
  clear hlt
  go_wp2_with (at_make; refine make_brows rfl _ _ rfl ps.length rfl rfl (by omega) ?_)
  intro w3 ho hg
  have HG : Hid (w.grownBy w3 none) := Lib.hid (grown_trans G2.out hg)
  have HO : Hid (OwnT w3 w2.heap.size (.slice (some ⟨w2.heap.size, 0, none⟩) ps.length ps.length) (List.replicate ps.length nilB)) := Lib.hid ⟨ho, (fun q hq => by rw [List.eq_of_mem_replicate hq]; exact OwnB.nil _ _), List.pairwise_replicate.2 (.inr (by intro g hg; simp [nilB, Value.ownBlock] at hg))⟩
  clear ho hg k1
  obtain ⟨M, hMM⟩ : ∃ M, w2.heap.size = M := ⟨_, rfl⟩
  have HMM : Hid (w.heap.size ≤ M) := Lib.hid (by rw [← hMM]; exact G2.out.size)
  rw [hMM] at HO ⊢
  clear hMM
  go_wp2_with fail
  go_loopw [5] (fun i wr => ∃ (k : Nat) (qs : List BRow), i = .int .i64 k ∧ k ≤ ps.length ∧ Hid (OwnT wr M (.slice (some ⟨M, 0, none⟩) ps.length ps.length) qs) ∧ Hid (qs.length = ps.length) ∧ Hid (∀ x, x < k → (qs.map Prod.snd)[x]? = (ps.map Prod.snd)[x]?) ∧ Hid (w.grownBy wr none)) (fun i _ => ps.length - (intOf i).toNat)
  case atStart => exact ⟨0, _, rfl, Nat.zero_le _, HO, Lib.hid (by simp), Lib.hid (fun x hx => by omega), HG⟩
  case round =>
    obtain ⟨k, qs, rfl, hk, hO, hQ, hE, hG⟩ := hrel
    rename World => wk
    by_cases hkb : k < ps.length
    · have h2 : (k : Int) < (ps.length : Int) := by omega
      have i1 : IntKind.i64.wrap ((k : Int) + 1) = (k : Int) + 1 := IntWalk.i64_in _ (by omega)
      obtain ⟨b, off, rfl, hc0⟩ := BRowsP.at HCT.out hkb
      have HBR := Lib.hid ((HRS.out _ (List.getElem_mem hkb)).same hG.out); have HRC := Lib.hid (HC.out _ (List.getElem_mem hkb))
      have HPL : Hid ((ps.map Prod.snd)[k]? = some (ps[k]).2) := Lib.hid (by simp [hkb])
      generalize ps[k] = R at *
      obtain ⟨rv, R⟩ := R
      obtain ⟨⟨ra, rc, hrv, -, -⟩, -⟩ := HBR.out
      dsimp only at hrv hc0 HRC HPL
      subst hrv
      have hR2 : R.length ≤ 12 := by rw [HRC.out]; exact hC12
      have hc1 := hG.out.cell hc0 (by simp)
      clear hc0
      go_wp2_with (at_builtin; refine app_bools rfl _ _ rfl wk.heap.size (.slice none 0 0) [] rfl (OwnB.nil _ _) _ R rfl HBR.out.1 HBR.out.2.1 (by simp; omega) (Nat.le_refl _) ?_)
      intro v2 w4 ho2 hg2
      replace ho2 : OwnB w4 wk.heap.size v2 R := ho2
      obtain ⟨a2, c2, rfl⟩ := ownB_open ho2
      obtain ⟨hcc, hfz⟩ := (hO.out.same7 hg2).1.cell k (by rw [hQ.out]; exact hkb)
      have HOT := Lib.hid (hO.out.put (k := k) (by rw [hQ.out]; exact hkb) ho2 hg2)
      have HE2 : Hid (∀ x, x < k + 1 → ((qs.set k (.slice a2 R.length c2, R)).map Prod.snd)[x]? = (ps.map Prod.snd)[x]?) := Lib.hid (fun x hx => by
        rw [List.map_set]
        by_cases e : x = k
        · subst e
          rw [List.getElem?_set_self (by rw [List.length_map, hQ.out]; exact hkb), HPL.out]
        · rw [List.getElem?_set_ne (Ne.symm e)]
          exact hE.out x (by omega))
      have HG3 : Hid (w.grownBy (w4.setCell ⟨M, k, none⟩ (.slice a2 R.length c2)) none) := Lib.hid (grown_then (grown_trans hG.out hg2) (grown_set w4 ⟨M, k, none⟩ (.slice a2 R.length c2)) (by rintro j ⟨⟩; exact .inl HMM.out))
      clear ho2 hg2 hc1
      go_wp2_with fail
      go_roundw
      case rel => exact ⟨k + 1, _, by go_num, by omega, HOT, Lib.hid (by rw [List.length_set]; exact hQ.out), HE2, HG3⟩
      case measure => simp [intOf]; omega
    · obtain rfl : k = ps.length := by omega
      have h2 : ¬ (ps.length : Int) < (ps.length : Int) := by omega
      have HQE : Hid (qs.map Prod.snd = ps.map Prod.snd) := Lib.hid (List.ext_getElem? (fun x => by
        by_cases e : x < ps.length
        · exact hE.out x e
        · rw [List.getElem?_eq_none (by rw [List.length_map, hQ.out]; omega), List.getElem?_eq_none (by rw [List.length_map]; omega)]))
      have HRM : Hid (RMI (ps.map Prod.snd) (qs.map Prod.snd) []) := Lib.hid (by rw [HQE.out]; exact RMI.start HPM.out)
      have HQC : Hid (∀ q ∈ qs, q.2.length = C) := Lib.hid (fun q hq => by
        have : q.2 ∈ ps.map Prod.snd := HQE.out ▸ List.mem_map_of_mem hq
        obtain ⟨p', hp', e⟩ := List.mem_map.1 this
        rw [← e]; exact HC.out p' hp')
      have HB := Lib.hid hO.out.1.rows
      clear hO hE HPM
      go_wp2_with fail
      go_loopw [4, 6, 7] (fun rv ov i wr => ∃ (k g' : Nat) (qs : List BRow) (m : List Nat), rv = .slice (some ⟨g', 0, none⟩) ps.length ps.length ∧ i = .int .i64 k ∧ k ≤ ps.length ∧ Hid (m.length = k) ∧ Hid (qs.length = ps.length) ∧ Hid (BRowsP wr (.slice (some ⟨g', 0, none⟩) ps.length ps.length) qs) ∧ Hid (RMI (ps.map Prod.snd) (qs.map Prod.snd) m) ∧ Hid (∀ q ∈ qs, q.2.length = C) ∧ Hid (OwnI wr w.heap.size ov (m.map Int.ofNat)) ∧ Hid (Sep ov (.slice (some ⟨g', 0, none⟩) ps.length ps.length) qs) ∧ Hid (w.grownBy wr none)) (fun _ _ i _ => ps.length - (intOf i).toNat)
      case atStart => exact ⟨0, M, qs, [], rfl, rfl, Nat.zero_le _, Lib.hid rfl, hQ, HB, HRM, HQC, Lib.hid (World.ownsRow_nil _ _ _ _), Lib.hid (fun k hk => by cases hk), hG⟩
      case round =>
        clear HB HRM HQC HQE hQ hG h2
        obtain ⟨k, g', qs, m, rfl, rfl, hk, hml, hQ, hB, hI, hL, hM, hS, hG⟩ := hrel
        rename World => wk
        by_cases hkb : k < ps.length
        · have h2 : (k : Int) < (ps.length : Int) := by omega
          have i1 : IntKind.i64.wrap ((k : Int) + 1) = (k : Int) + 1 := IntWalk.i64_in _ (by omega)
          have HKQ : Hid (k < qs.length) := Lib.hid (by rw [hQ.out]; exact hkb)
          have HKM : Hid (m.length < (ps.map Prod.snd).length) := Lib.hid (by rw [hml.out, HTL.out]; exact hkb)
          obtain ⟨b0, o0, rfl, hct0⟩ := BRowsP.at HCT.out hkb
          have HB0 := Lib.hid (HRS.out _ (List.getElem_mem hkb)); have HP0 := Lib.hid (HC.out _ (List.getElem_mem hkb))
          generalize ps[k] = P0 at *
          obtain ⟨pv, P0⟩ := P0
          obtain ⟨⟨pa, pc, hpv, -, -⟩, -⟩ := HB0.out
          dsimp only at hpv hct0 HP0
          subst hpv
          rw [HP0.out] at hct0
          have HCT0 := Lib.hid hct0
          obtain ⟨a1, cap1, hv1, -, hct1, hrs1⟩ := hB.out
          simp only [Value.slice.injEq] at hv1
          obtain ⟨e1, -, -⟩ := hv1
          obtain ⟨b1, o1, hb1, hcell1⟩ := BRowsP.at hct1 HKQ.out
          rw [← e1] at hb1
          simp only [Option.some.injEq, Addr.mk.injEq, and_true] at hb1
          obtain ⟨rfl, rfl⟩ := hb1
          rw [Nat.zero_add] at hcell1
          have HRW := Lib.hid (hrs1 _ (List.getElem_mem HKQ.out)); have HR1 := Lib.hid (hL.out _ (List.getElem_mem HKQ.out))
          have HTB : Hid (∀ j, tb (qs.map Prod.snd) k j = (qs[k]'HKQ.out).2[j]?.getD false) := Lib.hid (fun j => by rw [tb_row (by rw [List.length_map]; exact HKQ.out)]; simp)
          clear e1 hct1 hrs1 HB0
          generalize qs[k]'HKQ.out = R at *
          obtain ⟨rv, R⟩ := R
          obtain ⟨⟨ra, rc, hrv, -, hrc⟩, -⟩ := HRW.out
          dsimp only at hrv hcell1 HR1 HTB
          subst hrv
          have HRC := Lib.hid hrc
          rw [HR1.out] at hcell1
          have HCE := Lib.hid hcell1
          clear hrc HRW hcell1 hct0
          have HEDGE : Hid (∀ X, PM (ps.map Prod.snd) X → X.take m.length = m → tb (qs.map Prod.snd) m.length (cl X m.length) = true) := Lib.hid (fun X h1 h2 => by
            have h3 := (hI.out.pm X).2 ⟨h1, h2⟩
            exact h3.edge m.length (by rw [h1.len]; exact HKM.out))
          go_wp2_with fail
          go_loopw [4, 6, 8] (fun rv ov j wr => ∃ j' : Nat, rv = .slice (some ⟨g', 0, none⟩) ps.length ps.length ∧ ov = u6 ∧ j = .int .i64 j' ∧ j' ≤ C ∧ Hid (∀ X, PM (ps.map Prod.snd) X → X.take m.length = m → j' ≤ cl X m.length) ∧ Hid (wk.grownBy wr none)) (fun _ _ j _ => C - (intOf j).toNat)
          case atStart => exact ⟨0, rfl, rfl, rfl, Nat.zero_le _, Lib.hid (fun _ _ _ => Nat.zero_le _), Lib.hid (grown_refl _ _)⟩
          case round =>
            obtain ⟨j, rfl, rfl, rfl, hj, hlow, hgr⟩ := hrel
            have hct2 := (grown_trans hG.out hgr.out).cell HCT0.out (by simp)
            have hce2 := hgr.out.cell HCE.out (by simp)
            by_cases hjb : j < C
            · have h3 : (j : Int) < (C : Int) := by omega
              have i2 : IntKind.i64.wrap ((j : Int) + 1) = (j : Int) + 1 := IntWalk.i64_in _ (by omega)
              obtain ⟨rb, ro, rfl, hbit0⟩ := Bools.at HRC.out (show j < R.length by have := HR1.out; omega)
              have hbit := hgr.out.cell hbit0 (by simp)
              have TBJ := Lib.hid (HTB.out j)
              clear hbit0
              generalize R[j]?.getD false = fits at *
              cases fits with
              | false =>
                have HLO : Hid (∀ X, PM (ps.map Prod.snd) X → X.take m.length = m → j + 1 ≤ cl X m.length) := Lib.hid (fun X h1 h2 => by
                  have h4 := hlow.out X h1 h2
                  have h5 := HEDGE.out X h1 h2
                  by_cases e : cl X m.length = j
                  · rw [e, hml.out, TBJ.out] at h5; cases h5
                  · omega)
                go_wp2_with fail
                go_roundw
                case rel => exact ⟨j + 1, rfl, rfl, by go_num, by omega, HLO, hgr⟩
                case measure => simp [intOf]; omega
              | true =>
                go_wp2_with fail
                refine (fixed_any _ qs _ k j (hB.out.same hgr.out) (by rw [hQ.out]; omega) (fun q hq => by have := hL.out q hq; omega)).mono ?_
                rintro e w5 ⟨g5, qs5, rfl, hT5, hF5, hg5⟩
                rw [hQ.out] at hT5 ⊢
                have HT5 := Lib.hid hT5; have G5 := Lib.hid hg5
                have HQ5 : Hid (qs5.length = ps.length) := Lib.hid (by rw [hF5.len, hQ.out])
                have HL5 : Hid (∀ q ∈ qs5, q.2.length = C) := Lib.hid (hF5.lenC hL.out)
                have HPM5 : Hid (∀ X, PM (qs5.map Prod.snd) X ↔ PM (ps.map Prod.snd) X ∧ X.take (m ++ [j]).length = m ++ [j]) := Lib.hid (hI.out.fixed HKM.out (by rw [List.length_map, List.length_map, hF5.len]) (fun x hx y => by
                  rw [List.length_map] at hx
                  rw [hml.out]
                  exact hF5.tb_ x hx y))
                clear hT5 hF5 hg5
                go_wp2_with fail
                refine (rmost_any _ qs5 _ C HT5.out.1.rows (by rw [HQ5.out]; exact hl12) hC12 HL5.out).mono ?_
                rintro e w6 ⟨n6, rfl, hn6, hg6⟩
                have HN6 := Lib.hid hn6; have G6 := Lib.hid hg6
                have GA : Hid (wk.grownBy w6 none) := Lib.hid (grown_trans hgr.out (grown_trans G5.out hg6))
                clear hn6 hg6
                have HL6 : Hid ((qs5.map Prod.snd).length = ps.length) := Lib.hid (by rw [List.length_map, HQ5.out])
                by_cases hq : n6 = ps.length
                · have hqb : (((n6 : Nat) : Int) == (ps.length : Int)) = true := by simp; omega
                  have HEX : Hid (∃ X, PM (qs5.map Prod.snd) X) := Lib.hid (by
                    have := HN6.out
                    rw [hq, ← HL6.out] at this
                    exact this.full)
                  have HRN := Lib.hid (hI.out.next (by rw [HL6.out, HTL.out]) HPM5.out HEX.out hlow.out)
                  have HMK := Lib.hid (hM.out.sameN GA.out)
                  have HT6 := Lib.hid (HT5.out.same7 G6.out)
                  have HOS : Hid (∀ x, u6.ownBlock = some x → x < wr.heap.size) := Lib.hid (fun x hx => Nat.lt_of_lt_of_le (hM.out.fresh x hx).2 hgr.out.size)
                  have HWS : Hid (w.heap.size ≤ w6.heap.size) := Lib.hid (Nat.le_trans hG.out.size GA.out.size)
                  clear hq
                  go_wp2_with (at_builtin; refine app_int_blk rfl _ _ rfl w.heap.size u6 (m.map Int.ofNat) rfl (HMK.out.sameN (World.grownBy_alloc _ _ none)) w6.heap.size (j : Int) rfl (by simp) (by rw [List.length_map, hml.out]; omega) (by have := HWS.out; simp; omega) ?_)
                  intro v8 w8 ho8 hg8 hb8
                  have GZ := World.grownBy_alloc w6 (.cells #[.int .i64 (j : Int)] 3) none
                  have HB8 : Hid (BRowsP w8 (.slice (some ⟨g5, 0, none⟩) ps.length ps.length) qs5) := Lib.hid ((HT6.out.1.rows.same GZ).keptR hg8 (fun x hx e => by
                      have h1 := HOS.out x hx
                      have h2 := (HT5.out.1.fresh x e).1
                      omega) (fun q hq x hx e => by
                      have h1 := HOS.out x hx
                      have h2 := ((HT5.out.2.1 q hq).fresh x e).1
                      omega))
                  have HS8 : Hid (Sep v8 (.slice (some ⟨g5, 0, none⟩) ps.length ps.length) qs5) := Lib.hid (fun x hx => by
                    have hz : (w6.alloc (.cells #[.int .i64 (j : Int)] 3)).heap.size = w6.heap.size + 1 := by show (w6.heap.push _).size = _; simp
                    refine ⟨fun e => ?_, fun q hq e => ?_⟩
                    · have h2 := HT6.out.1.fresh x e
                      have h3 := (HT5.out.1.fresh x e).1
                      rcases hb8 x hx with h4 | h4
                      · have := HOS.out x h4; omega
                      · omega
                    · have h2 := (HT6.out.2.1 q hq).fresh x e
                      have h3 := ((HT5.out.2.1 q hq).fresh x e).1
                      rcases hb8 x hx with h4 | h4
                      · have := HOS.out x h4; omega
                      · omega)
                  have HO8 : Hid (OwnI w8 w.heap.size v8 ((m ++ [j]).map Int.ofNat)) := Lib.hid (by rw [List.map_append]; exact ho8)
                  have HG8 : Hid (w.grownBy w8 none) := Lib.hid (grown_then (grown_trans (grown_trans hG.out GA.out) GZ) hg8 (fun x hx => .inl (hM.out.fresh x hx).1))
                  clear ho8 hg8 hb8 GZ
                  go_wp2_with fail
                  go_roundw
                  case rel => exact ⟨k + 1, g5, qs5, m ++ [j], rfl, by go_num, by omega, Lib.hid (by rw [List.length_append, hml.out]; rfl), HQ5, HB8, HRN, HL5, HO8, HS8, HG8⟩
                  case measure => simp [intOf]; omega
                · have hqb : (((n6 : Nat) : Int) == (ps.length : Int)) = false := by simp; omega
                  have HNE := Lib.hid hq
                  clear hq
                  have HLO : Hid (∀ X, PM (ps.map Prod.snd) X → X.take m.length = m → j + 1 ≤ cl X m.length) := Lib.hid (fun X h1 h2 => by
                    have h4 := hlow.out X h1 h2
                    by_cases e : cl X m.length = j
                    · exfalso
                      have h5 := (HPM5.out X).2 ⟨h1, by
                        rw [List.length_append, List.length_singleton, take_cons_at (by rw [h1.len]; exact HKM.out), h2, e]⟩
                      have h6 := h5.nu HN6.out
                      rw [HL6.out] at h6
                      exact HNE.out h6
                    · omega)
                  go_wp2_with fail
                  go_roundw
                  case rel => exact ⟨j + 1, rfl, rfl, by go_num, by omega, HLO, GA⟩
                  case measure => simp [intOf]; omega
            · exfalso
              obtain ⟨X, hX⟩ := hI.out.ex
              obtain ⟨h1, h2⟩ := (hI.out.pm X).1 hX
              have h4 := hlow.out X h1 h2
              have h5 := (tb_ltC hL.out (HEDGE.out X h1 h2)).2
              omega
        · obtain rfl : k = ps.length := by omega
          have h2 : ¬ (ps.length : Int) < (ps.length : Int) := by omega
          have HD := Lib.hid (hI.out.done (by rw [hml.out, HTL.out]))
          go_wp2_with fail
          go_ret2
          exact ⟨hG.out, .inr ⟨HV.out, _, m, rfl, hM.out, HD.out.1, HD.out.2⟩⟩

end Go.Proofs.Ytnppmemcdcgjhaa
