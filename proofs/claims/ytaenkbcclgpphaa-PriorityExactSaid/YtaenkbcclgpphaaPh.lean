/- Contracts of the reference of package priority: Embed, Leq, Proves. -/
import Derived.Test.YtaenkbcclgpphaaPg
namespace Go.Proofs.Ytaenkbcclgpphaa
open Go.RowKit
set_option linter.unusedVariables false

theorem rembedP_any (vr va vb : Value) (rs a b : List Int) (w : World) (hr : Ints w vr rs) (ha : RowOk w (va, a)) (hb : RowOk w (vb, b)) :
    Calls Try.prog 37 #[vr, va, vb] w (GivesO (embedP rs a b) w) := by
  have HR := Lib.hid hr; have HA := Lib.hid ha; have HB := Lib.hid hb
  clear hr ha hb
  cases c1 : validP rs a
  · have C1 := Lib.hid c1
    clear c1
    go_enter Try.func37, Try.ntmps37
    go_wp2_with fail
    refine (rvalidP_any _ _ _ _ _ HR.out HA.out.1).mono ?_; rintro e w' ⟨rfl, rfl⟩
    rw [C1.out]
    go_wp2_with fail
    go_ret2
    rw [show embedP rs a b = none by simp [embedP, C1.out]]
    exact GivesO.no _ _ (grown_refl _ _)
  cases c2 : validP rs b
  · have C1 := Lib.hid c1; have C2 := Lib.hid c2
    clear c1 c2
    go_enter Try.func37, Try.ntmps37
    go_wp2_with fail
    refine (rvalidP_any _ _ _ _ _ HR.out HA.out.1).mono ?_; rintro e w1 ⟨rfl, rfl⟩
    rw [C1.out]
    go_wp2_with fail
    refine (rvalidP_any _ _ _ _ _ HR.out HB.out.1).mono ?_; rintro e w' ⟨rfl, rfl⟩
    rw [C2.out]
    go_wp2_with fail
    go_ret2
    rw [show embedP rs a b = none by simp [embedP, C2.out]]
    exact GivesO.no _ _ (grown_refl _ _)
  have HE : Hid (embedP rs a b = findL rs a (b.drop 0) 0) := Lib.hid (by simp [embedP, c1, c2])
  have C1 := Lib.hid c1; have C2 := Lib.hid c2
  clear c1 c2
  go_enter Try.func37, Try.ntmps37
  go_wp2_with fail
  refine (rvalidP_any _ _ _ _ _ HR.out HA.out.1).mono ?_; rintro e w1 ⟨rfl, rfl⟩
  rw [C1.out]
  go_wp2_with fail
  refine (rvalidP_any _ _ _ _ _ HR.out HB.out.1).mono ?_; rintro e w2 ⟨rfl, rfl⟩
  rw [C2.out]
  go_wp2_with fail
  refine (rfind_any 12 _ _ _ rs a b 0 _ HR.out HA.out HB.out (validP_le C1.out).2.2 C2.out (validP_le C1.out).2.1 (validP_le C1.out).2.1 (Nat.zero_le _)).mono ?_
  rintro e w3 ⟨v, rfl, ho, hg⟩
  have O := Lib.hid ho; have G := Lib.hid hg
  clear ho hg
  go_wp2_with fail
  go_ret2
  rw [HE.out]
  exact ⟨v, rfl, O.out, G.out⟩

theorem rleqP_any (vr va vb : Value) (rs a b : List Int) (w : World) (hr : Ints w vr rs) (ha : RowOk w (va, a)) (hb : RowOk w (vb, b)) :
    Calls Try.prog 41 #[vr, va, vb] w fun e w' => e = .returned (.bool (leqP rs a b)) ∧ w.grownBy w' none := by
  have HR := Lib.hid hr; have HA := Lib.hid ha; have HB := Lib.hid hb
  clear hr ha hb
  go_enter Try.func41, Try.ntmps41
  go_wp2_with fail
  refine (rembedP_any _ _ _ _ _ _ _ HR.out HA.out HB.out).mono ?_
  rintro e w1 ⟨v, rfl, ho, hg⟩
  have HG := Lib.hid hg
  clear ho hg
  go_wp2_with fail
  go_ret
  exact ⟨rfl, HG.out⟩

theorem chainQ_last (rs b : List Int) : ∀ (ps : List Int) (n : Nat) (k : Nat), chainQ rs b ps n = true → k + 1 = ps.length → (ps[k]?.getD 0).toNat + 1 = b.length
  | [], n, k, _, hk => by simp at hk
  | p :: ps, n, k, h, hk => by
    unfold chainQ at h
    rw [Bool.and_eq_true] at h
    cases k with
    | zero =>
      have : ps = [] := List.eq_nil_of_length_eq_zero (by simpa using hk.symm)
      subst this
      have h2 := h.2
      unfold chainQ at h2
      simpa using h2
    | succ k => simpa using chainQ_last rs b ps (p.toNat + 1) k h.2 (by simpa using hk)

theorem provesL_nonneg (b : List Int) : ∀ (a ps : List Int) (before : Int), provesL b a ps before = true → -1 ≤ before → ∀ k, k < ps.length → 0 ≤ ps[k]?.getD 0
  | [], [], _, _, _, k, hk => by simp at hk
  | [], _ :: _, _, h, _, _, _ => by simp [provesL] at h
  | _ :: _, [], _, h, _, _, _ => by simp [provesL] at h
  | x :: a, p :: ps, before, h, hb, k, hk => by
    rw [provesL_cons, Bool.and_eq_true] at h
    obtain ⟨h1, h2⟩ := h
    unfold okP at h1
    simp only [Bool.and_eq_true, decide_eq_true_eq] at h1
    cases k with
    | zero => simp; omega
    | succ k => simpa using provesL_nonneg b a ps p h2 (by omega) k (by simpa using hk)

set_option maxRecDepth 100000 in
set_option maxHeartbeats 8000000 in
theorem rprovesP_any (vr va vb vp : Value) (rs a b ps : List Int) (w : World) (hr : Ints w vr rs) (ha : RowOk w (va, a)) (hb : RowOk w (vb, b)) (hp : Ints w vp ps) :
    Calls Try.prog 45 #[vr, va, vb, vp] w fun e w' => e = .returned (.bool (provesP rs a b ps)) ∧ Drew w w' := by
  have HR := Lib.hid hr; have HA := Lib.hid ha; have HB := Lib.hid hb; have HP := Lib.hid hp
  obtain ⟨ar, cr, rfl, hrl0, -, hrc⟩ := hr
  obtain ⟨⟨aa, ca, hva', hal0, -, hca⟩, -, -⟩ := ha
  simp only at hva'
  subst hva'
  obtain ⟨⟨ab, cb, hvb', hbl0, -, hcb⟩, -, -⟩ := hb
  simp only at hvb'
  subst hvb'
  obtain ⟨ap, cp, rfl, hpl0, -, hpc⟩ := hp
  dsimp only at hal0 hbl0 hca hcb
  unfold maxLen at hal0 hbl0 hpl0
  have HPC := Lib.hid hpc; have HCA := Lib.hid hca; have HCB := Lib.hid hcb; have HRC := Lib.hid hrc
  clear hpc hca hcb hrc
  cases c1 : validP rs a
  · have C1 := Lib.hid c1
    clear c1
    go_enter Try.func45, Try.ntmps45
    go_wp2_with fail
    refine (rvalidP_any _ _ _ _ _ HR.out HA.out.1).mono ?_; rintro e w' ⟨rfl, rfl⟩
    rw [C1.out]
    go_wp2_with fail
    go_ret
    exact ⟨ret_bool (by unfold provesP; rw [C1.out]; simp), Drew.refl _⟩
  cases c2 : validP rs b
  · have C1 := Lib.hid c1; have C2 := Lib.hid c2
    clear c1 c2
    go_enter Try.func45, Try.ntmps45
    go_wp2_with fail
    refine (rvalidP_any _ _ _ _ _ HR.out HA.out.1).mono ?_; rintro e w1 ⟨rfl, rfl⟩
    rw [C1.out]
    go_wp2_with fail
    refine (rvalidP_any _ _ _ _ _ HR.out HB.out.1).mono ?_; rintro e w' ⟨rfl, rfl⟩
    rw [C2.out]
    go_wp2_with fail
    go_ret
    exact ⟨ret_bool (by unfold provesP; rw [C2.out]; simp), Drew.refl _⟩
  have C1 := Lib.hid c1; have C2 := Lib.hid c2
  have HE2 : Hid (provesP rs a b ps = (provesL b a ps (-1) && (if a = [] then b.length == 0 else chainQ rs b ps 0))) := Lib.hid (by simp [provesP, c1, c2])
  have hal := (validP_le c1).2.1
  have hbl := (validP_le c2).2.1
  clear c1 c2
  cases c3 : provesL b a ps (-1)
  · have C3 := Lib.hid c3
    clear c3
    go_enter Try.func45, Try.ntmps45
    go_wp2_with fail
    refine (rvalidP_any _ _ _ _ _ HR.out HA.out.1).mono ?_; rintro e w1 ⟨rfl, rfl⟩
    rw [C1.out]
    go_wp2_with fail
    refine (rvalidP_any _ _ _ _ _ HR.out HB.out.1).mono ?_; rintro e w2 ⟨rfl, rfl⟩
    rw [C2.out]
    go_wp2_with fail
    refine (rplaces_any _ _ _ _ _ _ _ HA.out.1 HB.out.1 HP.out).mono ?_; rintro e w3 ⟨rfl, hd⟩
    have HD := Lib.hid hd
    clear hd
    rw [C3.out]
    go_wp2_with fail
    go_ret
    exact ⟨ret_bool (by rw [HE2.out, C3.out]; rfl), HD.out⟩
  have C3 := Lib.hid c3
  have hpl := provesL_len b a ps (-1) c3
  have hpal : ps.length ≤ a.length := by omega
  have hpal' : a.length ≤ ps.length := by omega
  have HPL := Lib.hid hpl
  clear c3 hpl
  by_cases h0 : a.length = 0
  · have ea : a = [] := List.eq_nil_of_length_eq_zero h0
    have HE3 : Hid (provesP rs a b ps = (b.length == 0)) := Lib.hid (by rw [HE2.out, C3.out, if_pos ea]; rfl)
    have hz : ((a.length : Int) == 0) = true := by rw [beq_iff_eq]; omega
    have hz2 : ((b.length : Int) == 0) = (b.length == 0) := by rw [Bool.eq_iff_iff, beq_iff_eq, beq_iff_eq]; omega
    clear h0 ea
    go_enter Try.func45, Try.ntmps45
    go_wp2_with fail
    refine (rvalidP_any _ _ _ _ _ HR.out HA.out.1).mono ?_; rintro e w1 ⟨rfl, rfl⟩
    rw [C1.out]
    go_wp2_with fail
    refine (rvalidP_any _ _ _ _ _ HR.out HB.out.1).mono ?_; rintro e w2 ⟨rfl, rfl⟩
    rw [C2.out]
    go_wp2_with fail
    refine (rplaces_any _ _ _ _ _ _ _ HA.out.1 HB.out.1 HP.out).mono ?_; rintro e w3 ⟨rfl, hd⟩
    have HD := Lib.hid hd
    clear hd
    rw [C3.out]
    go_wp2_with fail
    go_ret
    exact ⟨ret_bool HE3.out.symm, HD.out⟩
  have hz : ((a.length : Int) == 0) = false := by rw [beq_eq_false_iff_ne]; omega
  have HE3 : Hid (provesP rs a b ps = chainQ rs b ps 0) := Lib.hid (by rw [HE2.out, C3.out, if_neg (fun e => h0 (by rw [e]; rfl))]; rfl)
  obtain ⟨la, hla⟩ : ∃ la, a.length = la + 1 := ⟨a.length - 1, by omega⟩
  have HLA := Lib.hid hla
  have hlap : la < ps.length := by omega
  have m1 : IntKind.i64.wrap ((a.length : Int) - 1) = (la : Int) := by rw [IntWalk.i64_in _ (by omega)]; omega
  have m2 : IntKind.i64.wrap ((b.length : Int) - 1) = (b.length : Int) - 1 := IntWalk.i64_in _ (by omega)
  have m3 : (la : Int) < (ps.length : Int) := by omega
  obtain ⟨bp, op, rfl, hlx⟩ := Ints.at HPC.out hlap
  have HLX := Lib.hid hlx
  have HPT : Hid (∀ j, j < ps.length → w.cell? ⟨bp, op + j, none⟩ = some (.int .i64 (ps[j]?.getD 0))) := Lib.hid (by
    rcases HPC.out with h | ⟨b', o', hab, h⟩
    · rw [h] at hlap; simp at hlap
    · simp only [Option.some.injEq, Addr.mk.injEq, and_true] at hab
      obtain ⟨rfl, rfl⟩ := hab
      exact h)
  clear h0 hla
  by_cases hlast : ps[la]?.getD 0 = (b.length : Int) - 1
  · have q1 : (ps[la]?.getD 0 != (b.length : Int) - 1) = false := by simp [hlast]
    have HZ : Hid (∀ k, k = la → ps[k]?.getD 0 = (b.length : Int) - 1) := Lib.hid (fun k e => by rw [e]; exact hlast)
    clear hlast
    generalize ps[la]?.getD 0 = z at *
    go_enter Try.func45, Try.ntmps45
    go_wp2_with fail
    refine (rvalidP_any _ _ _ _ _ HR.out HA.out.1).mono ?_; rintro e w1 ⟨rfl, rfl⟩
    rw [C1.out]
    go_wp2_with fail
    refine (rvalidP_any _ _ _ _ _ HR.out HB.out.1).mono ?_; rintro e w2 ⟨rfl, rfl⟩
    rw [C2.out]
    go_wp2_with fail
    refine (rplaces_any _ _ _ _ _ _ _ HA.out.1 HB.out.1 HP.out).mono ?_; rintro e w3 ⟨rfl, m0, rfl⟩
    rw [C3.out]
    go_wp2_with fail
    clear hlx
    go_loopw [9, 10] (fun nx ix wr => ∃ (k n m : Nat), ix = .int .i64 k ∧ k ≤ a.length ∧ nx = .int .i64 n ∧ n ≤ b.length ∧ Hid (0 < k → (n : Int) = ps[k - 1]?.getD 0 + 1) ∧ Hid (chainQ rs b ps 0 = chainQ rs b (ps.drop k) n) ∧ Hid (provesL b (a.drop k) (ps.drop k) ((n : Int) - 1) = true) ∧ wr = w2.drewN m) (fun _ ix _ => a.length - (intOf ix).toNat)
    case atStart => exact ⟨0, 0, m0, rfl, Nat.zero_le _, rfl, Nat.zero_le _, Lib.hid (by omega), Lib.hid rfl, Lib.hid C3.out, rfl⟩
    case round =>
      obtain ⟨k, n, m, rfl, hk, rfl, hn, hnk, hc, hpv, rfl⟩ := hrel
      by_cases hlt : k < a.length
      · have g1 : (k : Int) < (a.length : Int) := by omega
        have g2 : (k : Int) < (ps.length : Int) := by omega
        have hkp : k < ps.length := by omega
        have h1 := hpv.out
        rw [drop_at a k hlt, drop_at ps k hkp, provesL_cons, Bool.and_eq_true] at h1
        obtain ⟨h2, h3⟩ := h1
        unfold okP at h2
        simp only [Bool.and_eq_true, decide_eq_true_eq, beq_iff_eq] at h2
        have hx := HPT.out k hkp
        obtain ⟨q, hq⟩ := Int.eq_ofNat_of_zero_le (show 0 ≤ ps[k]?.getD 0 by omega)
        have HNX : Hid (((q + 1 : Nat) : Int) = ps[k + 1 - 1]?.getD 0 + 1) := Lib.hid (by rw [Nat.add_sub_cancel, hq]; omega)
        have HCS2 : Hid (chainQ rs b ps 0 = (quietP rs b n q && chainQ rs b (ps.drop (k + 1)) (q + 1))) := Lib.hid (by rw [hc.out, drop_at ps k hkp, hq]; rfl)
        rw [hq] at h2 h3 hx
        have hnq : n ≤ q := by omega
        have hqb : q < b.length := by omega
        have HBA : Hid (b[q]?.getD 0 = a[k]?.getD 0) := Lib.hid h2.2
        obtain ⟨qa, hqa, hqal⟩ := letter_nat C1.out hlt
        obtain ⟨ba, oa, rfl, hxa⟩ := Ints.at HCA.out hlt
        rw [hqa] at hxa
        obtain ⟨br, orr, rfl, hra⟩ := Ints.at HRC.out hqal
        have HQP : Hid (quietP rs b n q = ((b.take q).drop n).all (fun x => decide (rk rs x ≤ rs[qa]?.getD 0))) := Lib.hid (by unfold quietP; rw [HBA.out, hqa]; rfl)
        have j1 : (qa : Int) < (rs.length : Int) := by omega
        have H3 := Lib.hid h3
        have i5 : IntKind.i64.wrap ((q : Int) + 1) = (q : Int) + 1 := IntWalk.i64_in _ (by omega)
        clear h2 h3 hq hqa
        generalize rs[qa]?.getD 0 = ra at *
        go_wp2_with fail
        go_loopw [11] (fun jx wr => ∃ (j m : Nat), jx = .int .i64 j ∧ n ≤ j ∧ j ≤ q ∧ Hid (((b.take j).drop n).all (fun x => decide (rk rs x ≤ ra)) = true) ∧ wr = w2.drewN m) (fun jx _ => q - (intOf jx).toNat)
        case atStart => exact ⟨n, m, rfl, Nat.le_refl _, hnq, Lib.hid (by rw [List.drop_eq_nil_of_le (by rw [List.length_take]; omega)]; rfl), rfl⟩
        case round =>
          obtain ⟨j, m, rfl, hnj, hjq, hall, rfl⟩ := hrel
          by_cases hlj : j < q
          · have k1 : (j : Int) < (q : Int) := by omega
            have hjb : j < b.length := by omega
            have k2 : (j : Int) < (b.length : Int) := by omega
            obtain ⟨qb, hqb2, hqbl⟩ := letter_nat C2.out hjb
            obtain ⟨bb, ob, rfl, hxb⟩ := Ints.at HCB.out hjb
            rw [hqb2] at hxb
            obtain ⟨br', orr', hab, hrb⟩ := Ints.at HRC.out hqbl
            simp only [Option.some.injEq, Addr.mk.injEq, and_true] at hab
            obtain ⟨rfl, rfl⟩ := hab
            have HSN : Hid (((b.take (j + 1)).drop n).all (fun x => decide (rk rs x ≤ ra)) = (((b.take j).drop n).all (fun x => decide (rk rs x ≤ ra)) && decide (rs[qb]?.getD 0 ≤ ra))) := Lib.hid (by rw [quietP_snoc rs b n j hnj hjb, hqb2]; rfl)
            have HFA : Hid (((b.take (j + 1)).drop n).all (fun x => decide (rk rs x ≤ ra)) = false → quietP rs b n q = false) := Lib.hid (fun e => by
              rw [HQP.out]
              cases hq' : ((b.take q).drop n).all (fun x => decide (rk rs x ≤ ra)) with
              | false => rfl
              | true =>
                rw [List.all_eq_true] at hq'
                rw [← e, eq_comm, List.all_eq_true]
                intro x hx
                refine hq' x ?_
                rw [show b.take (j + 1) = (b.take q).take (j + 1) by rw [List.take_take, Nat.min_eq_left (by omega)]] at hx
                rw [List.drop_take] at hx
                exact List.mem_of_mem_take hx)
            have k3 : (qb : Int) < (rs.length : Int) := by omega
            clear hqb2
            generalize rs[qb]?.getD 0 = rb at *
            by_cases hgt : ra < rb
            · have k4 : decide (ra < rb) = true := by simpa using hgt
              have E := Lib.hid (HFA.out (by rw [HSN.out, decide_eq_false (by omega), Bool.and_false]))
              go_wp2_with fail
              go_big_quiet (fail)
              go_wp2_with fail
              go_ret
              exact ⟨ret_bool (by rw [HE3.out, HCS2.out, E.out]; rfl), (Drew.mk _ _).trans (Drew.mk _ _)⟩
            · have k4 : decide (ra < rb) = false := by simpa using hgt
              have E : Hid (((b.take (j + 1)).drop n).all (fun x => decide (rk rs x ≤ ra)) = true) := Lib.hid (by rw [HSN.out, hall.out, decide_eq_true (by omega)]; rfl)
              go_wp2_with fail
              go_big_quiet (fail)
              go_wp2_with fail
              go_roundw
              case rel => exact ⟨j + 1, _, by go_num, by omega, by omega, E, rfl⟩
              case measure => simp [intOf]; omega
          · have k1 : ¬ (j : Int) < (q : Int) := by omega
            have hjq2 : j = q := by omega
            have E : Hid (quietP rs b n q = true) := Lib.hid (by rw [HQP.out, ← hjq2]; exact hall.out)
            clear hjq2
            go_wp2_with fail
            go_roundw
            case rel => exact ⟨k + 1, q + 1, m, by go_num, by omega, by go_num, by omega, Lib.hid (fun _ => HNX.out), Lib.hid (by rw [HCS2.out, E.out]; rfl), Lib.hid (by rw [show (((q + 1 : Nat) : Int) - 1) = (q : Int) by omega]; exact H3.out), rfl⟩
            case measure => simp [intOf]; omega
      · have g1 : ¬ (k : Int) < (a.length : Int) := by omega
        have hka : k = a.length := by omega
        have E : Hid (provesP rs a b ps = true) := Lib.hid (by
          have h1 := hnk.out (by have := HLA.out; omega)
          have h2 := HLA.out
          have h3 := HPL.out
          rw [HE3.out, hc.out, List.drop_eq_nil_of_le (by omega)]
          unfold chainQ
          rw [beq_iff_eq]
          rw [show k - 1 = la by omega] at h1
          have h4 := HZ.out la rfl
          omega)
        clear hka
        go_wp2_with fail
        go_ret
        exact ⟨ret_bool E.out.symm, Drew.mk _ _⟩
  · have q1 : (ps[la]?.getD 0 != (b.length : Int) - 1) = true := by simpa using hlast
    have E : Hid (provesP rs a b ps = false) := Lib.hid (by
      rw [HE3.out]
      cases hcq : chainQ rs b ps 0 with
      | false => rfl
      | true =>
        have h1 := chainQ_last rs b ps 0 la hcq (by have := HLA.out; have := HPL.out; omega)
        have h2 := provesL_nonneg b a ps (-1) C3.out (by omega) la hlap
        exact absurd (show ps[la]?.getD 0 = (b.length : Int) - 1 by omega) hlast)
    clear hlast
    generalize ps[la]?.getD 0 = z at *
    go_enter Try.func45, Try.ntmps45
    go_wp2_with fail
    refine (rvalidP_any _ _ _ _ _ HR.out HA.out.1).mono ?_; rintro e w1 ⟨rfl, rfl⟩
    rw [C1.out]
    go_wp2_with fail
    refine (rvalidP_any _ _ _ _ _ HR.out HB.out.1).mono ?_; rintro e w2 ⟨rfl, rfl⟩
    rw [C2.out]
    go_wp2_with fail
    refine (rplaces_any _ _ _ _ _ _ _ HA.out.1 HB.out.1 HP.out).mono ?_; rintro e w3 ⟨rfl, m0, rfl⟩
    rw [C3.out]
    go_wp2_with fail
    go_ret
    exact ⟨ret_bool E.out.symm, Drew.mk _ _⟩

end Go.Proofs.Ytaenkbcclgpphaa
