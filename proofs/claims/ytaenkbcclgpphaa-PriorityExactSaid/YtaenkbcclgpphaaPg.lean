/- Contracts of the reference of package priority: Drops, find, Embed, Leq. -/
import Derived.Test.YtaenkbcclgpphaaPf
import Derived.Test.YtaenkbcclgpphaaXh
namespace Go.Proofs.Ytaenkbcclgpphaa
open Go.RowKit
set_option linter.unusedVariables false

set_option maxRecDepth 100000 in
set_option maxHeartbeats 4000000 in
theorem rdropsP_any (vr v : Value) (rs xs : List Int) (w : World) (hr : Ints w vr rs) (h : RowOk w (v, xs)) :
    Calls Try.prog 43 #[vr, v] w (GotP (dropsP rs xs) w) := by
  have HR := Lib.hid hr; have H := Lib.hid h
  obtain ⟨ar, cr, rfl, hrl0, -, hrc⟩ := hr
  obtain ⟨⟨a, cap, hv, hl, hb, hc⟩, hgood, -⟩ := h
  simp only at hv
  subst hv
  dsimp only at hl hc
  unfold maxLen at hl hrl0
  have HRC := Lib.hid hrc; have HC := Lib.hid hc
  clear hb hrc hc hgood
  cases c1 : validP rs xs
  · have C1 := Lib.hid c1
    have HE : Hid (dropsP rs xs = []) := Lib.hid (by simp [dropsP, c1])
    clear c1
    go_enter Try.func43, Try.ntmps43
    go_wp2_with fail
    go_loopw [5, 6] (fun v i wr => v = .slice none 0 0 ∧ i = .int .i64 0 ∧ wr = w) (fun _ _ _ => 0)
    case atStart => exact ⟨rfl, rfl, rfl⟩
    case round =>
      obtain ⟨rfl, rfl, rfl⟩ := hrel
      go_wp2_with fail
      refine (rvalidP_any _ _ _ _ _ HR.out H.out.1).mono ?_; rintro e w' ⟨rfl, rfl⟩
      rw [C1.out]
      go_wp2_with fail
      go_ret
      rw [HE.out]
      exact ⟨_, [], rfl, ⟨none, 0, rfl, Nat.zero_le _, .inl rfl, by simp⟩, Good.nil, rfl, grown_refl _ _⟩
  have HE : Hid (dropsP rs xs = ascL (dropK rs xs xs.length)) := Lib.hid (by simp [dropsP, c1])
  have C1 := Lib.hid c1
  have hxl := (validP_le c1).2.1
  clear c1
  go_enter Try.func43, Try.ntmps43
  go_wp2_with fail
  go_loopw [5, 6] (fun v i wr => ∃ (k : Nat) (ps : List Row), i = .int .i64 k ∧ k ≤ xs.length ∧ ps.length ≤ k ∧ Hid (ps.map Prod.snd = ascL (dropK rs xs k)) ∧ Hid (RowsP wr v ps) ∧ Hid (Good v) ∧ Hid (w.grownBy wr none)) (fun _ i _ => xs.length - (intOf i).toNat)
  case atStart => exact ⟨0, [], rfl, Nat.zero_le _, Nat.zero_le _, Lib.hid (by simp [dropK, ascL]), Lib.hid ⟨none, 0, rfl, Nat.zero_le _, .inl rfl, by simp⟩, Lib.hid Good.nil, Lib.hid (grown_refl _ _)⟩
  case round =>
    obtain ⟨k, ps, rfl, hk, hlp, hm, ho, hgd, hg⟩ := hrel
    have i5 : IntKind.i64.wrap ((k : Int) + 1) = (k : Int) + 1 := IntWalk.i64_in _ (by omega)
    have i6 : (0 : Int) ≤ (k : Int) + 1 := by omega
    have i7 : ((k : Int) + 1).toNat = k + 1 := by omega
    by_cases hlt : k + 1 < xs.length
    · have g1 : (k : Int) + 1 < (xs.length : Int) := by omega
      have g2 : (k : Int) < (xs.length : Int) := by omega
      obtain ⟨q1, hq1, hq1l⟩ := letter_nat C1.out (show k < xs.length by omega)
      obtain ⟨q2, hq2, hq2l⟩ := letter_nat C1.out hlt
      have HDA := Lib.hid (dropAt_in (rs := rs) hlt hq1 hq2)
      obtain ⟨b, off, rfl, hx1⟩ := Ints.at HC.out (show k < xs.length by omega)
      obtain ⟨b', off', hab, hx2⟩ := Ints.at HC.out hlt
      simp only [Option.some.injEq, Addr.mk.injEq, and_true] at hab
      obtain ⟨rfl, rfl⟩ := hab
      obtain ⟨br, offr, rfl, hr1⟩ := Ints.at HRC.out hq1l
      obtain ⟨br', offr', hab, hr2⟩ := Ints.at HRC.out hq2l
      simp only [Option.some.injEq, Addr.mk.injEq, and_true] at hab
      obtain ⟨rfl, rfl⟩ := hab
      rw [hq1] at hx1
      rw [hq2] at hx2
      replace hx1 := hg.out.cell hx1 (by simp)
      replace hx2 := hg.out.cell hx2 (by simp)
      replace hr1 := hg.out.cell hr1 (by simp)
      replace hr2 := hg.out.cell hr2 (by simp)
      have j1 : (q1 : Int) < (rs.length : Int) := by omega
      have j2 : (q2 : Int) < (rs.length : Int) := by omega
      have DS := Lib.hid (dropK_step rs xs k)
      have hkx : k < xs.length := by omega
      clear hq1 hq2
      generalize rs[q1]?.getD 0 = r1 at *
      generalize rs[q2]?.getD 0 = r2 at *
      by_cases hle : r1 ≤ r2
      · have g3 : decide (r1 ≤ r2) = true := by simpa using hle
        have HDB : Hid (dropAt rs xs k = true) := Lib.hid (by rw [HDA.out]; exact g3)
        have hwl := without_len xs k
        go_wp2_with fail
        refine (rvalidP_any _ _ _ _ _ (HR.out.same hg.out) (H.out.same hg.out).1).mono ?_; rintro e w' ⟨rfl, rfl⟩
        rw [C1.out]
        go_wp2_with fail
        go_big_quiet (fail)
        go_wp2_with fail
        have G := Lib.hid (grown_trans hg.out (grown_drewN w' nq none))
        refine (rwithout_any _ _ _ _ (H.out.same G.out) hkx (by omega)).mono ?_
        rintro e w2 ⟨vw, rfl, ho2, hg2⟩
        have W2 := Lib.hid (ho2.row (without_bd H.out.bdd)); have R2 := Lib.hid ((ho.out.same (grown_drewN w' nq none)).same hg2); have G2 := Lib.hid (grown_trans G.out hg2)
        clear ho2 hg2
        go_wp2_with fail
        refine (put_any _ _ _ _ _ R2.out hgd.out W2.out (by omega) (by omega)).mono ?_
        rintro e w3 ⟨v3, qs, rfl, hr3, hgd3, hm3, hg3⟩
        have R3 := Lib.hid hr3; have D3 := Lib.hid hgd3; have M3 := Lib.hid hm3; have G3 := Lib.hid (grown_trans G2.out hg3)
        have hq : qs.length ≤ k + 1 := by
          have e1 := congrArg List.length hm3
          have e2 := putL_len (withoutL xs k) (ps.map Prod.snd)
          rw [List.length_map] at e1 e2
          omega
        clear hr3 hgd3 hm3 hg3
        go_wp2_with fail
        go_roundw
        case rel => exact ⟨k + 1, qs, by go_num, by omega, hq, Lib.hid (by rw [M3.out, DS.out, HDB.out, hm.out]; unfold ascL; rw [if_pos rfl, List.foldl_append]; rfl), R3, D3, G3⟩
        case measure => simp [intOf]; omega
      · have g3 : decide (r1 ≤ r2) = false := by simpa using hle
        have HDB : Hid (dropAt rs xs k = false) := Lib.hid (by rw [HDA.out]; exact g3)
        go_wp2_with fail
        refine (rvalidP_any _ _ _ _ _ (HR.out.same hg.out) (H.out.same hg.out).1).mono ?_; rintro e w' ⟨rfl, rfl⟩
        rw [C1.out]
        go_wp2_with fail
        go_big_quiet (fail)
        go_wp2_with fail
        go_roundw
        case rel => exact ⟨k + 1, ps, by go_num, by omega, by omega, Lib.hid (by rw [DS.out, HDB.out]; exact hm.out), Lib.hid (ho.out.same (grown_drewN _ _ none)), hgd, Lib.hid (grown_trans hg.out (grown_drewN _ _ none))⟩
        case measure => simp [intOf]; omega
    · have g1 : ¬ (k : Int) + 1 < (xs.length : Int) := by omega
      have HEN := Lib.hid (dropK_end rs xs k hk hlt)
      go_wp2_with fail
      refine (rvalidP_any _ _ _ _ _ (HR.out.same hg.out) (H.out.same hg.out).1).mono ?_; rintro e w' ⟨rfl, rfl⟩
      rw [C1.out]
      go_wp2_with fail
      go_ret
      exact ⟨_, ps, rfl, ho.out, hgd.out, by rw [HE.out, hm.out, HEN.out], hg.out⟩

theorem findL_nil (rs : List Int) (b : List Int) (f : Nat) : findL rs [] (b.drop f) f = if f ≥ b.length then some [] else none := by
  unfold findL
  by_cases h : b.length ≤ f
  · rw [if_pos h, if_pos (List.drop_eq_nil_of_le h)]
  · rw [if_neg h, if_neg (by rw [List.drop_eq_nil_iff]; exact h)]

set_option maxRecDepth 100000 in
set_option maxHeartbeats 8000000 in
theorem rfind_any : ∀ (n : Nat) (vr va vb : Value) (rs a b : List Int) (f : Nat) (w : World), Ints w vr rs → RowOk w (va, a) → RowOk w (vb, b) → (∀ x ∈ a, 0 ≤ x ∧ x < rs.length) → validP rs b = true → a.length ≤ n → a.length ≤ 12 → f ≤ b.length →
    Calls Try.prog 65 #[vr, va, vb, .int .i64 (f : Int)] w (GivesO (findL rs a (b.drop f) f) w) := by
  intro n
  induction n with
  | zero =>
    intro vr va vb rs a b f w hr ha hb hal hvb hn _ hf
    have ea : a = [] := List.eq_nil_of_length_eq_zero (by omega)
    subst ea
    have HA := Lib.hid ha
    obtain ⟨⟨aa, ca, hva', -, -, -⟩, -, -⟩ := ha
    simp only at hva'
    subst hva'
    obtain ⟨⟨ab, cb, hvb', -, -, -⟩, -, -⟩ := hb
    simp only at hvb'
    subst hvb'
    have hz : ((f : Int) == (b.length : Int)) = (findL rs [] (b.drop f) f).isSome := by
      rw [findL_nil]
      by_cases h : f = b.length
      · rw [if_pos (by omega), beq_iff_eq.2 (by omega)]; rfl
      · rw [if_neg (by omega), beq_eq_false_iff_ne.2 (by omega)]; rfl
    have HD : Hid ((findL rs [] (b.drop f) f).getD [] = []) := Lib.hid (by rw [findL_nil]; split <;> rfl)
    clear hn
    go_enter Try.func65, Try.ntmps65
    go_wp2_with fail
    go_ret2
    exact ⟨_, rfl, by rw [HD.out]; exact OwnI.nil _ _, grown_refl _ _⟩
  | succ n ih =>
    intro vr va vb rs a b f w hr ha hb hal hvb hn hn12 hf
    by_cases h0 : a.length = 0
    · exact ih vr va vb rs a b f w hr ha hb hal hvb (by omega) hn12 hf
    have IH := Lib.hid ih
    clear ih
    have HR := Lib.hid hr; have HA := Lib.hid ha; have HB := Lib.hid hb; have HAL := Lib.hid hal; have HVB := Lib.hid hvb
    have ha0 : 0 < a.length := by omega
    have hbl := (validP_le hvb).2.1
    obtain ⟨ar, cr, rfl, -, -, hrc⟩ := hr
    obtain ⟨⟨aa, ca, hva', -, -, hca⟩, -, -⟩ := ha
    simp only at hva'
    subst hva'
    obtain ⟨⟨ab, cb, hvb', -, -, hcb⟩, -, -⟩ := hb
    simp only at hvb'
    subst hvb'
    dsimp only at hca hcb
    obtain ⟨ba, oa, rfl, hxa⟩ := Ints.at hca ha0
    obtain ⟨q1, hq1⟩ := Int.eq_ofNat_of_zero_le (show 0 ≤ a[0]?.getD 0 by have := hal (a[0]) (List.getElem_mem ha0); simp [ha0]; omega)
    have hq1l : q1 < rs.length := by have := hal (a[0]) (List.getElem_mem ha0); simp [ha0] at hq1; omega
    rw [hq1, Nat.add_zero] at hxa
    have HDA : Hid (a = (q1 : Int) :: a.drop 1) := Lib.hid (by have := drop_at a 0 ha0; rw [List.drop_zero, hq1] at this; exact this)
    obtain ⟨br, offr, rfl, hr1⟩ := Ints.at hrc hq1l
    have HRC := Lib.hid hrc; have HCB := Lib.hid hcb
    have hz : ((a.length : Int) == 0) = false := by rw [beq_eq_false_iff_ne]; omega
    obtain ⟨t1, d1, hrun, ht1, -⟩ := row_tail (k := 1) HA.out ha0
    rw [show ((1 : Nat) : Int) = 1 from rfl] at hrun
    have T1 := Lib.hid ht1
    have HALT : Hid (∀ x ∈ a.drop 1, 0 ≤ x ∧ x < rs.length) := Lib.hid (fun x hx => HAL.out x (List.mem_of_mem_drop hx))
    have l1 : (a.drop 1).length ≤ n := by simp; omega
    have l2 : (a.drop 1).length ≤ 12 := by simp; omega
    have i1 : (0 : Int) < (a.length : Int) := by omega
    have i2 : (1 : Int) ≤ (a.length : Int) := by omega
    have i3 : (q1 : Int) < (rs.length : Int) := by omega
    have HX := Lib.hid hxa; have HR1 := Lib.hid hr1
    have HRK : Hid (rk rs (q1 : Int) = rs[q1]?.getD 0) := Lib.hid rfl
    clear hq1 hal hvb hrc hca hcb ht1 hxa hr1 h0 hn
    generalize rs[q1]?.getD 0 = r1 at *
    go_enter Try.func65, Try.ntmps65
    go_wp2_with fail
    go_loopw [10] (fun ix wr => ∃ (p : Nat), ix = .int .i64 p ∧ f ≤ p ∧ p ≤ b.length ∧ Hid (findL rs a (b.drop f) f = findL rs a (b.drop p) p) ∧ Hid (w.grownBy wr none)) (fun ix _ => b.length - (intOf ix).toNat)
    case atStart => exact ⟨f, rfl, Nat.le_refl _, hf, Lib.hid rfl, Lib.hid (grown_refl _ _)⟩
    case round =>
      obtain ⟨p, rfl, hfp, hp, hfe, hg⟩ := hrel
      by_cases hlt : p < b.length
      · have g1 : (p : Int) < (b.length : Int) := by omega
        obtain ⟨q2, hq2, hq2l⟩ := letter_nat HVB.out hlt
        obtain ⟨bb, ob, rfl, hxb⟩ := Ints.at HCB.out hlt
        rw [hq2] at hxb
        have HDB : Hid (b.drop p = (q2 : Int) :: b.drop (p + 1)) := Lib.hid (by rw [drop_at b p hlt, hq2])
        have hr2 : w.cell? ⟨br, offr + q2, none⟩ = some (.int .i64 (rs[q2]?.getD 0)) := by
          obtain ⟨br', offr', hab, hr2⟩ := Ints.at HRC.out hq2l
          simp only [Option.some.injEq, Addr.mk.injEq, and_true] at hab
          obtain ⟨rfl, rfl⟩ := hab
          exact hr2
        have HST : Hid (findL rs a (b.drop p) p = (match (if (q2 : Int) = (q1 : Int) then findL rs (a.drop 1) (b.drop (p + 1)) (p + 1) else none) with
            | some r => some ((p : Int) :: r)
            | none => if rk rs (q1 : Int) < rk rs (q2 : Int) then none else findL rs a (b.drop (p + 1)) (p + 1))) := Lib.hid (by
          have e1 := findL_cons rs (q1 : Int) (a.drop 1) (q2 : Int) (b.drop (p + 1)) p
          rw [← HDA.out, ← HDB.out] at e1
          exact e1)
        have HRK2 : Hid (rk rs (q2 : Int) = rs[q2]?.getD 0) := Lib.hid rfl
        have j2 : (q2 : Int) < (rs.length : Int) := by omega
        have i5 : IntKind.i64.wrap ((p : Int) + 1) = (p : Int) + 1 := IntWalk.i64_in _ (by omega)
        have hx1 := hg.out.cell HX.out (by simp); have hx2 := hg.out.cell hxb (by simp); have hx3 := hg.out.cell HR1.out (by simp); have hx4 := hg.out.cell hr2 (by simp)
        clear hq2 hxb hr2
        generalize rs[q2]?.getD 0 = r2 at *
        by_cases hxy : q2 = q1
        · have HXY := Lib.hid hxy
          have hq : ((q2 : Int) == (q1 : Int)) = true := by simp [hxy]
          have hr12 : Hid (r2 = r1) := Lib.hid (by rw [← HRK2.out, ← HRK.out, hxy])
          clear hxy
          go_wp2_with fail
          go_big_quiet (fail)
          go_wp2_with fail
          have G1 := Lib.hid (grown_trans hg.out (grown_drewN wr nq none))
          refine (IH.out _ _ _ rs (a.drop 1) b (p + 1) _ (HR.out.same G1.out) (T1.out.same G1.out) (HB.out.same G1.out) HALT.out HVB.out l1 l2 hlt).mono ?_
          rintro e w5 ⟨v5, rfl, ho5, hg5⟩
          have G5 := Lib.hid (grown_trans G1.out hg5)
          have hx3 := hg5.cell (show (wr.drewN nq).cell? _ = _ from hx3) (by simp); have hx4 := hg5.cell (show (wr.drewN nq).cell? _ = _ from hx4) (by simp)
          have hx1' := hg5.cell (show (wr.drewN nq).cell? _ = _ from hx1) (by simp); have hx2' := hg5.cell (show (wr.drewN nq).cell? _ = _ from hx2) (by simp)
          cases hfr : findL rs (a.drop 1) (b.drop (p + 1)) (p + 1) with
          | some r =>
            rw [hfr] at ho5
            dsimp only [Option.getD_some, Option.isSome_some] at ho5 ⊢
            have HRES : Hid (findL rs a (b.drop f) f = some ((p : Int) :: r)) := Lib.hid (by rw [hfe.out, HST.out, if_pos (by rw [HXY.out]), hfr])
            have hrl := findL_len rs _ _ _ _ hfr
            have O5 := Lib.hid (ho5.row (fun z hz => by have := findL_bd rs _ _ _ _ hfr z hz; simp at this; omega))
            have hl9 : [(p : Int)].length + r.length ≤ 1000000000000 := by rw [hrl]; simp; omega
            clear hfr ho5 hg5 hrl
            go_wp2_with (at_builtin; refine app_ints rfl (.tmp 47) (.tmp 48) rfl w5.heap.size (.slice (some ⟨w5.heap.size, 0, none⟩) 1 1) [(p : Int)] (by kernel_rfl) (ownI_lit w5 w5.heap.size (p : Int) (Nat.le_refl _)) v5 r (by kernel_rfl) (O5.out.same (World.grownBy_alloc _ _ none)).1 O5.out.2.1 hl9 (World.grownBy_alloc _ _ none).size ?_)
            intro v' w6 ho6 hg6
            have O6 := Lib.hid ho6
            have G6 : Hid (w.grownBy w6 none) := Lib.hid (grown_then (grown_after G5.out) hg6 (fun i hi => by simp only [Value.ownBlock, Option.some.injEq] at hi; exact .inl (by rw [← hi]; exact G5.out.size)))
            have HB5 := Lib.hid G5.out.size
            clear ho6 hg6
            go_wp2_with fail
            go_ret2
            rw [HRES.out]
            exact ⟨_, rfl, O6.out.mono HB5.out, G6.out⟩
          | none =>
            have HRES : Hid (findL rs a (b.drop f) f = findL rs a (b.drop (p + 1)) (p + 1)) := Lib.hid (by rw [hfe.out, HST.out, if_pos (by rw [HXY.out]), hfr]; show (if _ then _ else _) = _; rw [if_neg (by rw [HXY.out]; omega)])
            have g3 : decide (r1 < r2) = false := decide_eq_false (by have := hr12.out; omega)
            clear hfr ho5 hg5
            dsimp only [Option.isSome_none]
            go_wp2_with fail
            go_big_quiet (fail)
            go_wp2_with fail
            go_roundw
            case rel => exact ⟨p + 1, by go_num, by omega, by omega, HRES, Lib.hid (grown_trans G5.out (grown_drewN _ _ none))⟩
            case measure => simp [intOf]; omega
        · have HXY := Lib.hid hxy
          have hq : ((q2 : Int) == (q1 : Int)) = false := by rw [beq_eq_false_iff_ne]; omega
          clear hxy
          have HST2 : Hid (findL rs a (b.drop f) f = if rk rs (q1 : Int) < rk rs (q2 : Int) then none else findL rs a (b.drop (p + 1)) (p + 1)) := Lib.hid (by rw [hfe.out, HST.out, if_neg (by have := HXY.out; omega)])
          by_cases hlt2 : r1 < r2
          · have g3 : decide (r1 < r2) = true := by simpa using hlt2
            have HRES : Hid (findL rs a (b.drop f) f = none) := Lib.hid (by rw [HST2.out, HRK.out, HRK2.out, if_pos hlt2])
            go_wp2_with fail
            go_big_quiet (fail)
            go_wp2_with fail
            go_big_quiet (fail)
            go_wp2_with fail
            go_ret2
            rw [HRES.out]
            exact GivesO.no _ _ (grown_trans (grown_trans hg.out (grown_drewN _ _ none)) (grown_drewN _ _ none))
          · have g3 : decide (r1 < r2) = false := by simpa using hlt2
            have HRES : Hid (findL rs a (b.drop f) f = findL rs a (b.drop (p + 1)) (p + 1)) := Lib.hid (by rw [HST2.out, HRK.out, HRK2.out, if_neg hlt2])
            go_wp2_with fail
            go_big_quiet (fail)
            go_wp2_with fail
            go_big_quiet (fail)
            go_wp2_with fail
            go_roundw
            case rel => exact ⟨p + 1, by go_num, by omega, by omega, HRES, Lib.hid (grown_trans hg.out (grown_drewN _ _ none))⟩
            case measure => simp [intOf]; omega
      · have g1 : ¬ (p : Int) < (b.length : Int) := by omega
        have HRES : Hid (findL rs a (b.drop f) f = none) := Lib.hid (by rw [hfe.out, List.drop_eq_nil_of_le (by omega), HDA.out]; rfl)
        go_wp2_with fail
        go_ret2
        rw [HRES.out]
        exact GivesO.no _ _ hg.out

end Go.Proofs.Ytaenkbcclgpphaa
