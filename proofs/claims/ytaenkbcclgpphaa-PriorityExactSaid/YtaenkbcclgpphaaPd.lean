/- Contracts of package priority: Embed, Leq, Proves. -/
import Derived.Test.YtaenkbcclgpphaaPc
import Derived.Test.YtaenkbcclgpphaaWd
namespace Go.Proofs.Ytaenkbcclgpphaa
open Go.RowKit
set_option linter.unusedVariables false

theorem validP_W {rs a : List Int} (h : validP rs a = true) : validW a = true := by
  have h1 := validP_le h
  have h2 := ranksB_le h1.1
  unfold validW
  rw [Bool.and_eq_true, List.all_eq_true]
  refine ⟨by simpa using h1.2.1, fun x hx => ?_⟩
  have := h1.2.2 x hx
  unfold letterB
  rw [decide_eq_true (by omega), decide_eq_true (by omega)]; rfl

set_option maxRecDepth 100000 in
set_option maxHeartbeats 4000000 in
theorem embedP_any (vr va vb : Value) (rs a b : List Int) (w : World) (hr : Ints w vr rs) (ha : RowOk w (va, a)) (hb : RowOk w (vb, b)) :
    Calls Try.prog 36 #[vr, va, vb] w (GivesO (embedP rs a b) w) := by
  have HR := Lib.hid hr; have HA := Lib.hid ha; have HB := Lib.hid hb
  obtain ⟨⟨aa, ca, hva', hal0, -, -⟩, -, -⟩ := ha
  simp only at hva'
  subst hva'
  obtain ⟨⟨ab, cb, hvb', hbl0, -, -⟩, -, -⟩ := hb
  simp only at hvb'
  subst hvb'
  dsimp only at hal0 hbl0
  unfold maxLen at hal0 hbl0
  clear hr
  cases c1 : validP rs a
  · have C1 := Lib.hid c1
    clear c1
    go_enter Try.func36, Try.ntmps36
    go_wp2_with fail
    refine (validP_any _ _ _ _ _ HR.out HA.out.1).mono ?_; rintro e w' ⟨rfl, rfl⟩
    rw [C1.out]
    go_wp2_with fail
    go_ret2
    rw [show embedP rs a b = none by simp [embedP, C1.out]]
    exact GivesO.no _ _ (grown_refl _ _)
  cases c2 : validP rs b
  · have C1 := Lib.hid c1; have C2 := Lib.hid c2
    clear c1 c2
    go_enter Try.func36, Try.ntmps36
    go_wp2_with fail
    refine (validP_any _ _ _ _ _ HR.out HA.out.1).mono ?_; rintro e w1 ⟨rfl, rfl⟩
    rw [C1.out]
    go_wp2_with fail
    refine (validP_any _ _ _ _ _ HR.out HB.out.1).mono ?_; rintro e w' ⟨rfl, rfl⟩
    rw [C2.out]
    go_wp2_with fail
    go_ret2
    rw [show embedP rs a b = none by simp [embedP, C2.out]]
    exact GivesO.no _ _ (grown_refl _ _)
  have HE : Hid (embedP rs a b = findL rs a b 0) := Lib.hid (by simp [embedP, c1, c2])
  have hal := (validP_le c1).2.1
  have hbl := (validP_le c2).2.1
  have C1 := Lib.hid c1; have C2 := Lib.hid c2
  clear c1 c2
  by_cases h0 : a.length = 0
  · have ea : a = [] := List.eq_nil_of_length_eq_zero h0
    subst ea
    have hz : ((b.length : Int) == 0) = (findL rs [] b 0).isSome := by
      unfold findL
      by_cases hbz : b.length = 0
      · have eb : b = [] := List.eq_nil_of_length_eq_zero hbz
        subst eb; rfl
      · rw [if_neg (fun e => hbz (by rw [e]; rfl)), beq_eq_false_iff_ne.2 (by omega)]; rfl
    have HD : Hid ((findL rs [] b 0).getD [] = []) := Lib.hid (by unfold findL; split <;> rfl)
    clear h0
    go_enter Try.func36, Try.ntmps36
    go_wp2_with fail
    refine (validP_any _ _ _ _ _ HR.out HA.out.1).mono ?_; rintro e w1 ⟨rfl, rfl⟩
    rw [C1.out]
    go_wp2_with fail
    refine (validP_any _ _ _ _ _ HR.out HB.out.1).mono ?_; rintro e w' ⟨rfl, rfl⟩
    rw [C2.out]
    go_wp2_with fail
    go_ret2
    rw [HE.out]
    exact ⟨_, rfl, by rw [HD.out]; exact OwnI.nil _ _, grown_refl _ _⟩
  have hz : ((a.length : Int) == 0) = false := by rw [beq_eq_false_iff_ne]; omega
  have ha0 : 0 < a.length := by omega
  clear h0
  go_enter Try.func36, Try.ntmps36
  go_wp2_with fail
  refine (validP_any _ _ _ _ _ HR.out HA.out.1).mono ?_; rintro e w1 ⟨rfl, rfl⟩
  rw [C1.out]
  go_wp2_with fail
  refine (validP_any _ _ _ _ _ HR.out HB.out.1).mono ?_; rintro e w0 ⟨rfl, rfl⟩
  rw [C2.out]
  go_wp2_with fail
  refine (endings_any _ _ _ _ _ _ _ HR.out HA.out HB.out C1.out C2.out).mono ?_
  rintro e w2 ⟨v8, qs, rfl, hq, hm, hg⟩
  have HQ := Lib.hid hq; have HM := Lib.hid hm; have HG := Lib.hid hg
  clear hq hm hg
  go_wp2_with (at_make; refine make_cap_int rfl _ _ rfl a.length rfl rfl (by omega) ?_)
  intro w3 ho hg
  have HO := Lib.hid ho; have HG3 := Lib.hid hg
  have hs2 := HG.out.size
  clear ho hg
  go_wp2_with fail
  go_loopw [9, 10, 38] (fun v nx ix wr => ∃ (k n : Nat) (zs : List Int), ix = .int .i64 k ∧ k ≤ a.length ∧ nx = .int .i64 n ∧ n ≤ b.length ∧ zs.length ≤ k ∧ Hid (findL rs a b 0 = (findL rs (a.drop k) (b.drop n) n).map (fun r => zs ++ r)) ∧ Hid (0 < k → (findL rs (a.drop k) (b.drop n) n).isSome = true) ∧ Hid (OwnI wr w2.heap.size v zs) ∧ Hid (w2.grownBy wr none)) (fun _ _ ix _ => a.length - (intOf ix).toNat)
  case atStart => exact ⟨0, 0, [], rfl, Nat.zero_le _, rfl, Nat.zero_le _, Nat.le_refl _, Lib.hid (by simp), Lib.hid (by omega), HO, HG3⟩
  case round =>
    obtain ⟨k, n, zs, rfl, hk, rfl, hn, hzl, hf, hs, ho, hg⟩ := hrel
    obtain ⟨vz, cz, rfl⟩ := ho.out.slice
    by_cases hlt : k < a.length
    · have g1 : (k : Int) < (a.length : Int) := by omega
      have hql : qs.length = a.length := by
        have e1 := congrArg List.length HM.out
        unfold endsAll at e1
        simpa using e1
      have hkq : k < qs.length := by omega
      have hkq' : (k : Int) < (qs.length : Int) := by omega
      obtain ⟨_, _, rfl, _, hc, hrow⟩ := HQ.out.same hg.out
      obtain ⟨b1, o1, rfl, hx⟩ := BRowsP.at hc hkq
      have R1 := Lib.hid (hrow _ (List.getElem_mem hkq))
      have HS : Hid ((qs[k]).2 = endL rs b (a.drop k)) := Lib.hid (by
        have := congrArg (fun l => l[k]?) HM.out
        simp only [List.getElem?_map, List.getElem?_eq_getElem hkq, Option.map_some, endsAll, List.getElem?_range hlt, Option.some.injEq] at this
        exact this)
      have HDR := Lib.hid (drop_at a k hlt)
      clear hc hrow hql
      generalize qs[k] = p at *
      obtain ⟨pv, pm⟩ := p
      dsimp only at hx
      have HPL : Hid (pm.length = b.length) := Lib.hid (by rw [show pm = endL rs b (a.drop k) from HS.out, HDR.out, endL_len])
      have HFE : Hid (findL rs (a.drop k) (b.drop n) n = (firstP rs b pm n).bind (fun j => (findL rs (a.drop (k + 1)) (b.drop (j + 1)) (j + 1)).map (fun r => (j : Int) :: r))) := Lib.hid (by rw [show pm = endL rs b (a.drop k) from HS.out, HDR.out, find_ends rs b _ _ n hn])
      have GW := Lib.hid (grown_trans HG.out hg.out)
      go_wp2_with fail
      refine (firstplace_any _ _ _ _ _ _ _ _ (HR.out.same GW.out) (HB.out.same GW.out) R1.out.1 HPL.out C2.out hn).mono ?_
      rintro e w5 ⟨rfl, hd⟩
      have G5 := Lib.hid (grown_trans hg.out (hd.grown none)); have O5 := Lib.hid (ho.out.kept (hd.grown none) (by simp))
      clear hd
      cases hfp : firstP rs b pm n with
      | none =>
        have HN : Hid (findL rs a b 0 = none) := Lib.hid (by rw [hf.out, HFE.out, hfp]; rfl)
        clear hfp
        dsimp only [optI]
        go_wp2_with fail
        go_ret2
        rw [HE.out, HN.out]
        exact GivesO.no _ _ (grown_trans HG.out G5.out)
      | some j =>
        have hj := firstP_some hfp
        have hmk := hj.2.2
        have HSM : Hid ((findL rs (a.drop (k + 1)) (b.drop (j + 1)) (j + 1)).isSome = true) := Lib.hid (by
          rw [show pm = endL rs b (a.drop k) from HS.out, HDR.out, endL_at rs b _ _ j hj.2.1, Bool.and_eq_true] at hmk
          exact hmk.2)
        have HF2 : Hid (findL rs a b 0 = (findL rs (a.drop (k + 1)) (b.drop (j + 1)) (j + 1)).map (fun r => (zs ++ [(j : Int)]) ++ r)) := Lib.hid (by
          rw [hf.out, HFE.out, hfp]
          show Option.map _ (Option.map _ _) = _
          rw [Option.map_map]; congr 1; funext r; simp)
        have hjl := hj.2.1
        have i5 : IntKind.i64.wrap ((j : Int) + 1) = (j : Int) + 1 := IntWalk.i64_in _ (by omega)
        have hl9 : zs.length ≤ 1000000000000 := by omega
        have hb9 : w2.heap.size ≤ w5.heap.size := G5.out.size
        clear hfp hj hmk
        dsimp only [optI]
        go_wp2_with (at_builtin; refine app_int rfl (.tmp 51) (.tmp 53) rfl w2.heap.size (.slice vz zs.length cz) zs (by kernel_rfl) (O5.out.kept (World.grownBy_alloc _ _ none) (by simp)) w5.heap.size (j : Int) (by kernel_rfl) (cell_new rfl) hl9 (Nat.le_trans hb9 (World.grownBy_alloc w5 _ none).size) ?_)
        intro v' w9 ho2 hg2
        have O9 := Lib.hid ho2
        have G9 : Hid (w2.grownBy w9 none) := Lib.hid (grown_then (grown_after G5.out) hg2 (fun i hi => .inl (O5.out.fresh i hi).1))
        clear ho2 hg2
        go_wp2_with fail
        go_roundw
        case rel => exact ⟨k + 1, j + 1, zs ++ [(j : Int)], by go_num, by omega, by go_num, by omega, by simp; omega, HF2, Lib.hid (fun _ => HSM.out), O9, G9⟩
        case measure => simp [intOf]; omega
    · have g1 : ¬ (k : Int) < (a.length : Int) := by omega
      have hka : k = a.length := by omega
      have HFIN : Hid (findL rs a b 0 = some zs) := Lib.hid (by
        have h1 := hs.out (by omega)
        rw [hf.out, hka, List.drop_length] at *
        unfold findL at h1 ⊢
        split at h1
        · rename_i h2; rw [if_pos h2]; simp
        · cases h1)
      clear hka
      go_wp2_with fail
      go_ret2
      rw [HE.out, HFIN.out]
      exact ⟨_, rfl, ho.out.mono hs2, grown_trans HG.out hg.out⟩

theorem leqP_any (vr va vb : Value) (rs a b : List Int) (w : World) (hr : Ints w vr rs) (ha : RowOk w (va, a)) (hb : RowOk w (vb, b)) :
    Calls Try.prog 40 #[vr, va, vb] w fun e w' => e = .returned (.bool (leqP rs a b)) ∧ w.grownBy w' none := by
  have HR := Lib.hid hr; have HA := Lib.hid ha; have HB := Lib.hid hb
  clear hr ha hb
  go_enter Try.func40, Try.ntmps40
  go_wp2_with fail
  refine (embedP_any _ _ _ _ _ _ _ HR.out HA.out HB.out).mono ?_
  rintro e w1 ⟨v, rfl, ho, hg⟩
  have HG := Lib.hid hg
  clear ho hg
  go_wp2_with fail
  go_ret
  exact ⟨rfl, HG.out⟩

end Go.Proofs.Ytaenkbcclgpphaa
