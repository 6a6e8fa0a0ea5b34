/- TokenBack: for every input it answers true. -/
import Derived.Test.YthlollnpnangpaaDoorYl
import Derived.Test.YthlollnpnangpaaDoorYr
import Derived.Test.YthlollnpnangpaaDoorYs
import Derived.Test.YthlollnpnangpaaDoorYm
import Derived.Test.YthlollnpnangpaaDoorCards
import Derived.Test.YthlollnpnangpaaDoorTie
import Derived.StillTailTactics
import Derived.Outline
import Derived.BigRegion
import Derived.BigQuiet
import Derived.Deep.RegionHeld3
namespace Go.Proofs.YthlollnpnangpaaDoor
open Go.ChangeShapes Go.WideShapes Go.ChangeAt Go.RowKit
set_option linter.unusedVariables false

theorem str_eqB (a : Bs) : (ByteArray.toList ⟨a.toArray⟩ == ByteArray.toList ⟨a.toArray⟩) = true := by
  rw [Lib.toList_data]
  simp
set_option maxRecDepth 100000 in
set_option maxHeartbeats 4000000 in
theorem walkTokenBack (a0 : Option Addr) (len0 cap0 : Nat) (z0 : List Int) (w : World) (w0 : IsRow .i64 w a0 len0 cap0 z0) (hT : TabP w) :
    Calls Tryd.prog 4 #[.slice a0 len0 cap0] w fun e w' => e = .returned (.bool true) ∧ Below w.heap.size w w' := by
  obtain ⟨hI, hlen⟩ := w0.ints
  generalize z0.take len0 = zs at hI hlen
  subst hlen
  have HI := Lib.hid hI; have HT := Lib.hid hT
  clear hI w0 hT
  by_cases hfew : (zs.length : Int) ≤ 400
  · go_enter Tryd.func4, Tryd.ntmps4
    go_wp2_with fail
    refine (awake14_any _ HT.out).mono ?_
    rintro e w1 ⟨rfl, hg⟩
    have HG := Lib.hid hg
    clear hg
    go_wp2_with fail
    refine (few_any _ _ _ _).mono ?_
    rintro e w2 ⟨rfl, rfl⟩
    rw [decide_eq_true hfew]
    go_wp2_with fail
    refine (new_st (HI.out.same HG.out) HG.out).mono ?_
    rintro e w3 ⟨p, d, rfl, hs⟩
    have HS := Lib.hid hs
    clear hs HG HI
    go_wp2_with fail
    refine (text_st HS.out).mono ?_
    rintro e w4 ⟨tx, rfl, hl, hs, hg⟩
    replace HS := Lib.hid hs
    have HL := Lib.hid hl
    clear hs hg hl
    have HG4 := Lib.hid HS.out.2.1
    clear HS
    go_wp2_with fail
    refine (Scan_any tx (by have := HL.out; omega) _).mono ?_
    rintro e w5 ⟨hg5, hr⟩
    have HG5 := Lib.hid (grown_trans HG4.out hg5)
    clear hg5
    cases hsc : scanL 0 (linesL tx) with
    | error n =>
      rw [hsc] at hr
      dsimp only at hr
      subst hr
      clear hsc
      go_wp2_with fail
      go_ret
      exact ⟨rfl, below_of HG5.out⟩
    | ok ts =>
      rw [hsc] at hr
      obtain ⟨v, rfl, ho⟩ := hr
      have HTK := Lib.hid ho.toks
      obtain ⟨ax, cx, rfl⟩ := ho.slice
      obtain ⟨j1, j2, -, j4⟩ := join_ask HL.out hsc
      have HJA := Lib.hid (show (joinL ts).length ≤ 1000000 by omega); have HJB := Lib.hid j2; have HJS := Lib.hid (join_short HL.out hsc); have HT4 := Lib.hid j4
      obtain ⟨us, hus, hul, hat⟩ := back_scan hsc
      have HUS := Lib.hid hus; have HAT := Lib.hid hat; have HUL := Lib.hid hul
      clear ho j1 j2 j4 hsc hus hat hul
      go_wp2_with fail
      refine (Join_any ts _ _ HTK.out HJA.out HJB.out).mono ?_
      rintro e w6 ⟨rfl, hg6⟩
      have HG6 := Lib.hid (grown_trans HG5.out hg6)
      replace HTK := Lib.hid (HTK.out.same hg6)
      clear hg6
      go_wp2_with fail
      refine (Scan_any (joinL ts) (by have := HJS.out; omega) _).mono ?_
      rintro e w7 ⟨hg7, hr⟩
      rw [HUS.out] at hr
      obtain ⟨v, rfl, ho⟩ := hr
      have HG7 := Lib.hid (grown_trans HG6.out hg7)
      replace HTK := Lib.hid (HTK.out.same hg7)
      have HTU := Lib.hid ho.toks
      obtain ⟨ay, cy, rfl⟩ := ho.slice
      rw [HUL.out] at HTU ⊢
      have HTU2 : Hid (Toks w7 (.slice ay us.length cy) us) := Lib.hid (by rw [HUL.out]; exact HTU.out)
      clear ho hg7 HTU
      have l1 : ((ts.length : Int) != (ts.length : Int)) = false := by simp
      go_wp2_with fail
      go_loopw [60, 10] (fun i j wr => ∃ k : Nat, i = .int .i64 k ∧ j = .int .i64 ((1 + ends (us.take k) : Nat) : Int) ∧ k ≤ ts.length ∧ Hid (w7.grownBy wr none)) (fun i _ _ => ts.length - (intOf i).toNat)
      case atStart => exact ⟨0, rfl, rfl, Nat.zero_le _, Lib.hid (grown_refl _ _)⟩
      case round =>
        obtain ⟨k, rfl, rfl, hk, hgr⟩ := hrel
        have ht4 := HT4.out
        by_cases hlt : k < ts.length
        · have h1 : (k : Int) < (ts.length : Int) := by omega
          have hlu : k < us.length := by rw [HUL.out]; exact hlt
          obtain ⟨tb, off, cp, hv, x1, x2, x3⟩ := (HTK.out.same hgr.out).at hlt
          simp only [Value.slice.injEq] at hv
          obtain ⟨rfl, -, rfl⟩ := hv
          obtain ⟨tb2, off2, cp2, hv, z1, z2, z3⟩ := (HTU2.out.same hgr.out).at hlu
          simp only [Value.slice.injEq] at hv
          obtain ⟨rfl, -, rfl⟩ := hv
          obtain ⟨q1, q2, q3⟩ := HAT.out k hlt hlu
          have HN := Lib.hid (ends_next us k hlu)
          have he := ends_le (us.take k)
          rw [List.length_take] at he
          rw [q1] at HN z1
          rw [q2] at z2
          rw [q3] at z3
          generalize ts[k].1 = kd at *
          generalize ts[k].2.1 = tt at *
          clear x3 q1 q2 q3
          generalize ends (us.take k) = en at *
          have e0 : (1 + (en : Int)) = ((1 + en : Nat) : Int) := by omega
          rw [e0] at z3
          clear e0
          have d1 : (kd != kd) = false := by simp
          have d2 := str_eqB tt
          have d3 : (((1 + en : Nat) : Int) != ((1 + en : Nat) : Int)) = false := by simp
          by_cases h4 : kd = 4
          · have d4 : (kd == 4) = true := by simpa using h4
            rw [if_pos h4] at HN
            have ww : IntKind.i64.wrap (((1 + en : Nat) : Int) + 1) = ((1 + (en + 1) : Nat) : Int) := by rw [IntWalk.i64_in _ (by omega)]; omega
            clear h4
            go_wp2_with fail
            go_quiet (fail)
            go_wp2_with fail
            go_roundw
            case rel => exact ⟨k + 1, by go_num, by rw [HN.out] <;> first | rfl | (congr 1; omega), by omega, Lib.hid (grown_trans hgr.out (grown_drewN _ _ _))⟩
            case measure => simp [intOf]; omega
          · have d4 : (kd == 4) = false := by simpa using h4
            rw [if_neg h4] at HN
            clear h4
            go_wp2_with fail
            go_quiet (fail)
            go_wp2_with fail
            go_roundw
            case rel => exact ⟨k + 1, by go_num, by rw [HN.out] <;> first | rfl | (congr 1; omega), by omega, Lib.hid (grown_trans hgr.out (grown_drewN _ _ _))⟩
            case measure => simp [intOf]; omega
        · have h1 : ¬ (k : Int) < (ts.length : Int) := by omega
          go_wp2_with fail
          go_ret
          exact ⟨rfl, below_of (grown_trans HG7.out hgr.out)⟩
  · go_enter Tryd.func4, Tryd.ntmps4
    go_wp2_with fail
    refine (awake14_any _ HT.out).mono ?_
    rintro e w1 ⟨rfl, hg⟩
    have HG := Lib.hid hg
    clear hg
    go_wp2_with fail
    refine (few_any _ _ _ _).mono ?_
    rintro e w2 ⟨rfl, rfl⟩
    rw [decide_eq_false (show ¬ ((zs.length : Int) ≤ 400) by omega)]
    go_wp2_with fail
    refine (awake14_any _ (HT.out.same HG.out)).mono ?_
    rintro e w3 ⟨rfl, hg⟩
    replace HG := Lib.hid (grown_trans HG.out hg)
    clear hg
    go_wp2_with fail
    go_ret
    exact ⟨rfl, below_of HG.out⟩


/-! ### TokenBack: the statement and its card, from the walk -/
set_option maxRecDepth 100000 in
theorem contractTokenBack (H : Type) (enc : TypeId × Value → H) (W : World) (base : Nat) (args : Array Value) (ds gs : List (DataW H)) (before : List MemPlace)
    (hval0 : ∀ (j : Nat) t v, Tryd.f4.params[j]? = some t → args[j]? = some v → Value.okWide Tryd.prog W .any base t v)
    (hW : DataW.Whole enc Tryd.prog Tryd.f4.params.toList Rows.tokenBackSpec.vars false W args.toList ds gs before) (hL : laidMetH Tryd.prog Rows.tokenBackRow.laid W) :
    Calls Tryd.prog 4 args W fun e W' => ∃ v, e = .returned v ∧ Rows.tokenBackSpec.post enc Tryd.prog Tryd.f4 false true false false W args v W' := by
  have hval : ∀ (j : Nat) t v, Tryd.f4.params[j]? = some t → args[j]? = some v → Value.okWide Tryd.prog W .any base t v := hval0
  have hW' := hW
  obtain ⟨p, q, hA0, hV, rfl, hfz, hnd⟩ := hW
  have hA : DataW.TrodAll enc Tryd.prog W 0 (fun _ => true) true Tryd.f4.params.toList args.toList ds p := hA0
  rw [Tryd.params4] at hA hval
  obtain ⟨v0, vs0, d0, ds0, p0, q0, hargs, rfl, rfl, h0, r0⟩ := trodAll_cons hA
  obtain ⟨rfl, rfl, rfl⟩ := trodAll_nil r0
  obtain rfl : args = #[v0] := by cases args; simp_all
  obtain ⟨rfl, rfl⟩ := trodVars_none hV
  obtain ⟨a0, len0, cap0, rfl⟩ := okWide_slice Tryd.underlying22 (hval 0 22 v0 rfl rfl)
  have k0 := h0
  have lt0 : ∀ x ∈ p0, x.block < W.heap.size := by obtain ⟨m, hm⟩ := k0; exact DataW.trod_lt m _ _ _ hm
  obtain ⟨z0, w0⟩ : ∃ zs, IsRow .i64 W a0 len0 cap0 zs := by
    obtain ⟨fuel, hf⟩ := h0
    rcases open_ints Tryd.underlying22 Tryd.underlying3 (by kernel_rfl) hf with ⟨hcs, _⟩ | ⟨x, l, c, zs, hcs, _, hl, hm, hz, _, hcell, hwz⟩
    · simp [Value.cells] at hcs
      obtain ⟨rfl, rfl, rfl⟩ := hcs
      exact ⟨[], .inl ⟨rfl, rfl, rfl, rfl⟩⟩
    · simp [Value.cells] at hcs
      obtain ⟨rfl, rfl, rfl⟩ := hcs
      exact ⟨zs, .inr ⟨_, rfl, hl, hm, by simpa using hz, hcell, hwz⟩⟩
  clear hA0 hval0
  refine (walkTokenBack a0 len0 cap0 z0 W w0 (tabP hL)).mono fun e W' ⟨he, bel⟩ => ?_
  subst he
  exact ⟨_, rfl, _, _, _, [], _, [], hW', trodAll_mk1 (shut_bool Tryd.underlying4 _), (trodAll_cons_mk (Below.trod laidOut (by kernel_rfl) (of_decide_eq_true (by kernel_rfl)) k0 bel lt0) trodAll_mk0), rfl, bel.frame _, fun h => by cases h⟩
set_option maxRecDepth 100000 in
theorem metTokenBack (os : Os) : laidMet Tryd.prog tabs ((laidWorld os).forCall (fun _ _ => 0) ⟨#[], #[.slice none 0 0], []⟩).memory :=
  laidMet_of_run' 300 (by kernel_rfl) (by kernel_rfl)
set_option maxRecDepth 100000 in
theorem readsTokenBack (os : Os) {H : Type} (enc : TypeId × Value → H) : ∃ places, DataW.whole enc Tryd.prog ((laidWorld os).forCall (fun _ _ => 0) ⟨#[], #[.slice none 0 0], []⟩).memory Tryd.f4.params.toList Rows.tokenBackSpec.vars false #[Value.slice none 0 0].toList 8 = some ([.nil], [], places) :=
  ⟨[], by kernel_rfl⟩
set_option maxRecDepth 100000 in
theorem liftedTokenBack (os : Os) (started : os.Started) (H : Type) (enc : TypeId × Value → H) (F : Stop.Interp) :
    ReturnsInHanded {} Tryd.checked os 4 .any ((OpenSpec.ofChange Rows.tokenBackSpec).preRow enc Tryd.prog Tryd.f4 Rows.tokenBackRow.domain false Rows.tokenBackRow.laid) (((OpenSpec.ofChange Rows.tokenBackSpec).at F).post enc Tryd.prog Tryd.f4 false true false false) := by
  obtain ⟨places, hx⟩ := readsTokenBack os enc
  refine returnsInHanded_of_row (C := Tryd.checked) (s := OpenSpec.ofChange Rows.tokenBackSpec) ownK started (by kernel_rfl) Tryd.func4
    (witness_row_at (enc := enc) (C := Tryd.checked) false (laidWorld os) #[.slice none 0 0] rfl (by kernel_rfl) (by kernel_rfl) (by kernel_rfl)
      (OpenSpec.preRow_of_cond 8 hx (by kernel_rfl) (fun k hk => by cases hk) (by kernel_rfl) (metTokenBack os))) ?_
  intro W base args ds gs before hval hW _ _ _ hL _ _
  exact contractTokenBack H enc W base args ds gs before hval hW hL
theorem tokenBack_said : Rows.TokenBackSaid :=
  OpenClaim.holds_of_cond 4 Tryd.f4 rfl rfl rfl rfl rfl rfl rfl ⟨rfl, rfl, rfl, rfl, rfl⟩ rfl rfl rfl rfl rfl (by kernel_rfl) Tryd.func4 (by kernel_rfl)
    (of_decide_eq_true (by kernel_rfl)) (by unfold Func.isWrapper; first | (rw [if_pos (by decide +kernel)]; kernel_rfl) | (rw [if_neg (by decide +kernel)]; exact ⟨rfl, rfl⟩))
    (fun os started H enc _ F => by rw [OpenClaim.pre_eq_preRow]; exact liftedTokenBack os started H enc F)
theorem plainTokenBack (f : FuncId) (fn : Func) (hf : Tryd.pinned.checked.prog.funcNamed "coverability/coverabilitylaw14.TokenBack" = some f) (hfn : Tryd.pinned.checked.prog.funcs[f]? = some fn) :
    false = Tryd.pinned.checked.prog.looks [] ∧ ∀ (j : Nat) t, fn.params[j]? = some t → Tryd.pinned.checked.prog.wantsStandIn t = false := by
  obtain rfl : f = 4 := Option.some.inj ((show Tryd.prog.funcNamed "coverability/coverabilitylaw14.TokenBack" = some 4 by kernel_rfl).symm.trans hf) |>.symm
  obtain rfl : fn = Tryd.f4 := (Option.some.inj (Tryd.func4.symm.trans hfn)).symm
  refine ⟨by kernel_rfl, fun j t ht => ?_⟩
  rw [Tryd.params4] at ht
  obtain rfl : t = 22 := by simpa using Array.mem_of_getElem? ht
  exact (show Tryd.prog.wantsStandIn 22 = false by kernel_rfl)
theorem tokenBack_card : Rows.TokenBackCardSaid :=
  Claim7.holds_tied_plain_at .later [] _ _ _ _ tokenBack_said (fun _ h => by cases h) (by kernel_rfl) (fun _ h => by cases h) tokenBack_row_tie rfl ⟨rfl, rfl⟩ (by kernel_rfl) rfl plainTokenBack (by kernel_rfl)
#print axioms tokenBack_card
end Go.Proofs.YthlollnpnangpaaDoor
