/- TokenNumbers: for every input it answers true. -/
import Derived.Test.YthlollnpnangpaaDoorYl
import Derived.Test.YthlollnpnangpaaDoorYn
import Derived.Test.YthlollnpnangpaaDoorYm
import Derived.Test.YthlollnpnangpaaDoorCards
import Derived.Test.YthlollnpnangpaaDoorTie
import Derived.StillTailTactics
import Derived.Outline
import Derived.BigRegion
import Derived.BigQuiet
import Derived.Deep.RegionHeld3
namespace Go.Proofs.YthlollnpnangpaaDoor
open Go.ChangeShapes Go.WideShapes Go.ChangeAt Go.RowKit
set_option linter.unusedVariables false

theorem wf_u32 {n : Int} (h : (Lit.int .u32 n).wf = true) : 0 ≤ n ∧ n ≤ 4294967295 := by
  simpa [Lit.wf, IntKind.min, IntKind.max, IntKind.signed, IntKind.bits] using h
theorem itoa_nat (u : Nat) : Lib.itoa (u : Int) = Lib.decDigits u := by
  unfold Lib.itoa
  rw [if_neg (by omega)]
  rfl
set_option maxRecDepth 100000 in
set_option maxHeartbeats 2000000 in
theorem walkTokenNumbers (n : Int) (w : World) (hn : (Lit.int .u32 n).wf = true) (hT : TabP w) :
    Calls Tryd.prog 7 #[.int .u32 n] w fun e w' => e = .returned (.bool true) ∧ Below w.heap.size w w' := by
  have HT := Lib.hid hT
  obtain ⟨hn0, hn1⟩ := wf_u32 hn
  obtain ⟨m, rfl⟩ : ∃ m : Nat, n = (m : Int) := ⟨n.toNat, by omega⟩
  clear hT hn
  go_enter Tryd.func7, Tryd.ntmps7
  go_wp2_with fail
  refine (awake14_any _ HT.out).mono ?_
  rintro e w1 ⟨rfl, hg⟩
  have HG := Lib.hid hg
  clear hg
  have hm1 : IntKind.i64.wrap (m : Int) = (m : Int) := IntWalk.i64_in _ (by omega)
  have hm2 : Int.tmod (m : Int) 10000000 = ((m % 10000000 : Nat) : Int) := by rw [Int.tmod_eq_emod_of_nonneg (by omega)]; omega
  go_wp2_with fail
  have hk : (m : Int) % 10000000 = ((m % 10000000 : Nat) : Int) := by omega
  rw [hk]
  have hk2 : m % 10000000 < 10000000 := Nat.mod_lt _ (by decide)
  generalize m % 10000000 = k at *
  clear hm1 hm2 hk
  have HSC := Lib.hid (num_scan hk2)
  have HDG := Lib.hid (digits_ok k k (Nat.le_refl _))
  refine (Number_any k (by omega) _ (HT.out.same HG.out)).mono ?_
  rintro e w2 ⟨rfl, hg2⟩
  rw [itoa_nat]
  have HG2 := Lib.hid (grown_trans HG.out hg2)
  clear hg2
  have hlen : (Lib.decDigits k).length ≤ 7 := HDG.out.2.2.1 7 (by omega) (by simpa using hk2)
  have HVL : Hid (valL (Lib.decDigits k) = k) := Lib.hid HDG.out.2.1
  have HAL : Hid (∀ c ∈ Lib.decDigits k, 48 ≤ c.toNat ∧ c.toNat ≤ 57) := Lib.hid (fun c hc => by
    have := List.all_eq_true.1 HDG.out.1 c hc
    unfold digB at this
    simpa using this)
  clear HDG
  generalize Lib.decDigits k = D at *
  go_wp2_with fail
  refine (Scan_any D (by omega) _).mono ?_
  rintro e w3 ⟨hg3, hr⟩
  rw [HSC.out] at hr
  obtain ⟨v, rfl, ho⟩ := hr
  have HG3 := Lib.hid (grown_trans HG2.out hg3)
  obtain ⟨a, cap, rfl⟩ := ho.slice
  have HTK := Lib.hid ho.toks
  clear ho hg3
  obtain ⟨b0, off0, cp0, hv, x0, x1, -⟩ := HTK.out.at (k := 0) (by simp)
  simp only [Value.slice.injEq] at hv
  obtain ⟨rfl, -, rfl⟩ := hv
  rw [Nat.zero_mul, Nat.add_zero] at x0 x1
  have y0 : w3.cell? ⟨b0, off0, none⟩ = some (.int .i64 2) := x0
  have X1 : Hid (w3.cell? ⟨b0, off0 + 1, none⟩ = some (strV D)) := Lib.hid x1
  simp only [List.length_cons, List.length_nil, Nat.zero_add, Nat.reduceAdd] at *
  clear x0 x1
  obtain ⟨s, hs⟩ : ∃ s : ByteArray, s = ⟨D.toArray⟩ := ⟨_, rfl⟩
  have hsz : s.size = D.length := by rw [hs]; rfl
  have HSS := Lib.hid hs
  rw [show strV D = .string s by rw [hs]] at X1 ⊢
  clear hs
  go_wp2_with fail
  go_loop [9, 8] (fun i j => ∃ q : Nat, i = .int .i64 q ∧ j = .int .i64 (valL (D.take q)) ∧ q ≤ D.length) (fun i _ => D.length - (intOf i).toNat)
  case atStart => exact ⟨0, rfl, rfl, Nat.zero_le _⟩
  case round =>
    obtain ⟨q, rfl, rfl, hq⟩ := hrel
    by_cases hlt : q < D.length
    · have h1 : (q : Int) < (D.length : Int) := by omega
      have hqs : q < s.size := by omega
      have HC : Hid (s[q] = D[q]) := Lib.hid (by have := HSS.out; subst this; rfl)
      generalize hc : s[q] = c at *
      have hcd := HAL.out c (by rw [HC.out]; exact List.getElem_mem hlt)
      have hv : valL (D.take q) < 10 ^ 7 := by
        have h2 := val_lt (l := D.take q) (fun x hx => HAL.out x (List.mem_of_mem_take hx))
        have h3 : 10 ^ (D.take q).length ≤ 10 ^ 7 := Nat.pow_le_pow_right (by decide) (by rw [List.length_take]; omega)
        omega
      have HN : Hid (valL (D.take (q + 1)) = 10 * valL (D.take q) + (c.toNat - 48)) := Lib.hid (by rw [List.take_succ_eq_append_getElem hlt, valL_snoc, ← HC.out])
      generalize valL (D.take q) = z at *
      have w1' : IntKind.u8.wrap ((c.toNat : Int) - 48) = ((c.toNat - 48 : Nat) : Int) := by rw [IntWalk.u8_in _ (by omega)]; omega
      have w2' : IntKind.i64.wrap (10 * (z : Int)) = 10 * (z : Int) := IntWalk.i64_in _ (by omega)
      have w3' : IntKind.i64.wrap (((c.toNat - 48 : Nat) : Int)) = ((c.toNat - 48 : Nat) : Int) := IntWalk.i64_in _ (by omega)
      have w4' : IntKind.i64.wrap (10 * (z : Int) + ((c.toNat - 48 : Nat) : Int)) = 10 * (z : Int) + ((c.toNat - 48 : Nat) : Int) := IntWalk.i64_in _ (by omega)
      go_wp2_with fail
      go_round
      case rel => exact ⟨q + 1, by go_num, by (try rw [HN.out]) <;> (try rfl) <;> (try (congr 1; omega)), by omega⟩
      case measure => simp [intOf]; omega
    · have h1 : ¬ (q : Int) < (D.length : Int) := by omega
      have hv : valL (D.take q) = k := by rw [List.take_of_length_le (by omega)]; exact HVL.out
      rw [hv]
      have y1 := X1.out
      clear hv
      go_wp2_with fail
      go_ret
      exact ⟨rfl, below_of HG3.out⟩


/-! ### TokenNumbers: the statement and its card, from the walk -/
set_option maxRecDepth 100000 in
theorem contractTokenNumbers (H : Type) (enc : TypeId × Value → H) (W : World) (base : Nat) (args : Array Value) (ds gs : List (DataW H)) (before : List MemPlace)
    (hval0 : ∀ (j : Nat) t v, Tryd.f7.params[j]? = some t → args[j]? = some v → Value.okWide Tryd.prog W .any base t v)
    (hW : DataW.Whole enc Tryd.prog Tryd.f7.params.toList Rows.tokenNumbersSpec.vars false W args.toList ds gs before) (hL : laidMetH Tryd.prog Rows.tokenNumbersRow.laid W) :
    Calls Tryd.prog 7 args W fun e W' => ∃ v, e = .returned v ∧ Rows.tokenNumbersSpec.post enc Tryd.prog Tryd.f7 false true false false W args v W' := by
  have hval : ∀ (j : Nat) t v, Tryd.f7.params[j]? = some t → args[j]? = some v → Value.okWide Tryd.prog W .any base t v := hval0
  have hW' := hW
  obtain ⟨p, q, hA0, hV, rfl, hfz, hnd⟩ := hW
  have hA : DataW.TrodAll enc Tryd.prog W 0 (fun _ => true) true Tryd.f7.params.toList args.toList ds p := hA0
  rw [Tryd.params7] at hA hval
  obtain ⟨v0, vs0, d0, ds0, p0, q0, hargs, rfl, rfl, h0, r0⟩ := trodAll_cons hA
  obtain ⟨rfl, rfl, rfl⟩ := trodAll_nil r0
  obtain rfl : args = #[v0] := by cases args; simp_all
  obtain ⟨rfl, rfl⟩ := trodVars_none hV
  obtain ⟨a0, rfl, rfl, rfl, w0⟩ := open_int Tryd.underlying44 (hval 0 44 v0 rfl rfl) h0
  clear hA0 hval0
  refine (walkTokenNumbers a0 W w0 (tabP hL)).mono fun e W' ⟨he, bel⟩ => ?_
  subst he
  exact ⟨_, rfl, _, _, _, [], _, [], hW', trodAll_mk1 (shut_bool Tryd.underlying4 _), (trodAll_cons_mk (shut_int Tryd.underlying44 w0) trodAll_mk0), rfl, bel.frame _, fun h => by cases h⟩
set_option maxRecDepth 100000 in
theorem metTokenNumbers (os : Os) : laidMet Tryd.prog tabs ((laidWorld os).forCall (fun _ _ => 0) ⟨#[], #[.int .u32 0], []⟩).memory :=
  laidMet_of_run' 300 (by kernel_rfl) (by kernel_rfl)
set_option maxRecDepth 100000 in
theorem readsTokenNumbers (os : Os) {H : Type} (enc : TypeId × Value → H) : ∃ places, DataW.whole enc Tryd.prog ((laidWorld os).forCall (fun _ _ => 0) ⟨#[], #[.int .u32 0], []⟩).memory Tryd.f7.params.toList Rows.tokenNumbersSpec.vars false #[Value.int .u32 0].toList 8 = some ([.lit (.int .u32 0)], [], places) :=
  ⟨[], by kernel_rfl⟩
set_option maxRecDepth 100000 in
theorem liftedTokenNumbers (os : Os) (started : os.Started) (H : Type) (enc : TypeId × Value → H) (F : Stop.Interp) :
    ReturnsInHanded {} Tryd.checked os 7 .any ((OpenSpec.ofChange Rows.tokenNumbersSpec).preRow enc Tryd.prog Tryd.f7 Rows.tokenNumbersRow.domain false Rows.tokenNumbersRow.laid) (((OpenSpec.ofChange Rows.tokenNumbersSpec).at F).post enc Tryd.prog Tryd.f7 false true false false) := by
  obtain ⟨places, hx⟩ := readsTokenNumbers os enc
  refine returnsInHanded_of_row (C := Tryd.checked) (s := OpenSpec.ofChange Rows.tokenNumbersSpec) ownK started (by kernel_rfl) Tryd.func7
    (witness_row_at (enc := enc) (C := Tryd.checked) false (laidWorld os) #[.int .u32 0] rfl (by kernel_rfl) (by kernel_rfl) (by kernel_rfl)
      (OpenSpec.preRow_of_cond 8 hx (by kernel_rfl) (fun k hk => by cases hk) (by kernel_rfl) (metTokenNumbers os))) ?_
  intro W base args ds gs before hval hW _ _ _ hL _ _
  exact contractTokenNumbers H enc W base args ds gs before hval hW hL
theorem tokenNumbers_said : Rows.TokenNumbersSaid :=
  OpenClaim.holds_of_cond 7 Tryd.f7 rfl rfl rfl rfl rfl rfl rfl ⟨rfl, rfl, rfl, rfl, rfl⟩ rfl rfl rfl rfl rfl (by kernel_rfl) Tryd.func7 (by kernel_rfl)
    (of_decide_eq_true (by kernel_rfl)) (by unfold Func.isWrapper; first | (rw [if_pos (by decide +kernel)]; kernel_rfl) | (rw [if_neg (by decide +kernel)]; exact ⟨rfl, rfl⟩))
    (fun os started H enc _ F => by rw [OpenClaim.pre_eq_preRow]; exact liftedTokenNumbers os started H enc F)
theorem plainTokenNumbers (f : FuncId) (fn : Func) (hf : Tryd.pinned.checked.prog.funcNamed "coverability/coverabilitylaw14.TokenNumbers" = some f) (hfn : Tryd.pinned.checked.prog.funcs[f]? = some fn) :
    false = Tryd.pinned.checked.prog.looks [] ∧ ∀ (j : Nat) t, fn.params[j]? = some t → Tryd.pinned.checked.prog.wantsStandIn t = false := by
  obtain rfl : f = 7 := Option.some.inj ((show Tryd.prog.funcNamed "coverability/coverabilitylaw14.TokenNumbers" = some 7 by kernel_rfl).symm.trans hf) |>.symm
  obtain rfl : fn = Tryd.f7 := (Option.some.inj (Tryd.func7.symm.trans hfn)).symm
  refine ⟨by kernel_rfl, fun j t ht => ?_⟩
  rw [Tryd.params7] at ht
  obtain rfl : t = 44 := by simpa using Array.mem_of_getElem? ht
  exact (show Tryd.prog.wantsStandIn 44 = false by kernel_rfl)
theorem tokenNumbers_card : Rows.TokenNumbersCardSaid :=
  Claim7.holds_tied_plain_at .later [] _ _ _ _ tokenNumbers_said (fun _ h => by cases h) (by kernel_rfl) (fun _ h => by cases h) tokenNumbers_row_tie rfl ⟨rfl, rfl⟩ (by kernel_rfl) rfl plainTokenNumbers (by kernel_rfl)
#print axioms tokenNumbers_card
end Go.Proofs.YthlollnpnangpaaDoor
