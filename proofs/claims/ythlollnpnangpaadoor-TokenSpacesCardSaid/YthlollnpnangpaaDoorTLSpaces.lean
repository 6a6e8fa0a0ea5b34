/- TokenSpaces: for every input it answers true. -/
import Derived.Test.YthlollnpnangpaaDoorYl
import Derived.Test.YthlollnpnangpaaDoorYr
import Derived.Test.YthlollnpnangpaaDoorYm
import Derived.Test.YthlollnpnangpaaDoorCards
import Derived.Test.YthlollnpnangpaaDoorTie
import Derived.StillTailTactics
import Derived.Outline
import Derived.BigRegion
import Derived.BigQuiet
import Derived.Deep.RegionHeld3
namespace Go.Proofs.YthlollnpnangpaaDoor
open Go.ChangeShapes Go.WideShapes Go.ChangeAt Go.RowKit
set_option linter.unusedVariables false

theorem str_eq (a b : Bs) : (ByteArray.toList ⟨a.toArray⟩ == ByteArray.toList ⟨b.toArray⟩) = decide (a = b) := by
  rw [Lib.toList_data, Lib.toList_data]
  show (a == b) = _
  cases h : decide (a = b) with
  | true => simpa using h
  | false => simpa using h
/-- What Scan returned: the list, or nothing; the error. -/
def GotS (w : World) (r : Except Int (List Tk)) (v : Value) (n e : Int) : Prop := match r with
  | .ok ts => Toks w v ts ∧ n = 0 ∧ e = 0
  | .error k => v = .slice none 0 0 ∧ n = k ∧ e = 12
theorem ScanR.got {w w' : World} {text : Bs} {e : Ending} (h : ScanR w text e w') : ∃ v n k, e = .returned (.tuple #[v, .int .i64 n, .int .i64 k]) ∧ GotS w' (scanL 0 (linesL text)) v n k ∧ w.grownBy w' none := by
  obtain ⟨hg, h⟩ := h
  unfold GotS
  cases hs : scanL 0 (linesL text) with
  | ok ts =>
    rw [hs] at h
    obtain ⟨v, rfl, ho⟩ := h
    exact ⟨v, 0, 0, rfl, ⟨ho.toks, rfl, rfl⟩, hg⟩
  | error k =>
    rw [hs] at h
    exact ⟨_, k, 12, h, ⟨rfl, rfl, rfl⟩, hg⟩
/-- As a list, whether there was an error or not. -/
def listS : Except Int (List Tk) → List Tk
  | .ok ts => ts
  | .error _ => []
theorem GotS.toks {w : World} {r : Except Int (List Tk)} {v : Value} {n e : Int} (h : GotS w r v n e) : Toks w v (listS r) := by
  cases r with
  | ok ts => exact h.1
  | error k => rw [h.1]; exact ⟨none, 0, rfl, Nat.zero_le _, .inl rfl⟩
theorem same_strip {a b : Except Int (List Tk)} (h : stripT a = stripT b) {w w' : World} {v v' : Value} {n n' e e' : Int} (ha : GotS w a v n e) (hb : GotS w' b v' n' e') : e = e' ∧ (listS a).length = (listS b).length ∧ joinL (listS a) = joinL (listS b) := by
  cases a with
  | ok ts =>
    cases b with
    | ok us =>
      simp only [stripT, Option.some.injEq] at h
      refine ⟨ha.2.2.trans hb.2.2.symm, ?_, join_strip _ _ true h⟩
      have := congrArg List.length h
      rw [List.length_map, List.length_map] at this
      exact this
    | error k => cases h
  | error k =>
    cases b with
    | ok us => cases h
    | error k' => exact ⟨ha.2.2.trans hb.2.2.symm, rfl, rfl⟩
set_option maxRecDepth 100000 in
set_option maxHeartbeats 4000000 in
theorem walkTokenSpaces (a0 : Option Addr) (len0 cap0 : Nat) (z0 : List Int) (w : World) (w0 : IsRow .i64 w a0 len0 cap0 z0) (hT : TabP w) :
    Calls Tryd.prog 5 #[.slice a0 len0 cap0] w fun e w' => e = .returned (.bool true) ∧ Below w.heap.size w w' := by
  obtain ⟨hI, hlen⟩ := w0.ints
  generalize z0.take len0 = zs at hI hlen
  subst hlen
  have HI := Lib.hid hI; have HT := Lib.hid hT
  clear hI w0 hT
  by_cases hfew : (zs.length : Int) ≤ 400
  · go_enter Tryd.func5, Tryd.ntmps5
    go_wp2_with fail
    refine (awake14_any _ HT.out).mono ?_
    rintro e w1 ⟨rfl, hg⟩
    have HG := Lib.hid hg
    clear hg
    go_wp2_with fail
    refine (few_any _ _ _ _).mono ?_
    rintro e w2 ⟨rfl, rfl⟩
    rw [decide_eq_true hfew]
    go_wp2_with fail
    refine (new_st (HI.out.same HG.out) HG.out).mono ?_
    rintro e w3 ⟨p, d, rfl, hs⟩
    have HS := Lib.hid hs
    clear hs HG HI
    go_wp2_with fail
    refine (text2_st HS.out).mono ?_
    rintro e w4 ⟨tx, rfl, ⟨hl, hc⟩, hs, hg⟩
    replace HS := Lib.hid hs
    have HL := Lib.hid hl; have HC := Lib.hid hc
    clear hs hg hl hc
    have HG4 := Lib.hid HS.out.2.1
    clear HS
    go_wp2_with fail
    refine (Scan_any tx (by have := HL.out; omega) _).mono ?_
    rintro e w5 hr
    obtain ⟨v5, n5, k5, rfl, hgot, hg⟩ := hr.got
    have HGOT := Lib.hid hgot; have HG5 := Lib.hid (grown_trans HG4.out hg)
    have HTK := Lib.hid hgot.toks
    obtain ⟨av, cv, rfl, -, -⟩ := hgot.toks
    clear hgot hg hr
    obtain ⟨s, hse⟩ : ∃ s : ByteArray, s = ⟨tx.toArray⟩ := ⟨_, rfl⟩
    have hsz : s.size = tx.length := by rw [hse]; rfl
    have HSE := Lib.hid hse
    rw [show strV tx = .string s by rw [hse]]
    clear hse
    go_wp2_with fail
    go_loop [9, 8] (fun i j => ∃ q : Nat, i = .int .i64 q ∧ j = strV (wideL (tx.take q)) ∧ q ≤ tx.length) (fun i _ => tx.length - (intOf i).toNat)
    case atStart => exact ⟨0, rfl, rfl, Nat.zero_le _⟩
    case round =>
      obtain ⟨q, rfl, rfl, hq⟩ := hrel
      have hl195 := HL.out
      by_cases hlt : q < tx.length
      · have h1 : (q : Int) < (tx.length : Int) := by omega
        have h2 : (q : Int) + 1 ≤ (tx.length : Int) := by omega
        have hqs : q < s.size := by omega
        have hqs1 : q + 1 ≤ tx.length := by omega
        have HX : Hid (s[q] = tx[q] ∧ s.extract q (q + 1) = ⟨[tx[q]].toArray⟩) := Lib.hid (by
          have := HSE.out; subst this
          refine ⟨rfl, ?_⟩
          rw [Lib.extract_eq]
          congr 1
          show ((tx.drop q).take (q + 1 - q)).toArray = _
          rw [show q + 1 - q = 1 by omega, List.drop_eq_getElem_cons hlt]
          rfl)
        have hw1 : (wideL (tx.take q)).length ≤ 2730 := by have := wide_le (tx.take q); rw [List.length_take] at this; omega
        have HN : Hid (wideL (tx.take (q + 1)) = wideL (tx.take q) ++ if tx[q] = 10 then moreB ++ [10] else [tx[q]]) := Lib.hid (by
          have app : ∀ a b : Bs, wideL (a ++ b) = wideL a ++ wideL b := fun a => by
            induction a with
            | nil => intro b; rfl
            | cons x a ih =>
              intro b
              rw [List.cons_append, wideL_cons, wideL_cons, ih]
              split <;> simp
          rw [List.take_succ_eq_append_getElem hlt, app]
          rfl)
        generalize wideL (tx.take q) = wd at *
        generalize hcc : tx[q] = c at *
        obtain ⟨hx1, hx2⟩ := HX.out
        generalize hs1 : s[q] = c' at *
        subst hx1
        generalize hs2 : s.extract q (q + 1) = ex at *
        subst hx2
        by_cases hten : c' = 10
        · have hb1 : (((c'.toNat : Int)) == 10) = true := by rw [hten]; rfl
          have HN2 : Hid (wideL (tx.take (q + 1)) = wd ++ (moreB ++ [c'])) := Lib.hid (by rw [HN.out, if_pos hten, hten])
          have e1 : wd.length + 13 ≤ 9223372036854775807 := by omega
          have e2 : wd.length + 13 + 1 ≤ 9223372036854775807 := by omega
          clear hten
          go_wp2_with fail
          go_round
          case rel => exact ⟨q + 1, by go_num, by rw [HN2.out]; show Value.string (⟨wd.toArray⟩ ++ ⟨moreB.toArray⟩ ++ ⟨[c'].toArray⟩) = _; rw [str_app, str_app, List.append_assoc], by omega⟩
          case measure => simp [intOf]; omega
        · have hb1 : (((c'.toNat : Int)) == 10) = false := by
            simp only [beq_eq_false_iff_ne, ne_eq]
            intro h
            exact hten (UInt8.toNat_inj.1 (by simpa using (by omega : c'.toNat = 10)))
          rw [if_neg hten] at HN
          have e1 : wd.length + 1 ≤ 9223372036854775807 := by omega
          clear hten
          go_wp2_with fail
          go_round
          case rel => exact ⟨q + 1, by go_num, by rw [HN.out]; show Value.string (⟨wd.toArray⟩ ++ ⟨[c'].toArray⟩) = _; rw [str_app], by omega⟩
          case measure => simp [intOf]; omega
      · have h1 : ¬ (q : Int) < (tx.length : Int) := by omega
        rw [List.take_of_length_le (by omega)]
        have HWL : Hid ((wideL tx).length ≤ 364) := Lib.hid (by rw [wide_len]; exact HC.out)
        have e1 : 7 + (wideL tx).length ≤ 9223372036854775807 := by have := HWL.out; omega
        go_wp2_with fail
        rw [show ({ data := #[35, 32, 104, 101, 97, 100, 10] } ++ { data := (wideL tx).toArray } : ByteArray) = ⟨(headB ++ wideL tx).toArray⟩ from str_app headB (wideL tx)]
        refine (Scan_any (headB ++ wideL tx) (by have := HWL.out; rw [List.length_append]; show 7 + _ ≤ _; omega) _).mono ?_
        rintro e w6 hr
        obtain ⟨v6, n6, k6, rfl, hgot6, hg6⟩ := hr.got
        have HG6 := Lib.hid (grown_trans HG5.out hg6)
        have HTK5 := Lib.hid (HTK.out.same hg6)
        have HTK6 := Lib.hid hgot6.toks
        obtain ⟨av6, cv6, rfl, -, -⟩ := hgot6.toks
        obtain ⟨q1, q2, q3⟩ := same_strip (spaces_scan tx).symm HGOT.out hgot6
        subst q1
        have HJ := Lib.hid q3
        have HASK : Hid ((joinL (listS (scanL 0 (linesL tx)))).length ≤ 1000000 ∧ ∀ t ∈ listS (scanL 0 (linesL tx)), -9223372036854775808 ≤ t.1 ∧ t.1 ≤ 9223372036854775807) := Lib.hid (by
          cases hs : scanL 0 (linesL tx) with
          | error k => exact ⟨by simp [listS, joinL, joinF], by simp [listS]⟩
          | ok ts =>
            obtain ⟨j1, j2, -⟩ := join_ask HL.out hs
            exact ⟨by show (joinL ts).length ≤ _; omega, j2⟩)
        have HASK6 : Hid (∀ t ∈ listS (scanL 0 (linesL (headB ++ wideL tx))), -9223372036854775808 ≤ t.1 ∧ t.1 ≤ 9223372036854775807) := Lib.hid (by
          cases hs : scanL 0 (linesL (headB ++ wideL tx)) with
          | error k => simp [listS]
          | ok ts => exact fun t ht => by have := scan_kinds 0 _ _ ts (fun l hl => line_le hl) hs t ht; omega)
        clear hgot6 hg6 hr e1
        generalize listS (scanL 0 (linesL tx)) = ta at *
        generalize listS (scanL 0 (linesL (headB ++ wideL tx))) = tb at *
        rw [q2]
        rw [q2] at HTK5
        have l1 : ((tb.length : Int) == (tb.length : Int)) = true := by simp
        have l2 : (k5 == k5) = true := by simp
        go_wp2_with fail
        refine (Join_any ta _ _ HTK5.out HASK.out.1 HASK.out.2).mono ?_
        rintro e w7 ⟨rfl, hg7⟩
        have HG7 := Lib.hid (grown_trans HG6.out hg7)
        have HTK7 := Lib.hid (HTK6.out.same hg7)
        rw [HJ.out]
        have HLB : Hid ((joinL tb).length ≤ 1000000) := Lib.hid (by rw [← HJ.out]; exact HASK.out.1)
        clear hg7
        go_wp2_with fail
        refine (Join_any tb _ _ HTK7.out HLB.out HASK6.out).mono ?_
        rintro e w8 ⟨rfl, hg8⟩
        have HG8 := Lib.hid (grown_trans HG7.out hg8)
        clear hg8
        have hse : ((⟨(joinL tb).toArray⟩ : ByteArray).toList == (⟨(joinL tb).toArray⟩ : ByteArray).toList) = true := by rw [str_eq]; simp
        go_wp2_with fail
        go_ret
        exact ⟨rfl, below_of HG8.out⟩
  · go_enter Tryd.func5, Tryd.ntmps5
    go_wp2_with fail
    refine (awake14_any _ HT.out).mono ?_
    rintro e w1 ⟨rfl, hg⟩
    have HG := Lib.hid hg
    clear hg
    go_wp2_with fail
    refine (few_any _ _ _ _).mono ?_
    rintro e w2 ⟨rfl, rfl⟩
    rw [decide_eq_false (show ¬ ((zs.length : Int) ≤ 400) by omega)]
    go_wp2_with fail
    refine (awake14_any _ (HT.out.same HG.out)).mono ?_
    rintro e w3 ⟨rfl, hg⟩
    replace HG := Lib.hid (grown_trans HG.out hg)
    clear hg
    go_wp2_with fail
    go_ret
    exact ⟨rfl, below_of HG.out⟩


/-! ### TokenSpaces: the statement and its card, from the walk -/
set_option maxRecDepth 100000 in
theorem contractTokenSpaces (H : Type) (enc : TypeId × Value → H) (W : World) (base : Nat) (args : Array Value) (ds gs : List (DataW H)) (before : List MemPlace)
    (hval0 : ∀ (j : Nat) t v, Tryd.f5.params[j]? = some t → args[j]? = some v → Value.okWide Tryd.prog W .any base t v)
    (hW : DataW.Whole enc Tryd.prog Tryd.f5.params.toList Rows.tokenSpacesSpec.vars false W args.toList ds gs before) (hL : laidMetH Tryd.prog Rows.tokenSpacesRow.laid W) :
    Calls Tryd.prog 5 args W fun e W' => ∃ v, e = .returned v ∧ Rows.tokenSpacesSpec.post enc Tryd.prog Tryd.f5 false true false false W args v W' := by
  have hval : ∀ (j : Nat) t v, Tryd.f5.params[j]? = some t → args[j]? = some v → Value.okWide Tryd.prog W .any base t v := hval0
  have hW' := hW
  obtain ⟨p, q, hA0, hV, rfl, hfz, hnd⟩ := hW
  have hA : DataW.TrodAll enc Tryd.prog W 0 (fun _ => true) true Tryd.f5.params.toList args.toList ds p := hA0
  rw [Tryd.params5] at hA hval
  obtain ⟨v0, vs0, d0, ds0, p0, q0, hargs, rfl, rfl, h0, r0⟩ := trodAll_cons hA
  obtain ⟨rfl, rfl, rfl⟩ := trodAll_nil r0
  obtain rfl : args = #[v0] := by cases args; simp_all
  obtain ⟨rfl, rfl⟩ := trodVars_none hV
  obtain ⟨a0, len0, cap0, rfl⟩ := okWide_slice Tryd.underlying22 (hval 0 22 v0 rfl rfl)
  have k0 := h0
  have lt0 : ∀ x ∈ p0, x.block < W.heap.size := by obtain ⟨m, hm⟩ := k0; exact DataW.trod_lt m _ _ _ hm
  obtain ⟨z0, w0⟩ : ∃ zs, IsRow .i64 W a0 len0 cap0 zs := by
    obtain ⟨fuel, hf⟩ := h0
    rcases open_ints Tryd.underlying22 Tryd.underlying3 (by kernel_rfl) hf with ⟨hcs, _⟩ | ⟨x, l, c, zs, hcs, _, hl, hm, hz, _, hcell, hwz⟩
    · simp [Value.cells] at hcs
      obtain ⟨rfl, rfl, rfl⟩ := hcs
      exact ⟨[], .inl ⟨rfl, rfl, rfl, rfl⟩⟩
    · simp [Value.cells] at hcs
      obtain ⟨rfl, rfl, rfl⟩ := hcs
      exact ⟨zs, .inr ⟨_, rfl, hl, hm, by simpa using hz, hcell, hwz⟩⟩
  clear hA0 hval0
  refine (walkTokenSpaces a0 len0 cap0 z0 W w0 (tabP hL)).mono fun e W' ⟨he, bel⟩ => ?_
  subst he
  exact ⟨_, rfl, _, _, _, [], _, [], hW', trodAll_mk1 (shut_bool Tryd.underlying4 _), (trodAll_cons_mk (Below.trod laidOut (by kernel_rfl) (of_decide_eq_true (by kernel_rfl)) k0 bel lt0) trodAll_mk0), rfl, bel.frame _, fun h => by cases h⟩
set_option maxRecDepth 100000 in
theorem metTokenSpaces (os : Os) : laidMet Tryd.prog tabs ((laidWorld os).forCall (fun _ _ => 0) ⟨#[], #[.slice none 0 0], []⟩).memory :=
  laidMet_of_run' 300 (by kernel_rfl) (by kernel_rfl)
set_option maxRecDepth 100000 in
theorem readsTokenSpaces (os : Os) {H : Type} (enc : TypeId × Value → H) : ∃ places, DataW.whole enc Tryd.prog ((laidWorld os).forCall (fun _ _ => 0) ⟨#[], #[.slice none 0 0], []⟩).memory Tryd.f5.params.toList Rows.tokenSpacesSpec.vars false #[Value.slice none 0 0].toList 8 = some ([.nil], [], places) :=
  ⟨[], by kernel_rfl⟩
set_option maxRecDepth 100000 in
theorem liftedTokenSpaces (os : Os) (started : os.Started) (H : Type) (enc : TypeId × Value → H) (F : Stop.Interp) :
    ReturnsInHanded {} Tryd.checked os 5 .any ((OpenSpec.ofChange Rows.tokenSpacesSpec).preRow enc Tryd.prog Tryd.f5 Rows.tokenSpacesRow.domain false Rows.tokenSpacesRow.laid) (((OpenSpec.ofChange Rows.tokenSpacesSpec).at F).post enc Tryd.prog Tryd.f5 false true false false) := by
  obtain ⟨places, hx⟩ := readsTokenSpaces os enc
  refine returnsInHanded_of_row (C := Tryd.checked) (s := OpenSpec.ofChange Rows.tokenSpacesSpec) ownK started (by kernel_rfl) Tryd.func5
    (witness_row_at (enc := enc) (C := Tryd.checked) false (laidWorld os) #[.slice none 0 0] rfl (by kernel_rfl) (by kernel_rfl) (by kernel_rfl)
      (OpenSpec.preRow_of_cond 8 hx (by kernel_rfl) (fun k hk => by cases hk) (by kernel_rfl) (metTokenSpaces os))) ?_
  intro W base args ds gs before hval hW _ _ _ hL _ _
  exact contractTokenSpaces H enc W base args ds gs before hval hW hL
theorem tokenSpaces_said : Rows.TokenSpacesSaid :=
  OpenClaim.holds_of_cond 5 Tryd.f5 rfl rfl rfl rfl rfl rfl rfl ⟨rfl, rfl, rfl, rfl, rfl⟩ rfl rfl rfl rfl rfl (by kernel_rfl) Tryd.func5 (by kernel_rfl)
    (of_decide_eq_true (by kernel_rfl)) (by unfold Func.isWrapper; first | (rw [if_pos (by decide +kernel)]; kernel_rfl) | (rw [if_neg (by decide +kernel)]; exact ⟨rfl, rfl⟩))
    (fun os started H enc _ F => by rw [OpenClaim.pre_eq_preRow]; exact liftedTokenSpaces os started H enc F)
theorem plainTokenSpaces (f : FuncId) (fn : Func) (hf : Tryd.pinned.checked.prog.funcNamed "coverability/coverabilitylaw14.TokenSpaces" = some f) (hfn : Tryd.pinned.checked.prog.funcs[f]? = some fn) :
    false = Tryd.pinned.checked.prog.looks [] ∧ ∀ (j : Nat) t, fn.params[j]? = some t → Tryd.pinned.checked.prog.wantsStandIn t = false := by
  obtain rfl : f = 5 := Option.some.inj ((show Tryd.prog.funcNamed "coverability/coverabilitylaw14.TokenSpaces" = some 5 by kernel_rfl).symm.trans hf) |>.symm
  obtain rfl : fn = Tryd.f5 := (Option.some.inj (Tryd.func5.symm.trans hfn)).symm
  refine ⟨by kernel_rfl, fun j t ht => ?_⟩
  rw [Tryd.params5] at ht
  obtain rfl : t = 22 := by simpa using Array.mem_of_getElem? ht
  exact (show Tryd.prog.wantsStandIn 22 = false by kernel_rfl)
theorem tokenSpaces_card : Rows.TokenSpacesCardSaid :=
  Claim7.holds_tied_plain_at .later [] _ _ _ _ tokenSpaces_said (fun _ h => by cases h) (by kernel_rfl) (fun _ h => by cases h) tokenSpaces_row_tie rfl ⟨rfl, rfl⟩ (by kernel_rfl) rfl plainTokenSpaces (by kernel_rfl)
#print axioms tokenSpaces_card
end Go.Proofs.YthlollnpnangpaaDoor
