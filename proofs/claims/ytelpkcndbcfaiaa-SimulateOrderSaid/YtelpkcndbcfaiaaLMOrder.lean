/- SimulateOrder: for every input it answers true -/
import Derived.Test.YtelpkcndbcfaiaaJt
import Derived.StillTailTactics
import Derived.Outline
import Derived.BigRegion
import Derived.BigQuiet
import Derived.Deep.RegionHeld3
namespace Go.Proofs.Ytelpkcndbcfaiaa
open Go.ChangeShapes Go.WideShapes Go.ChangeAt Go.RowKit
set_option linter.unusedVariables false
set_option maxRecDepth 100000 in
set_option maxHeartbeats 4000000 in
theorem walkSimulateOrder (a0 : Option Addr) (len0 cap0 : Nat) (z0 : List Int) (w : World) (w0 : IsRow .u8 w a0 len0 cap0 z0) :
    Calls Try.prog 7 #[.slice a0 len0 cap0] w fun e w' => e = .returned (.bool true) ∧ Below w.heap.size w w' := by
  obtain ⟨hU0, hlen0, hcap0⟩ := w0.u8
  generalize z0.take len0 = zs0 at hU0 hlen0
  subst hlen0
  have HU0 := Lib.hid hU0; have HCAP0 := Lib.hid hcap0
  clear hU0 hcap0 w0
  go_enter Try.func7, Try.ntmps7
  go_wp2_with fail
  refine (awake36_any _).mono ?_
  rintro e w1 ⟨rfl, hg⟩
  have HG := Lib.hid hg
  clear hg
  go_wp2_with fail
  refine (dice_new (HU0.out.same HG.out) HCAP0.out HG.out).mono ?_
  rintro e w2 ⟨d, rfl, hs⟩
  have HS := Lib.hid hs
  clear hs
  go_wp2_with fail
  refine (system_any HS.out).mono ?_
  rintro e w3 ⟨aa, ca, la, rfl, hb, h1, h6, hr, hs, hg⟩
  have HDa : Hid (SysD d w3 (.slice aa la.length ca) la) := Lib.hid ⟨hb, h1, h6, hr⟩
  replace HS := Lib.hid hs
  clear hb h1 h6 hr hs hg
  go_wp2_with fail
  refine (system_any HS.out).mono ?_
  rintro e w4 ⟨ab, cb, lb, rfl, hb, h1, h6, hr, hs, hg⟩
  have HDb : Hid (SysD d w4 (.slice ab lb.length cb) lb) := Lib.hid ⟨hb, h1, h6, hr⟩
  replace HS := Lib.hid hs
  replace HDa := Lib.hid (HDa.out.deal hg)
  clear hb h1 h6 hr hs hg
  go_wp2_with fail
  refine (system_any HS.out).mono ?_
  rintro e w5 ⟨ac, cc, lc, rfl, hb, h1, h6, hr, hs, hg⟩
  have HDc : Hid (SysD d w5 (.slice ac lc.length cc) lc) := Lib.hid ⟨hb, h1, h6, hr⟩
  replace HS := Lib.hid hs
  replace HDa := Lib.hid (HDa.out.deal hg)
  replace HDb := Lib.hid (HDb.out.deal hg)
  clear hb h1 h6 hr hs hg
  obtain ⟨H, hH⟩ : ∃ H, w5.heap.size = H := ⟨_, rfl⟩
  go_wp2_with fail
  obtain ⟨w6, hw6⟩ : ∃ w6, w6 = (((w5.alloc (.cells #[.slice aa la.length ca] 25)).alloc (.cells #[.slice ab lb.length cb] 25)).alloc (.cells #[.slice ac lc.length cc] 25)) := ⟨_, rfl⟩
  have hgw6 : w5.grownBy w6 none := by rw [hw6]; exact grown_aft2 (grown_aft2 (World.grownBy_alloc _ _ _))
  have HCa : Hid (w6.cell? ⟨H, 0, none⟩ = some (.slice aa la.length ca)) := Lib.hid (by
    have hb : w6.heap[H]? = some (.cells #[.slice aa la.length ca] 25 (0, 0)) := by rw [hw6]; exact heap_old _ (heap_old _ (heap_new _ hH.symm))
    unfold World.cell?
    dsimp only
    rw [hb]
    rfl)
  replace HDa := Lib.hid (HDa.out.step hgw6)
  have HCb : Hid (w6.cell? ⟨H + 1, 0, none⟩ = some (.slice ab lb.length cb)) := Lib.hid (by
    have hb : w6.heap[H + 1]? = some (.cells #[.slice ab lb.length cb] 25 (0, 0)) := by rw [hw6]; exact heap_old _ (heap_new _ (by show _ = (w5.heap.push _).size; simp [hH]))
    unfold World.cell?
    dsimp only
    rw [hb]
    rfl)
  replace HDb := Lib.hid (HDb.out.step hgw6)
  have HCc : Hid (w6.cell? ⟨H + 1 + 1, 0, none⟩ = some (.slice ac lc.length cc)) := Lib.hid (by
    have hb : w6.heap[H + 1 + 1]? = some (.cells #[.slice ac lc.length cc] 25 (0, 0)) := by rw [hw6]; exact heap_new _ (by show _ = ((w5.heap.push _).push _).size; simp [hH])
    unfold World.cell?
    dsimp only
    rw [hb]
    rfl)
  replace HDc := Lib.hid (HDc.out.step hgw6)
  replace HS := Lib.hid (HS.out.step hgw6)
  rw [← hw6]
  clear hw6 hgw6 hH
  refine (simulates_any _ _ la lb _ HDa.out.sys HDb.out.sys).mono ?_
  rintro e w7 ⟨rfl, hg⟩
  replace HCa := Lib.hid (hg.cell HCa.out (by simp)); replace HDa := Lib.hid (HDa.out.step hg)
  replace HCb := Lib.hid (hg.cell HCb.out (by simp)); replace HDb := Lib.hid (HDb.out.step hg)
  replace HCc := Lib.hid (hg.cell HCc.out (by simp)); replace HDc := Lib.hid (HDc.out.step hg)
  replace HS := Lib.hid (HS.out.step hg)
  obtain ⟨p, hp⟩ : ∃ p, grB (la.map Prod.snd) (lb.map Prod.snd) = p := ⟨_, rfl⟩
  rw [hp]
  have Hp := Lib.hid hp
  clear hp hg
  have ca0 := HCa.out
  have cb0 := HCb.out
  have cc0 := HCc.out
  go_wp2_with fail
  clear ca0 cb0 cc0
  refine (simulates_any _ _ lb lc _ HDb.out.sys HDc.out.sys).mono ?_
  rintro e w8 ⟨rfl, hg⟩
  replace HCa := Lib.hid (hg.cell HCa.out (by simp)); replace HDa := Lib.hid (HDa.out.step hg)
  replace HCb := Lib.hid (hg.cell HCb.out (by simp)); replace HDb := Lib.hid (HDb.out.step hg)
  replace HCc := Lib.hid (hg.cell HCc.out (by simp)); replace HDc := Lib.hid (HDc.out.step hg)
  replace HS := Lib.hid (HS.out.step hg)
  obtain ⟨q, hq⟩ : ∃ q, grB (lb.map Prod.snd) (lc.map Prod.snd) = q := ⟨_, rfl⟩
  rw [hq]
  have Hq := Lib.hid hq
  clear hq hg
  have ca0 := HCa.out
  have cb0 := HCb.out
  have cc0 := HCc.out
  go_wp2_with fail
  clear ca0 cb0 cc0
  refine (simulates_any _ _ la lc _ HDa.out.sys HDc.out.sys).mono ?_
  rintro e w9 ⟨rfl, hg⟩
  replace HCa := Lib.hid (hg.cell HCa.out (by simp)); replace HDa := Lib.hid (HDa.out.step hg)
  replace HCb := Lib.hid (hg.cell HCb.out (by simp)); replace HDb := Lib.hid (HDb.out.step hg)
  replace HCc := Lib.hid (hg.cell HCc.out (by simp)); replace HDc := Lib.hid (HDc.out.step hg)
  replace HS := Lib.hid (HS.out.step hg)
  obtain ⟨r, hr⟩ : ∃ r, grB (la.map Prod.snd) (lc.map Prod.snd) = r := ⟨_, rfl⟩
  rw [hr]
  have Hr := Lib.hid hr
  clear hr hg
  have ca0 := HCa.out
  have cb0 := HCb.out
  have cc0 := HCc.out
  go_wp2_with fail
  clear ca0 cb0 cc0
  refine (simulates_any _ _ la la _ HDa.out.sys HDa.out.sys).mono ?_
  rintro e w10 ⟨rfl, hg⟩
  replace HCa := Lib.hid (hg.cell HCa.out (by simp)); replace HDa := Lib.hid (HDa.out.step hg)
  replace HCb := Lib.hid (hg.cell HCb.out (by simp)); replace HDb := Lib.hid (HDb.out.step hg)
  replace HCc := Lib.hid (hg.cell HCc.out (by simp)); replace HDc := Lib.hid (HDc.out.step hg)
  replace HS := Lib.hid (HS.out.step hg)
  obtain ⟨o, ho⟩ : ∃ o, grB (la.map Prod.snd) (la.map Prod.snd) = o := ⟨_, rfl⟩
  rw [ho]
  have Ho := Lib.hid ho
  clear ho hg
  have ca0 := HCa.out
  have cb0 := HCb.out
  have cc0 := HCc.out
  go_wp2_with fail
  clear ca0 cb0 cc0
  obtain rfl : o = true := by rw [← Ho.out]; exact grB_iff.2 (gr_refl _ _)
  have HLB : Hid (∀ l ∈ la.map Prod.snd, ∀ p ∈ l, 0 ≤ p.1 ∧ p.1 < 3) := Lib.hid (rows_lab HDa.out.ok)
  have HSG := Lib.hid HDa.out.sys
  refine wp_told (SimA (.agg #[.slice aa la.length ca]) true) (by kernel_rfl) (by kernel_rfl) SimA.mono ?_ ?_
  · refine ⟨?_, ?_, ?_, ?_, ?_, ?_, ?_, ?_, trivial⟩
    · intro x wt hx hg hd
      have e0 : x.eval (.tmp 4) = .pointer (some ⟨H, 0, none⟩) := (hx.eval (s := 4) (by decide)).trans rfl
      have c0 := hg.cell HCa.out (by simp)
      refine .inl ⟨wanted_noI rfl, ?_⟩
      unfold Oper.wp
      simp only [execOp, e0]
      go_simp
      exact ⟨_, rfl, rfl, grown_refl _ _⟩
    · intro x wt hx hg hd
      exact .inl ⟨wanted_noI rfl, oper_callI 53 16 _ _ _ _ _ _ Try.f16 _ Try.func16 (by kernel_rfl) rfl [] rfl _ (all_any wt) (fun e w4 hh => by obtain ⟨aa, cc, ls, rfl, hb, hm, hg2⟩ := hh; exact ⟨_, rfl, _, rfl, ⟨ls, ⟨⟨_, rfl, hb.sys⟩, all_good hm⟩, hm⟩, hg2⟩)⟩
    · intro x wt hx hg hd
      have e1 : x.eval (.tmp 52) = (.agg #[.slice aa la.length ca]) := hd 0 (by decide) 52 rfl
      obtain ⟨ls, hls, hma⟩ : AllW wt (x.eval (.tmp 53)) := hd 1 (by decide) 53 rfl
      obtain ⟨va, hva⟩ : ∃ va, x.eval (.tmp 53) = va := ⟨_, rfl⟩
      rw [hva] at hls
      refine .inl ⟨wanted_noI rfl, oper_callI 54 25 _ _ _ _ _ _ Try.f25 _ Try.func25 (by kernel_rfl) rfl [(.agg #[.slice aa la.length ca]), va] (by simp only [List.map_cons, List.map_nil]; rw [e1, hva]) _ (simulates_any (.agg #[.slice aa la.length ca]) va la ls wt (HSG.out.same hg) hls) (fun e w4 hh => ⟨_, hh.1, _, rfl, ?_, hh.2⟩)⟩
      (show Value.tuple #[.bool (grB (la.map Prod.snd) (ls.map Prod.snd)), .int .i64 0] = _; rw [hma, grB_iff.2 (gr_all HLB.out 0)])
    · intro x wt hx hg hd
      have e0 : x.eval (.tmp 54) = .tuple #[.bool true, .int .i64 0] := hd 2 (by decide) 54 rfl
      refine .inl ⟨wanted_noI rfl, ?_⟩
      unfold Oper.wp
      simp only [execOp, e0]
      go_simp
      exact ⟨_, rfl, rfl, grown_refl _ _⟩
    · intro x wt hx hg hd
      have e0 : x.eval (.tmp 51) = .tuple #[.bool true, .int .i64 0] := hd 3 (by decide) 51 rfl
      refine .inl ⟨wanted_noI rfl, ?_⟩
      unfold Oper.wp
      simp only [execOp, e0]
      go_simp
      exact ⟨_, rfl, rfl, grown_refl _ _⟩
    · intro x wt hx hg hd
      have e0 : x.eval (.tmp 51) = .tuple #[.bool true, .int .i64 0] := hd 3 (by decide) 51 rfl
      refine .inl ⟨wanted_noI rfl, ?_⟩
      unfold Oper.wp
      simp only [execOp, e0]
      go_simp
      exact ⟨_, rfl, rfl, grown_refl _ _⟩
    · intro x wt hx hg hd
      have e0 : x.eval (.tmp 55) = .bool true := hd 4 (by decide) 55 rfl
      refine .inl ⟨wanted_noI rfl, ?_⟩
      unfold Oper.wp
      simp only [execOp, e0]
      go_simp
      exact ⟨_, rfl, rfl, grown_refl _ _⟩
    · intro x wt hx hg hd
      have e0 : x.eval (.tmp 56) = .int .i64 0 := hd 5 (by decide) 56 rfl
      refine .inl ⟨wanted_noI rfl, ?_⟩
      unfold Oper.wp
      simp only [execOp, e0]
      go_simp
      exact ⟨_, rfl, rfl, grown_refl _ _⟩
  intro vs w11 g11 hv
  have e6 : vs 6 = .bool true := hv 6 15 rfl
  have e7 : vs 7 = .int .i64 0 := hv 7 16 rfl
  simp only [putAll, Nat.reduceAdd, e6, e7]
  replace HS := Lib.hid (HS.out.step g11)
  clear hv e6 e7 g11 HSG
  cases p with
  | false =>
    clear Hp
    go_simp
    go_wp2_with fail
    go_ret
    exact ⟨rfl, HS.out.below⟩
  | true =>
    cases q with
    | false =>
      clear Hp Hq
      go_simp
      go_wp2_with fail
      go_ret
      exact ⟨rfl, HS.out.below⟩
    | true =>
      obtain rfl : r = true := by
        rw [← Hr.out]
        exact grB_iff.2 (gr_trans HDb.out.vs (by rw [List.length_map]; exact HDb.out.one) (grB_iff.1 Hp.out) (grB_iff.1 Hq.out))
      clear Hp Hq Hr
      go_simp
      go_wp2_with fail
      go_ret
      exact ⟨rfl, HS.out.below⟩

/-! ### SimulateOrder: the statement, from its walk -/
set_option maxRecDepth 100000 in
theorem liftedSimulateOrder (os : Os) (started : os.Started) (H : Type) (enc : TypeId × Value → H) :
    ReturnsInHanded {} Try.checked os 7 .any (Rows.simulateOrderSpec.pre6 enc Try.prog Try.f7 Rows.simulateOrderRow.domain false) (Rows.simulateOrderSpec.post enc Try.prog Try.f7 false true false false) := by
  refine returnsInHanded_of_change (C := Try.checked) own started (by kernel_rfl) Try.func7
    (ChangeSpec.witness6 (enc := enc) (C := Try.checked) false ⟨#[], #[.slice none 0 0], []⟩ 8 (by kernel_rfl) (by kernel_rfl) (by kernel_rfl) (by kernel_rfl)) ?_
  intro W base args ds gs before hval0 hW hcnd _
  have hval : ∀ (j : Nat) t v, Try.f7.params[j]? = some t → args[j]? = some v → Value.okWide Try.prog W .any base t v := hval0
  have hW' := hW
  obtain ⟨p, q, hA0, hV, rfl, hfz, hnd⟩ := hW
  have hA : DataW.TrodAll enc Try.prog W 0 (fun _ => true) true Try.f7.params.toList args.toList ds p := hA0
  rw [Try.params7] at hA hval
  obtain ⟨v0, vs0, d0, ds0, p0, q0, hargs, rfl, rfl, h0, r0⟩ := trodAll_cons hA
  obtain ⟨rfl, rfl, rfl⟩ := trodAll_nil r0
  obtain rfl : args = #[v0] := by cases args; simp_all
  obtain ⟨rfl, rfl⟩ := trodVars_none hV
  obtain ⟨a0, len0, cap0, rfl⟩ := okWide_slice Try.underlying22 (hval 0 22 v0 rfl rfl)
  have k0 := h0
  have lt0 : ∀ x ∈ p0, x.block < W.heap.size := by obtain ⟨m, hm⟩ := k0; exact DataW.trod_lt m _ _ _ hm
  obtain ⟨z0, w0⟩ : ∃ zs, IsRow .u8 W a0 len0 cap0 zs := by
    obtain ⟨fuel, hf⟩ := h0
    rcases open_ints Try.underlying22 Try.underlying5 (by kernel_rfl) hf with ⟨hcs, _⟩ | ⟨x, l, c, zs, hcs, _, hl, hm, hz, _, hcell, hwz⟩
    · simp [Value.cells] at hcs
      obtain ⟨rfl, rfl, rfl⟩ := hcs
      exact ⟨[], .inl ⟨rfl, rfl, rfl, rfl⟩⟩
    · simp [Value.cells] at hcs
      obtain ⟨rfl, rfl, rfl⟩ := hcs
      exact ⟨zs, .inr ⟨_, rfl, hl, hm, by simpa using hz, hcell, hwz⟩⟩
  clear hA0 hval0
  refine (walkSimulateOrder a0 len0 cap0 z0 W w0).mono fun e W' ⟨he, bel⟩ => ?_
  subst he
  exact ⟨_, rfl, _, _, _, [], _, [], hW', trodAll_mk1 (shut_bool Try.underlying4 _), (trodAll_cons_mk (Below.trod laidOut (by kernel_rfl) (of_decide_eq_true (by kernel_rfl)) k0 bel lt0) trodAll_mk0), rfl, bel.frame _, fun h => by cases h⟩

theorem simulateOrder_holds : Rows.SimulateOrderSaid :=
  OpenClaim.holds_of_wide 7 Try.f7 rfl rfl rfl rfl rfl rfl rfl ⟨rfl, rfl, rfl, rfl, rfl⟩ rfl rfl rfl rfl rfl (by kernel_rfl) Try.func7 (by kernel_rfl)
    (of_decide_eq_true (by kernel_rfl)) (by unfold Func.isWrapper; first | (rw [if_pos (by decide +kernel)]; kernel_rfl) | (rw [if_neg (by decide +kernel)]; exact ⟨rfl, rfl⟩))
    (fun os started H enc _ => liftedSimulateOrder os started H enc)
#print axioms simulateOrder_holds
end Go.Proofs.Ytelpkcndbcfaiaa
