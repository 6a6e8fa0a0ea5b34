/- LimitBack: for every input the statement answers true (complements undo each other). No condition. -/
import Derived.Test.YtahffjoehjpfkaaZt
import Derived.Deep.Matrix
namespace Go.Proofs.Ytahffjoehjpfkaa
open Go.ChangeShapes Go.WideShapes Go.ChangeAt Go.RowKit Go.Deep
set_option linter.unusedVariables false

set_option maxRecDepth 100000 in
set_option maxHeartbeats 4000000 in
theorem walkLimitBack (a0 : Option Addr) (len0 cap0 : Nat) (z0 : List Int) (w : World) (w0 : IsRow .i64 w a0 len0 cap0 z0) :
    Calls Try.prog 4 #[.slice a0 len0 cap0] w fun e w' => e = .returned (.bool true) ∧ Below w.heap.size w w' := by
  obtain ⟨hI, hlen⟩ := w0.ints
  generalize z0.take len0 = zs at hI hlen
  subst hlen
  have HI := Lib.hid hI
  clear hI w0
  by_cases hfew : (zs.length : Int) ≤ 400
  case neg =>
    go_enter Try.func4, Try.ntmps4
    go_wp2_with fail
    refine (awake08_any _).mono ?_
    rintro e w1 ⟨rfl, hg⟩
    have HG := Lib.hid hg
    clear hg
    go_wp2_with fail
    refine (few_any _ _ _ _).mono ?_
    rintro e w2 ⟨rfl, rfl⟩
    rw [decide_eq_false (by omega)]
    go_wp2_with fail
    refine (awake08_any _).mono ?_
    rintro e w9 ⟨rfl, hg⟩
    have HGX := Lib.hid (grown_trans HG.out hg)
    clear hg
    go_wp2_with fail
    go_ret
    exact ⟨rfl, below_of HGX.out⟩
  go_enter Try.func4, Try.ntmps4
  go_wp2_with fail
  refine (awake08_any _).mono ?_
  rintro e w1 ⟨rfl, hg⟩
  have HG := Lib.hid hg
  clear hg
  go_wp2_with fail
  refine (few_any _ _ _ _).mono ?_
  rintro e w2 ⟨rfl, rfl⟩
  rw [decide_eq_true hfew]
  go_wp2_with fail
  refine (new_st (HI.out.same HG.out) HG.out).mono ?_
  rintro e w6 ⟨p, d, rfl, hs⟩
  have HS := Lib.hid hs
  clear hs
  go_wp2_with fail
  refine (next_st HS.out _ (by omega) (by omega)).mono ?_
  rintro e w7 ⟨y, rfl, hy0, hy1, hs, hg⟩
  replace HS := Lib.hid hs
  clear hs hg
  obtain ⟨m, hm⟩ : ∃ m : Nat, 1 + y = (m : Int) := ⟨(1 + y).toNat, by omega⟩
  have hm1 : 1 ≤ m := by omega
  have hm2 : m ≤ 3 := by omega
  have im : IntKind.i64.wrap (1 + y) = (m : Int) := by rw [hm]; exact IntWalk.i64_in _ (by omega)
  clear hm hy0 hy1
  go_wp2_with fail
  refine (corners_ev HS.out m 3 (by omega) (by omega) (by omega)).mono ?_
  rintro e w11 ⟨v1, p1, rfl, hev, hgd, hpl, hpn, hs, hg⟩
  replace HS := Lib.hid hs
  have EV := Lib.hid hev; have PN := Lib.hid hpn
  obtain ⟨a1, c1, rfl⟩ : ∃ a c, v1 = .slice a p1.length c := by obtain ⟨a, c, h, -⟩ := hev.at; exact ⟨a, c, h⟩
  have hp5 : p1.length ≤ 3 := by omega
  clear hev hgd hpl hpn hs hg im
  go_wp2_with fail
  refine (below_any m _ p1 _ EV.out.at (by omega) (by omega) (by omega) (fun q hq => ⟨(PN.out q hq).1, small_fin (by omega) (PN.out q hq).1 (fun x hx => by have := (PN.out q hq).2 x hx; omega)⟩)).mono ?_
  rintro e w12 ⟨R, hc, hn, hg, hcase⟩
  have CN : Hid (∀ v ∈ p1.map Prod.snd, v.length = m ∧ ∀ x ∈ v, 0 ≤ x ∧ x ≤ 3) := Lib.hid (fun v hv => by obtain ⟨q, hq, rfl⟩ := List.mem_map.1 hv; exact PN.out q hq)
  have hk : LimOk m R := chain_ok (l := p1.map Prod.snd) hm1 (by omega) CN.out hc
  rcases hcase with ⟨h5, u1, q1, rfl, hr, hgq, rfl, hnew⟩ | ⟨h5, rfl⟩
  case inr => exact absurd hk.few (by omega)
  replace HS := Lib.hid (HS.out.step hg)
  have EQ := Lib.hid hr; have K1 := Lib.hid hk; have C1 := Lib.hid hc
  have I1 : Hid (∀ v ∈ q1.map Prod.snd, v.length = m ∧ ∀ x ∈ v, In4 x) := Lib.hid (fun v hv => ⟨(K1.out.rows v hv).1, chain_in4 _ _ CN.out C1.out v hv⟩)
  obtain ⟨b1, d1, rfl⟩ : ∃ a c, u1 = .slice a q1.length c := by obtain ⟨a, c, h, -⟩ := hr; exact ⟨a, c, h⟩
  clear hr hgq hg hnew hk hc hn h5 EV PN
  by_cases hq12 : q1.length ≤ 12
  case neg =>
    have g1 : (12 : Int) < (q1.length : Int) := by omega
    go_wp2_with fail
    go_ret
    exact ⟨rfl, below_of HS.out.2.1⟩
  have g1 : ¬ (12 : Int) < (q1.length : Int) := by omega
  go_wp2_with fail
  refine (above_ok m _ q1 _ EQ.out hm1 (by omega) hq12 (fun q hq => K1.out.rows _ (List.mem_map_of_mem hq)) (fun R hR => above_few (by omega) I1.out hR)).mono ?_
  rintro e w21 ⟨R2, v2, q2, hc2, hn2, rfl, hr2, hgq2, rfl, hg2, hnew2⟩
  replace HS := Lib.hid (HS.out.step hg2); replace EQ := Lib.hid (EQ.out.same hg2)
  have E2 := Lib.hid hr2; have C2 := Lib.hid hc2
  have I2 : Hid (∀ v ∈ q2.map Prod.snd, v.length = m ∧ ∀ x ∈ v, In3 x) := Lib.hid (fun v hv => ⟨hn2 v hv, chain_in3 _ _ I1.out hc2 v hv⟩)
  obtain ⟨b2, d2, rfl⟩ : ∃ a c, v2 = .slice a q2.length c := by obtain ⟨a, c, h, -⟩ := hr2; exact ⟨a, c, h⟩
  clear hc2 hn2 hr2 hgq2 hg2 hnew2
  by_cases hu12 : q2.length ≤ 12
  case neg =>
    have g2 : (12 : Int) < (q2.length : Int) := by omega
    go_wp2_with fail
    go_ret
    exact ⟨rfl, below_of HS.out.2.1⟩
  have g2 : ¬ (12 : Int) < (q2.length : Int) := by omega
  go_wp2_with fail
  refine (below_any m _ q2 _ E2.out hm1 (by omega) hu12 (fun q hq => ⟨(I2.out _ (List.mem_map_of_mem hq)).1, in3_fin (by omega) (I2.out _ (List.mem_map_of_mem hq)).1 (I2.out _ (List.mem_map_of_mem hq)).2⟩)).mono ?_
  rintro e w31 ⟨R3, hc3, hn3, hg3, hcase⟩
  have hk3 : LimOk m R3 := chain_ok (l := q2.map Prod.snd) hm1 (by omega) (fun v hv => ⟨(I2.out v hv).1, fun x hx => by have := (I2.out v hv).2 x hx; unfold In3 at this; omega⟩) hc3
  rcases hcase with ⟨h5, u3, q3, rfl, hr3, hgq3, rfl, hnew3⟩ | ⟨h5, rfl⟩
  case inr => exact absurd hk3.few (by omega)
  have HEQ : Hid ((q3.map Prod.snd == q1.map Prod.snd) = true) := Lib.hid (by rw [chain_back CN.out C1.out C2.out hc3]; simp)
  replace HS := Lib.hid (HS.out.step hg3); replace EQ := Lib.hid (EQ.out.same hg3)
  have E3 := Lib.hid hr3
  obtain ⟨b3, d3, rfl⟩ : ∃ a c, u3 = .slice a q3.length c := by obtain ⟨a, c, h, -⟩ := hr3; exact ⟨a, c, h⟩
  clear hk3 h5 hr3 hgq3 hnew3 hc3 hn3 hg3
  go_wp2_with fail
  refine (sameall_any _ _ q3 q1 _ E3.out EQ.out).mono ?_
  rintro e w32 ⟨rfl, hd⟩
  rw [HEQ.out]
  have G := Lib.hid (hd.grown none)
  clear hd
  go_wp2_with fail
  go_ret
  exact ⟨rfl, below_of (grown_trans HS.out.2.1 G.out)⟩

/-! ### LimitBack: the statement, from its walk -/
set_option maxRecDepth 100000 in
theorem liftedLimitBack (os : Os) (started : os.Started) (H : Type) (enc : TypeId × Value → H) :
    ReturnsInHanded {} Try.checked os 4 .any (Rows.limitBackSpec.pre6 enc Try.prog Try.f4 Rows.limitBackRow.domain false) (Rows.limitBackSpec.post enc Try.prog Try.f4 false true false false) := by
  refine returnsInHanded_of_change (C := Try.checked) own started (by kernel_rfl) Try.func4
    (ChangeSpec.witness6 (enc := enc) (C := Try.checked) false ⟨#[], #[.slice none 0 0], []⟩ 8 (by kernel_rfl) (by kernel_rfl) (by kernel_rfl) (by kernel_rfl)) ?_
  intro W base args ds gs before hval0 hW hcnd _
  have hval : ∀ (j : Nat) t v, Try.f4.params[j]? = some t → args[j]? = some v → Value.okWide Try.prog W .any base t v := hval0
  have hW' := hW
  obtain ⟨p, q, hA0, hV, rfl, hfz, hnd⟩ := hW
  have hA : DataW.TrodAll enc Try.prog W 0 (fun _ => true) true Try.f4.params.toList args.toList ds p := hA0
  rw [Try.params4] at hA hval
  obtain ⟨v0, vs0, d0, ds0, p0, q0, hargs, rfl, rfl, h0, r0⟩ := trodAll_cons hA
  obtain ⟨rfl, rfl, rfl⟩ := trodAll_nil r0
  obtain rfl : args = #[v0] := by cases args; simp_all
  obtain ⟨rfl, rfl⟩ := trodVars_none hV
  obtain ⟨a0, len0, cap0, rfl⟩ := okWide_slice Try.underlying22 (hval 0 22 v0 rfl rfl)
  have k0 := h0
  have lt0 : ∀ x ∈ p0, x.block < W.heap.size := by obtain ⟨m, hm⟩ := k0; exact DataW.trod_lt m _ _ _ hm
  obtain ⟨z0, w0⟩ : ∃ zs, IsRow .i64 W a0 len0 cap0 zs := by
    obtain ⟨fuel, hf⟩ := h0
    rcases open_ints Try.underlying22 Try.underlying3 (by kernel_rfl) hf with ⟨hcs, _⟩ | ⟨x, l, c, zs, hcs, _, hl, hm, hz, _, hcell, hwz⟩
    · simp [Value.cells] at hcs
      obtain ⟨rfl, rfl, rfl⟩ := hcs
      exact ⟨[], .inl ⟨rfl, rfl, rfl, rfl⟩⟩
    · simp [Value.cells] at hcs
      obtain ⟨rfl, rfl, rfl⟩ := hcs
      exact ⟨zs, .inr ⟨_, rfl, hl, hm, by simpa using hz, hcell, hwz⟩⟩
  clear hA0 hval0
  refine (walkLimitBack a0 len0 cap0 z0 W w0).mono fun e W' ⟨he, bel⟩ => ?_
  subst he
  exact ⟨_, rfl, _, _, _, [], _, [], hW', trodAll_mk1 (shut_bool Try.underlying4 _), (trodAll_cons_mk (Below.trod laidOut (by kernel_rfl) (of_decide_eq_true (by kernel_rfl)) k0 bel lt0) trodAll_mk0), rfl, bel.frame _, fun h => by cases h⟩

theorem limitBack_holds : Rows.LimitBackSaid :=
  OpenClaim.holds_of_wide 4 Try.f4 rfl rfl rfl rfl rfl rfl rfl ⟨rfl, rfl, rfl, rfl, rfl⟩ rfl rfl rfl rfl rfl (by kernel_rfl) Try.func4 (by kernel_rfl)
    (of_decide_eq_true (by kernel_rfl)) (by unfold Func.isWrapper; first | (rw [if_pos (by decide +kernel)]; kernel_rfl) | (rw [if_neg (by decide +kernel)]; exact ⟨rfl, rfl⟩))
    (fun os started H enc _ => liftedLimitBack os started H enc)
#print axioms limitBack_holds
end Go.Proofs.Ytahffjoehjpfkaa
