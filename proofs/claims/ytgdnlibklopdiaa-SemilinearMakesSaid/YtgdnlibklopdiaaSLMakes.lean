/- SemilinearMakes: for every input it answers true. -/
import Derived.Test.YtgdnlibklopdiaaTl
namespace Go.Proofs.Ytgdnlibklopdiaa
open Go.ChangeShapes Go.WideShapes Go.ChangeAt Go.RowKit
set_option linter.unusedVariables false

set_option maxRecDepth 100000 in
set_option maxHeartbeats 1500000 in
theorem walkSemilinearMakes (a0 : Option Addr) (len0 cap0 : Nat) (z0 : List Int) (w : World) (w0 : IsRow .i64 w a0 len0 cap0 z0) :
    Calls Try.prog 9 #[.slice a0 len0 cap0] w fun e w' => e = .returned (.bool true) ∧ Below w.heap.size w w' := by
  obtain ⟨hI, hlen⟩ := w0.ints
  generalize z0.take len0 = zs at hI hlen
  subst hlen
  have HI := Lib.hid hI
  clear hI w0
  by_cases hfew : (zs.length : Int) ≤ 400
  · go_enter Try.func9, Try.ntmps9
    go_wp2_with fail
    refine (awake13_any _).mono ?_
    rintro e w1 ⟨rfl, hg⟩
    have HG := Lib.hid hg
    clear hg
    go_wp2_with fail
    refine (few_any _ _ _ _).mono ?_
    rintro e w2 ⟨rfl, rfl⟩
    rw [decide_eq_true hfew]
    go_wp2_with fail
    refine (new_st (HI.out.same HG.out) HG.out).mono ?_
    rintro e w3 ⟨p, d, rfl, hs⟩
    have HS := Lib.hid hs
    clear hs HG HI
    go_wp2_with fail
    refine (next_st HS.out _ (by omega) (by omega)).mono ?_
    rintro e w4 ⟨y, rfl, hy0, hy1, hs, hg⟩
    replace HS := Lib.hid hs
    clear hs hg
    obtain ⟨n, hn⟩ : ∃ n : Nat, 1 + y = (n : Int) := ⟨(1 + y).toNat, by omega⟩
    have hn1 : 1 ≤ n := by omega
    have hn4 : n ≤ 4 := by omega
    go_wp2_with fail
    refine (linear_st HS.out n hn1 (by omega)).mono ?_
    rintro e w5 ⟨u, B, P, rfl, hlin, hs, hg⟩
    obtain ⟨au, cu, pu, qu, rfl⟩ := hlin.open
    replace HS := Lib.hid hs; have Vu := Lib.hid hlin
    clear hs hg hlin
    clear hn hy0 hy1
    go_wp2_with fail
    have hx := BoxD.new (x := .slice au B.length cu) (y := .slice pu P.length qu) (e := 49) HS.out.lt
    have hg := World.grownBy_alloc w5 (.cells #[.slice au B.length cu, .slice pu P.length qu] 49) none
    replace Vu := Lib.hid (Vu.out.step hg)
    replace HS := Lib.hid (HS.out.step hg); have Vx := Lib.hid hx
    clear hg hx
    have x0 := Vx.out.1
    have x1 := Vx.out.2.1
    have hP3 : P.length ≤ 3 := Vu.out.valid.2.2.2.2.2.1
    go_wp2_with fail
    refine (small_rv HS.out P.length 4 (by omega) (by omega) (by omega)).mono ?_
    rintro e w6 ⟨t, T, rfl, hlT, hpT, hv, hs, hg⟩
    replace Vu := Lib.hid (Vu.out.deal hg)
    replace Vx := Lib.hid (Vx.out.deal hg)
    have Vt := Lib.hid hv; replace HS := Lib.hid hs; have LT := Lib.hid hlT; have PT := Lib.hid hpT
    clear hv hs hg hlT hpT
    clear x0 x1
    have x0 := Vx.out.1
    have x1 := Vx.out.2.1
    go_wp2_with fail
    have HTL : Hid (T.length = P.length) := Lib.hid LT.out
    have HT4 : Hid (∀ t ∈ T, 0 ≤ t ∧ t ≤ 64) := Lib.hid (fun t ht => by have := PT.out t ht; omega)
    refine (made_any n _ _ B T P _ Vu.out.lin Vu.out.valid Vt.out.1 HTL.out HT4.out).mono ?_
    rintro e w7 ⟨m, rfl, ho, hg⟩
    have HMM := Lib.hid (Vu.out.made (ts := T) PT.out)
    have hvm := ho.row (fun x hx => by have := HMM.out.2 x hx; omega)
    have HSOL : Hid (Sol P T (lessL (madeL B P T) B)) := Lib.hid ((sol_made HMM.out.1 P T B (fun p hp => (Vu.out.per p hp).1.1.1) Vu.out.valid.2.2.1).2 ⟨HTL.out, fun t ht => (PT.out t ht).1, rfl⟩)
    generalize hMM : madeL B P T = M at *
    have HM := Lib.hid hMM
    clear hMM
    clear x0 x1
    replace Vu := Lib.hid (Vu.out.step hg)
    replace Vx := Lib.hid (Vx.out.step hg)
    replace Vt := Lib.hid (Vt.out.step hg)
    have Vm := Lib.hid hvm; replace HS := Lib.hid (HS.out.step hg)
    clear ho hg hvm
    obtain ⟨⟨am, cm, hm, -⟩, -⟩ := Vm.out
    dsimp only at hm
    subst hm
    have H64 : Hid (withB 64 M = true) := Lib.hid (withB_iff.2 fun x hx => by have := HMM.out.2 x hx; omega)
    have x0 := Vx.out.1
    have x1 := Vx.out.2.1
    go_wp2_with fail
    refine (Times_any n _ _ B M P _ Vu.out.lin Vu.out.valid Vm.out HMM.out.1 H64.out).mono ?_
    rintro e w8 ⟨r, hlst, vk, rfl, ho, hg⟩
    obtain ⟨K, rfl⟩ : ∃ K, r = some K := by
      cases r with
      | none => exact absurd HSOL.out (hlst T)
      | some K => exact ⟨K, rfl⟩
    dsimp only [Option.isSome_some, Option.getD_some] at ho ⊢
    have HK := Lib.hid ((sol_made HMM.out.1 P K B (fun p hp => (Vu.out.per p hp).1.1.1) Vu.out.valid.2.2.1).1 hlst.1)
    have HK64 : Hid (∀ k ∈ K, 0 ≤ k ∧ k ≤ 64) := Lib.hid (hlst.1.le (n := n) (fun p hp => ⟨(Vu.out.per p hp).1.1, (Vu.out.per p hp).1.2.1⟩) (lessL_len Vu.out.valid.2.2.1 HMM.out.1) (fun x hx => (lessL_bd HMM.out.1 Vu.out.valid.2.2.1 H64.out Vu.out.valid.2.2.2.1 x hx).2))
    have hcmp : compareI K T ≤ 0 := by rw [compare_lex (by rw [HK.out.1, HTL.out])]; exact hlst.2 T HSOL.out
    have HC := Lib.hid hcmp
    have hvk := ho.row (fun x hx => by have := HK64.out x hx; omega)
    obtain ⟨ak, ck, rfl⟩ := ho.slice
    clear x0 x1
    replace Vu := Lib.hid (Vu.out.step hg)
    replace Vx := Lib.hid (Vx.out.step hg)
    replace Vt := Lib.hid (Vt.out.step hg)
    replace Vm := Lib.hid (Vm.out.same hg)
    have Vk := Lib.hid hvk; replace HS := Lib.hid (HS.out.step hg)
    clear ho hg hvk hlst hcmp
    have x0 := Vx.out.1
    have x1 := Vx.out.2.1
    go_wp2_with fail
    refine (proves_any n _ _ _ B M K P _ Vu.out.lin Vu.out.valid Vm.out Vk.out HK.out.1 HK64.out).mono ?_
    rintro e w9 ⟨rfl, hg⟩
    rw [show (madeL B P K == M) = true by rw [HK.out.2.2]; simp]
    clear x0 x1
    replace Vu := Lib.hid (Vu.out.step hg)
    replace Vx := Lib.hid (Vx.out.step hg)
    replace Vt := Lib.hid (Vt.out.step hg)
    replace Vm := Lib.hid (Vm.out.same hg)
    replace Vk := Lib.hid (Vk.out.same hg)
    replace HS := Lib.hid (HS.out.step hg)
    clear hg
    have x0 := Vx.out.1
    have x1 := Vx.out.2.1
    go_wp2_with fail
    refine (proves_any n _ _ _ B M T P _ Vu.out.lin Vu.out.valid Vm.out Vt.out.1 HTL.out HT4.out).mono ?_
    rintro e w10 ⟨rfl, hg⟩
    rw [show (madeL B P T == M) = true by rw [HM.out]; simp]
    clear x0 x1
    replace Vu := Lib.hid (Vu.out.step hg)
    replace Vx := Lib.hid (Vx.out.step hg)
    replace Vt := Lib.hid (Vt.out.step hg)
    replace Vm := Lib.hid (Vm.out.same hg)
    replace Vk := Lib.hid (Vk.out.same hg)
    replace HS := Lib.hid (HS.out.step hg)
    clear hg
    have x0 := Vx.out.1
    have x1 := Vx.out.2.1
    go_wp2_with fail
    refine (rcompare_any _ _ K T _ Vk.out.1 Vt.out.1.1).mono ?_
    rintro e w11 ⟨rfl, hd⟩
    have hg := hd.grown none
    clear x0 x1
    replace Vu := Lib.hid (Vu.out.step hg)
    replace Vx := Lib.hid (Vx.out.step hg)
    replace Vt := Lib.hid (Vt.out.step hg)
    replace Vm := Lib.hid (Vm.out.same hg)
    replace Vk := Lib.hid (Vk.out.same hg)
    replace HS := Lib.hid (HS.out.step hg)
    clear hg hd
    have hc0 : decide (compareI K T ≤ 0) = true := by simpa using HC.out
    have hc1 := HC.out
    have x0 := Vx.out.1
    have x1 := Vx.out.2.1
    go_wp2_with fail
    have hE := HMM.out.1
    have hga := World.grownBy_alloc w11 (.cells #[.slice au B.length cu, .slice pu P.length qu] 49) none
    have hcl : CellsS (w11.alloc (.cells #[.slice au B.length cu, .slice pu P.length qu] 49)) w11.heap.size 0 ([((.slice au B.length cu, .slice pu P.length qu), (B, P))].map Prod.fst) := cells_one (heap_new _ rfl)
    refine (has_any M.length w11.heap.size 0 1 [((.slice au B.length cu, .slice pu P.length qu), (B, P))] _ M _ (by omega) (by omega) hcl (by intro u hu; rw [List.mem_singleton.1 hu, hE]; exact Vu.out.ok.same hga) (by simp) (Vm.out.same hga) rfl H64.out).mono ?_
    rintro e w12 ⟨Bo, rfl, hB, hg⟩
    have hB1 : Bo = true := hB.2 ⟨_, List.mem_singleton.2 rfl, T, HSOL.out⟩
    subst hB1
    replace HS := Lib.hid (HS.out.step (grown_trans hga hg))
    clear x0 x1
    clear hB hg hga hcl hE
    go_wp2_with fail
    go_ret
    exact ⟨rfl, HS.out.below⟩
  · go_enter Try.func9, Try.ntmps9
    go_wp2_with fail
    refine (awake13_any _).mono ?_
    rintro e w1 ⟨rfl, hg⟩
    have HG := Lib.hid hg
    clear hg
    go_wp2_with fail
    refine (few_any _ _ _ _).mono ?_
    rintro e w2 ⟨rfl, rfl⟩
    rw [decide_eq_false (by omega)]
    go_wp2_with fail
    refine (awake13_any _).mono ?_
    rintro e w3 ⟨rfl, hg⟩
    have HG := Lib.hid (grown_trans HG.out hg)
    clear hg
    go_wp2_with fail
    go_ret
    exact ⟨rfl, below_of HG.out⟩

/-! ### SemilinearMakes: the statement, from its walk -/
set_option maxRecDepth 100000 in
theorem liftedSemilinearMakes (os : Os) (started : os.Started) (H : Type) (enc : TypeId × Value → H) :
    ReturnsInHanded {} Try.checked os 9 .any (Rows.semilinearMakesSpec.pre6 enc Try.prog Try.f9 Rows.semilinearMakesRow.domain false) (Rows.semilinearMakesSpec.post enc Try.prog Try.f9 false true false false) := by
  refine returnsInHanded_of_change (C := Try.checked) own started (by kernel_rfl) Try.func9
    (ChangeSpec.witness6 (enc := enc) (C := Try.checked) false ⟨#[], #[.slice none 0 0], []⟩ 8 (by kernel_rfl) (by kernel_rfl) (by kernel_rfl) (by kernel_rfl)) ?_
  intro W base args ds gs before hval0 hW hcnd _
  have hval : ∀ (j : Nat) t v, Try.f9.params[j]? = some t → args[j]? = some v → Value.okWide Try.prog W .any base t v := hval0
  have hW' := hW
  obtain ⟨p, q, hA0, hV, rfl, hfz, hnd⟩ := hW
  have hA : DataW.TrodAll enc Try.prog W 0 (fun _ => true) true Try.f9.params.toList args.toList ds p := hA0
  rw [Try.params9] at hA hval
  obtain ⟨v0, vs0, d0, ds0, p0, q0, hargs, rfl, rfl, h0, r0⟩ := trodAll_cons hA
  obtain ⟨rfl, rfl, rfl⟩ := trodAll_nil r0
  obtain rfl : args = #[v0] := by cases args; simp_all
  obtain ⟨rfl, rfl⟩ := trodVars_none hV
  obtain ⟨a0, len0, cap0, rfl⟩ := okWide_slice Try.underlying22 (hval 0 22 v0 rfl rfl)
  have k0 := h0
  have lt0 : ∀ x ∈ p0, x.block < W.heap.size := by obtain ⟨m, hm⟩ := k0; exact DataW.trod_lt m _ _ _ hm
  obtain ⟨z0, w0⟩ : ∃ zs, IsRow .i64 W a0 len0 cap0 zs := by
    obtain ⟨fuel, hf⟩ := h0
    rcases open_ints Try.underlying22 Try.underlying3 (by kernel_rfl) hf with ⟨hcs, _⟩ | ⟨x, l, c, zs, hcs, _, hl, hm, hz, _, hcell, hwz⟩
    · simp [Value.cells] at hcs
      obtain ⟨rfl, rfl, rfl⟩ := hcs
      exact ⟨[], .inl ⟨rfl, rfl, rfl, rfl⟩⟩
    · simp [Value.cells] at hcs
      obtain ⟨rfl, rfl, rfl⟩ := hcs
      exact ⟨zs, .inr ⟨_, rfl, hl, hm, by simpa using hz, hcell, hwz⟩⟩
  clear hA0 hval0
  refine (walkSemilinearMakes a0 len0 cap0 z0 W w0).mono fun e W' ⟨he, bel⟩ => ?_
  subst he
  exact ⟨_, rfl, _, _, _, [], _, [], hW', trodAll_mk1 (shut_bool Try.underlying4 _), (trodAll_cons_mk (Below.trod laidOut (by kernel_rfl) (of_decide_eq_true (by kernel_rfl)) k0 bel lt0) trodAll_mk0), rfl, bel.frame _, fun h => by cases h⟩

theorem semilinearMakes_holds : Rows.SemilinearMakesSaid :=
  OpenClaim.holds_of_wide 9 Try.f9 rfl rfl rfl rfl rfl rfl rfl ⟨rfl, rfl, rfl, rfl, rfl⟩ rfl rfl rfl rfl rfl (by kernel_rfl) Try.func9 (by kernel_rfl)
    (of_decide_eq_true (by kernel_rfl)) (by unfold Func.isWrapper; first | (rw [if_pos (by decide +kernel)]; kernel_rfl) | (rw [if_neg (by decide +kernel)]; exact ⟨rfl, rfl⟩))
    (fun os started H enc _ => liftedSemilinearMakes os started H enc)
#print axioms semilinearMakes_holds
end Go.Proofs.Ytgdnlibklopdiaa
