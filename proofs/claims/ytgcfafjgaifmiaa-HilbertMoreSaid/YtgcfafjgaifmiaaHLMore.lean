/- HilbertMore: for every input it answers true. -/
import Derived.Test.YtgcfafjgaifmiaaEr
import Derived.BigRegion
import Derived.Deep.RegionHeld3
namespace Go.Proofs.Ytgcfafjgaifmiaa
open Go.ChangeShapes Go.WideShapes Go.ChangeAt Go.RowKit
set_option linter.unusedVariables false

set_option maxRecDepth 100000 in
set_option maxHeartbeats 2000000 in
theorem walkHilbertMore (a0 : Option Addr) (len0 cap0 : Nat) (z0 : List Int) (w : World) (w0 : IsRow .i64 w a0 len0 cap0 z0) :
    Calls Try.prog 5 #[.slice a0 len0 cap0] w fun e w' => e = .returned (.bool true) ∧ Below w.heap.size w w' := by
  obtain ⟨hI, hlen⟩ := w0.ints
  generalize z0.take len0 = zs at hI hlen
  subst hlen
  have HI := Lib.hid hI
  clear hI w0
  by_cases hfew : (zs.length : Int) ≤ 400
  · go_enter Try.func5, Try.ntmps5
    go_wp2_with fail
    refine (awake12_any _).mono ?_
    rintro e w1 ⟨rfl, hg⟩
    have HG := Lib.hid hg
    clear hg
    go_wp2_with fail
    refine (few_any _ _ _ _).mono ?_
    rintro e w2 ⟨rfl, rfl⟩
    rw [decide_eq_true hfew]
    go_wp2_with fail
    refine (new_st (HI.out.same HG.out) HG.out).mono ?_
    rintro e w3 ⟨p, d, rfl, hs⟩
    have HS := Lib.hid hs
    clear hs HG HI
    go_wp2_with fail
    refine (next_st HS.out _ (by omega) (by omega)).mono ?_
    rintro e w4 ⟨yr, rfl, hyr0, hyr1, hs, hg⟩
    replace HS := Lib.hid hs
    clear hs hg
    obtain ⟨r, hr⟩ : ∃ r : Nat, 1 + yr = (r : Int) := ⟨(1 + yr).toNat, by omega⟩
    have hr1 : 1 ≤ r := by omega
    have hr2 : r ≤ 2 := by omega
    have ir : IntKind.i64.wrap (1 + yr) = (r : Int) := by rw [hr]; exact IntWalk.i64_in _ (by omega)
    clear hr hyr0 hyr1
    go_wp2_with fail
    refine (next_st HS.out _ (by omega) (by omega)).mono ?_
    rintro e w5 ⟨yc, rfl, hyc0, hyc1, hs, hg⟩
    replace HS := Lib.hid hs
    clear hs hg
    obtain ⟨c, hc⟩ : ∃ c : Nat, 1 + yc = (c : Int) := ⟨(1 + yc).toNat, by omega⟩
    have hc1 : 1 ≤ c := by omega
    have hc2 : c ≤ 4 := by omega
    have ic : IntKind.i64.wrap (1 + yc) = (c : Int) := by rw [hc]; exact IntWalk.i64_in _ (by omega)
    clear hc hyc0 hyc1
    go_wp2_with fail
    clear ir ic
    refine (matrix_st HS.out r c (by omega) (by omega)).mono ?_
    rintro e w6 ⟨vm, ps, rfl, hpl, hdm, hM, hs, hg⟩
    have HMvm := Lib.hid (MatD.mk HS.out hM)
    replace HS := Lib.hid hs; have HOKvm := Lib.hid (dealt_ok hpl hdm hr1 (by omega) hc1 (by omega) (by omega))
    clear hpl hdm hM hs hg
    obtain ⟨aM, cM, rfl⟩ := HMvm.out.slice
    have hpl2 : ps.length ≤ 2 := by have := HOKvm.out.1; omega
    have hpl1 : 1 ≤ ps.length := by have := HOKvm.out.1; omega
    have hpl3 : (ps.length : Int) ≤ 2 := by omega
    go_wp2_with fail
    refine (next_st HS.out _ (by omega) (by omega)).mono ?_
    rintro e w7 ⟨x, rfl, hx0, hx1, hs, hg⟩
    replace HS := Lib.hid hs
    replace HMvm := Lib.hid (HMvm.out.deal hg); clear hs hg
    go_wp2_with fail
    refine (next_st HS.out _ (by omega) (by omega)).mono ?_
    rintro e w8 ⟨y, rfl, hy0, hy1, hs, hg⟩
    replace HS := Lib.hid hs
    replace HMvm := Lib.hid (HMvm.out.deal hg); clear hs hg
    go_wp2_with fail
    have hpt := pair_take (x := x) (y := y) HS.out HOKvm.out.1 hpl1 hpl2 (by omega) (by omega)
    have HG9 := Lib.hid (World.grownBy_alloc w8 (.cells #[.int .i64 x, .int .i64 y] 3) none)
    obtain ⟨bs, hbs⟩ : ∃ bs, bs = [x, y].take ps.length := ⟨_, rfl⟩
    rw [← hbs] at hpt
    have HBO := Lib.hid hpt.1; have VB := Lib.hid hpt.2
    replace HMvm := Lib.hid (HMvm.out.step HG9.out); replace HS := Lib.hid (HS.out.step HG9.out)
    clear hpt hbs hx0 hx1 hy0 hy1 HG9
    generalize w8.alloc (.cells #[.int .i64 x, .int .i64 y] 3) = w9 at *
    refine (next_st HS.out _ (by omega) (by omega)).mono ?_
    rintro e w9' ⟨yn, rfl, hn0, hn1, hs, hg⟩
    replace HS := Lib.hid hs; replace HMvm := Lib.hid (HMvm.out.deal hg); replace VB := Lib.hid (VB.out.deal hg)
    clear hs hg
    obtain ⟨n, rfl⟩ : ∃ n : Nat, yn = (n : Int) := ⟨yn.toNat, by omega⟩
    have hn4 : n ≤ 4 := by omega
    obtain ⟨m, hm⟩ : ∃ m : Nat, m = n + 1 := ⟨_, rfl⟩
    have im : IntKind.i64.wrap ((n : Int) + 1) = (m : Int) := by rw [show (n : Int) + 1 = (m : Int) by omega]; exact IntWalk.i64_in _ (by omega)
    have hm10 : m ≤ 5 := by omega
    have HMN := Lib.hid hm
    clear hn0 hn1 hm
    go_wp2_with fail
    refine (Minimal_any HMvm.out.rows HOKvm.out (by omega) (by omega) VB.out.1 HBO.out (by omega)).mono ?_
    rintro e w10 ⟨vq, qs, rfl, ho, hq, hg⟩
    have Mqs := Lib.hid (MatD.mk HS.out ho); have Qqs := Lib.hid hq
    replace HMvm := Lib.hid (HMvm.out.step hg)
    replace HS := Lib.hid (HS.out.step hg)
    replace VB := Lib.hid (VB.out.step hg)
    have Oqs : Hid (∀ q ∈ qs, VecOk c q.2 ∧ (∀ z ∈ q.2, z ≤ 10) ∧ goodB ps bs (fun _ => true) q.2 = true) := Lib.hid (fun q hq' => by
      have h1 := minL_ok (show n ≤ 10 by omega) q.2 (Qqs.out ▸ List.mem_map_of_mem hq')
      exact ⟨h1.1, h1.2.1, h1.2.2.1⟩)
    have Lqs : Hid (qs.length ≤ 1000000000) := Lib.hid (by
      have h7 := minL_len (goodB ps bs (fun _ => true)) (vecs c (n))
      rw [← Qqs.out, List.length_map] at h7
      have h8 := vecs_len c (n)
      have h9 : (n + 1) ^ c ≤ 11 ^ 6 := Nat.le_trans (Nat.pow_le_pow_left (by omega) _) (Nat.pow_le_pow_right (by omega) (by omega))
      have h10 : (11 : Nat) ^ 6 = 1771561 := by decide
      omega)
    obtain ⟨aqs, cqs, rfl⟩ := Mqs.out.slice
    clear ho hq hg
    go_wp2_with fail
    refine (Minimal_any (mst := m) HMvm.out.rows HOKvm.out (by omega) (by omega) VB.out.1 HBO.out (by omega)).mono ?_
    rintro e w11 ⟨vr, rs, rfl, ho, hq, hg⟩
    have Mrs := Lib.hid (MatD.mk HS.out ho); have Qrs := Lib.hid hq
    replace HMvm := Lib.hid (HMvm.out.step hg)
    replace HS := Lib.hid (HS.out.step hg)
    replace VB := Lib.hid (VB.out.step hg)
    replace Mqs := Lib.hid (Mqs.out.step hg)
    have Ors : Hid (∀ q ∈ rs, VecOk c q.2 ∧ (∀ z ∈ q.2, z ≤ 10) ∧ goodB ps bs (fun _ => true) q.2 = true) := Lib.hid (fun q hq' => by
      have h1 := minL_ok (show m ≤ 10 by omega) q.2 (Qrs.out ▸ List.mem_map_of_mem hq')
      exact ⟨h1.1, h1.2.1, h1.2.2.1⟩)
    have Lrs : Hid (rs.length ≤ 1000000000) := Lib.hid (by
      have h7 := minL_len (goodB ps bs (fun _ => true)) (vecs c (m))
      rw [← Qrs.out, List.length_map] at h7
      have h8 := vecs_len c (m)
      have h9 : (m + 1) ^ c ≤ 11 ^ 6 := Nat.le_trans (Nat.pow_le_pow_left (by omega) _) (Nat.pow_le_pow_right (by omega) (by omega))
      have h10 : (11 : Nat) ^ 6 = 1771561 := by decide
      omega)
    obtain ⟨ars, crs, rfl⟩ := Mrs.out.slice
    clear ho hq hg
    go_wp2_with fail
    have HCA : Hid (∀ k, (hk : k < rs.length) → sumI rs[k].2 ≤ (n : Int) → cntL n (rs.map Prod.snd) (k + 1) = cntL n (rs.map Prod.snd) k + 1 ∧ ∃ h : cntL n (rs.map Prod.snd) k < qs.length, qs[cntL n (rs.map Prod.snd) k].2 = rs[k].2) := Lib.hid (fun k hk hs => cnt_at Qqs.out (by rw [Qrs.out, HMN.out]) hk hs)
    have HCE : Hid (cntL n (rs.map Prod.snd) rs.length = qs.length) := Lib.hid (cnt_end Qqs.out (by rw [Qrs.out, HMN.out]))
    have HC0 : Hid (cntL n (rs.map Prod.snd) 0 = 0) := Lib.hid rfl
    have HG0 := Lib.hid (grown_refl w11 none)
    go_loopw [69, 11] (fun i s wr => ∃ k a : Nat, i = .int .i64 k ∧ s = .int .i64 (a : Int) ∧ k ≤ rs.length ∧ Hid (a = cntL n (rs.map Prod.snd) k) ∧ Hid (w11.grownBy wr none)) (fun i _ _ => rs.length - (intOf i).toNat)
    case atStart => exact ⟨0, 0, rfl, rfl, Nat.zero_le _, HC0, HG0⟩
    case round =>
      obtain ⟨k, a, rfl, rfl, hk, hA, hG⟩ := hrel
      rename World => wk
      have hrl := Lrs.out
      by_cases hkb : k < rs.length
      · have h3 : (k : Int) < (rs.length : Int) := by omega
        have i1 : IntKind.i64.wrap ((k : Int) + 1) = (k : Int) + 1 := IntWalk.i64_in _ (by omega)
        obtain ⟨bq, oq, a2, c2, rfl, hcell, -, hri⟩ := (Mrs.out.step hG.out).rows.row hkb
        have HRI := Lib.hid hri
        have HQK := Lib.hid (Ors.out _ (List.getElem_mem hkb))
        have HAK := Lib.hid (HCA.out k hkb)
        have HAS := Lib.hid (cnt_skip (n := n) hkb)
        have ha9 : a ≤ 1000000000 := by rw [hA.out]; exact Nat.le_trans cnt_le (by omega)
        clear hri
        obtain ⟨x, hx⟩ : ∃ x, rs[k].2 = x := ⟨_, rfl⟩
        rw [hx] at HRI HQK HAK HAS hcell
        have HX := Lib.hid hx
        clear hx
        have hx4 : x.length ≤ 4 := by have := HQK.out.1.1; omega
        go_wp2_with fail
        go_loopw [75, 14] (fun i s wr => ∃ j : Nat, i = .int .i64 j ∧ s = .int .i64 (sumI (x.take j)) ∧ j ≤ x.length ∧ Hid (wk.grownBy wr none)) (fun i _ _ => x.length - (intOf i).toNat)
        case atStart => exact ⟨0, rfl, rfl, Nat.zero_le _, Lib.hid (grown_refl _ _)⟩
        case round =>
          obtain ⟨j, rfl, rfl, hj, hH⟩ := hrel
          rename World => wj
          have hbd : 0 ≤ sumI (x.take j) ∧ sumI (x.take j) ≤ 40 := by
            have h1 := sumI_nn (v := x.take j) (fun z hz => (HQK.out.1.2 z (List.mem_of_mem_take hz)).1)
            have h2 := sumI_ub (M := 10) (l := x.take j) (fun z hz => HQK.out.2.1 z (List.mem_of_mem_take hz))
            rw [List.length_take] at h2
            omega
          by_cases hjb : j < x.length
          · obtain ⟨_, _, hv, _, _, hxc⟩ := HRI.out.same hH.out
            simp only [Value.slice.injEq] at hv
            obtain ⟨rfl, -, rfl⟩ := hv
            obtain ⟨bb, ob, rfl, hcx⟩ := Ints.at hxc hjb
            have hxb := mem_at (P := fun y => y ≤ 10) HQK.out.2.1 hjb
            have hxb0 := mem_at (P := fun y => 0 ≤ y ∧ y ≤ 1000000) HQK.out.1.2 hjb
            have HSN := Lib.hid (sumI_snoc x j hjb)
            have h4 : (j : Int) < (x.length : Int) := by omega
            have i2 : IntKind.i64.wrap ((j : Int) + 1) = (j : Int) + 1 := IntWalk.i64_in _ (by omega)
            have i3 : IntKind.i64.wrap (sumI (x.take j) + x[j]?.getD 0) = sumI (x.take (j + 1)) := by rw [HSN.out]; exact IntWalk.i64_in _ (by omega)
            generalize x[j]?.getD 0 = z at *
            clear hxc hxb hxb0 hbd hrl
            go_wp2_with fail
            go_roundw
            case rel => exact ⟨j + 1, by go_num, rfl, by omega, hH⟩
            case measure => simp [intOf]; omega
          · have h4 : ¬ (j : Int) < (x.length : Int) := by omega
            have e1 : sumI (x.take j) = sumI x := by rw [List.take_of_length_le (by omega)]
            rw [e1] at hbd ⊢
            clear e1
            have HGJ := Lib.hid (grown_trans hG.out hH.out)
            by_cases hs : sumI x ≤ (n : Int)
            · obtain ⟨hc1', hlt, hc2'⟩ := HAK.out hs
              rw [← hA.out] at hc1'
              have hlt' : a < qs.length := by rw [hA.out]; exact hlt
              have HCK := Lib.hid hc1'
              have HEQ : Hid (qs[a].2 = x) := Lib.hid (by
                have : ∀ a', a' = a → ∀ h : a' < qs.length, qs[a'].2 = x → qs[a].2 = x := by rintro _ rfl h e; exact e
                exact this _ hA.out.symm hlt hc2')
              obtain ⟨bz, oz, a3, c3, rfl, hcell2, -, hri2⟩ := (Mqs.out.step HGJ.out).rows.row hlt'
              rw [HEQ.out] at hcell2 hri2
              have HRI2 := Lib.hid hri2
              have p1 : ¬ (qs.length : Int) ≤ (a : Int) := by omega
              have i5 : IntKind.i64.wrap ((a : Int) + 1) = (a : Int) + 1 := IntWalk.i64_in _ (by omega)
              clear hc1' hlt hc2' hri2 hrl hbd
              go_wp2_with fail
              refine (same_any _ _ _ _ _ HRI2.out (HRI.out.same hH.out)).mono ?_
              rintro e wl ⟨rfl, hd⟩
              rw [beq_self_eq_true]
              have HGL := Lib.hid (grown_trans HGJ.out (hd.grown none))
              clear hd hcell2
              go_wp2_with fail
              go_roundw
              case rel => exact ⟨k + 1, a + 1, by go_num, by go_num, by omega, Lib.hid HCK.out.symm, HGL⟩
              case measure => simp [intOf]; omega
            · have HSK : Hid (a = cntL n (rs.map Prod.snd) (k + 1)) := Lib.hid (by rw [HAS.out (by omega)]; exact hA.out)
              clear hrl hbd
              go_wp2_with fail
              go_roundw
              case rel => exact ⟨k + 1, a, by go_num, rfl, by omega, HSK, HGJ⟩
              case measure => simp [intOf]; omega
      · have h3 : ¬ (k : Int) < (rs.length : Int) := by omega
        obtain rfl : k = rs.length := by omega
        have ea : a = qs.length := by rw [hA.out]; exact HCE.out
        subst ea
        have p1 : ((qs.length : Int) == (qs.length : Int)) = true := by simp
        go_wp2_with fail
        go_ret
        exact ⟨rfl, (HS.out.step hG.out).below⟩
  · go_enter Try.func5, Try.ntmps5
    go_wp2_with fail
    refine (awake12_any _).mono ?_
    rintro e w1 ⟨rfl, hg⟩
    have HG := Lib.hid hg
    clear hg
    go_wp2_with fail
    refine (few_any _ _ _ _).mono ?_
    rintro e w2 ⟨rfl, rfl⟩
    rw [decide_eq_false (by omega)]
    go_wp2_with fail
    refine (awake12_any _).mono ?_
    rintro e w3 ⟨rfl, hg⟩
    have HG := Lib.hid (grown_trans HG.out hg)
    clear hg
    go_wp2_with fail
    go_ret
    exact ⟨rfl, below_of HG.out⟩

/-! ### HilbertMore: the statement, from its walk -/
set_option maxRecDepth 100000 in
theorem liftedHilbertMore (os : Os) (started : os.Started) (H : Type) (enc : TypeId × Value → H) :
    ReturnsInHanded {} Try.checked os 5 .any (Rows.hilbertMoreSpec.pre6 enc Try.prog Try.f5 Rows.hilbertMoreRow.domain false) (Rows.hilbertMoreSpec.post enc Try.prog Try.f5 false true false false) := by
  refine returnsInHanded_of_change (C := Try.checked) own started (by kernel_rfl) Try.func5
    (ChangeSpec.witness6 (enc := enc) (C := Try.checked) false ⟨#[], #[.slice none 0 0], []⟩ 8 (by kernel_rfl) (by kernel_rfl) (by kernel_rfl) (by kernel_rfl)) ?_
  intro W base args ds gs before hval0 hW hcnd _
  have hval : ∀ (j : Nat) t v, Try.f5.params[j]? = some t → args[j]? = some v → Value.okWide Try.prog W .any base t v := hval0
  have hW' := hW
  obtain ⟨p, q, hA0, hV, rfl, hfz, hnd⟩ := hW
  have hA : DataW.TrodAll enc Try.prog W 0 (fun _ => true) true Try.f5.params.toList args.toList ds p := hA0
  rw [Try.params5] at hA hval
  obtain ⟨v0, vs0, d0, ds0, p0, q0, hargs, rfl, rfl, h0, r0⟩ := trodAll_cons hA
  obtain ⟨rfl, rfl, rfl⟩ := trodAll_nil r0
  obtain rfl : args = #[v0] := by cases args; simp_all
  obtain ⟨rfl, rfl⟩ := trodVars_none hV
  obtain ⟨a0, len0, cap0, rfl⟩ := okWide_slice Try.underlying22 (hval 0 22 v0 rfl rfl)
  have k0 := h0
  have lt0 : ∀ x ∈ p0, x.block < W.heap.size := by obtain ⟨m, hm⟩ := k0; exact DataW.trod_lt m _ _ _ hm
  obtain ⟨z0, w0⟩ : ∃ zs, IsRow .i64 W a0 len0 cap0 zs := by
    obtain ⟨fuel, hf⟩ := h0
    rcases open_ints Try.underlying22 Try.underlying3 (by kernel_rfl) hf with ⟨hcs, _⟩ | ⟨x, l, c, zs, hcs, _, hl, hm, hz, _, hcell, hwz⟩
    · simp [Value.cells] at hcs
      obtain ⟨rfl, rfl, rfl⟩ := hcs
      exact ⟨[], .inl ⟨rfl, rfl, rfl, rfl⟩⟩
    · simp [Value.cells] at hcs
      obtain ⟨rfl, rfl, rfl⟩ := hcs
      exact ⟨zs, .inr ⟨_, rfl, hl, hm, by simpa using hz, hcell, hwz⟩⟩
  clear hA0 hval0
  refine (walkHilbertMore a0 len0 cap0 z0 W w0).mono fun e W' ⟨he, bel⟩ => ?_
  subst he
  exact ⟨_, rfl, _, _, _, [], _, [], hW', trodAll_mk1 (shut_bool Try.underlying4 _), (trodAll_cons_mk (Below.trod laidOut (by kernel_rfl) (of_decide_eq_true (by kernel_rfl)) k0 bel lt0) trodAll_mk0), rfl, bel.frame _, fun h => by cases h⟩

theorem hilbertMore_holds : Rows.HilbertMoreSaid :=
  OpenClaim.holds_of_wide 5 Try.f5 rfl rfl rfl rfl rfl rfl rfl ⟨rfl, rfl, rfl, rfl, rfl⟩ rfl rfl rfl rfl rfl (by kernel_rfl) Try.func5 (by kernel_rfl)
    (of_decide_eq_true (by kernel_rfl)) (by unfold Func.isWrapper; first | (rw [if_pos (by decide +kernel)]; kernel_rfl) | (rw [if_neg (by decide +kernel)]; exact ⟨rfl, rfl⟩))
    (fun os started H enc _ => liftedHilbertMore os started H enc)
#print axioms hilbertMore_holds
end Go.Proofs.Ytgcfafjgaifmiaa
