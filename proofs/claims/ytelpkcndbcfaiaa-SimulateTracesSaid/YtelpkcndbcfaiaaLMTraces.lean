/- SimulateTraces: for every input it answers true -/
import Derived.Test.YtelpkcndbcfaiaaJt
import Derived.StillTailTactics
import Derived.Outline
import Derived.BigRegion
import Derived.BigQuiet
import Derived.Deep.RegionHeld3
namespace Go.Proofs.Ytelpkcndbcfaiaa
open Go.ChangeShapes Go.WideShapes Go.ChangeAt Go.RowKit
set_option linter.unusedVariables false
set_option maxRecDepth 100000 in
set_option maxHeartbeats 4000000 in
theorem walkSimulateTraces (a0 : Option Addr) (len0 cap0 : Nat) (z0 : List Int) (a1 : Option Addr) (len1 cap1 : Nat) (z1 : List Int) (w : World) (w0 : IsRow .u8 w a0 len0 cap0 z0) (w1 : IsRow .u8 w a1 len1 cap1 z1) :
    Calls Try.prog 6 #[.slice a0 len0 cap0, .slice a1 len1 cap1] w fun e w' => e = .returned (.bool true) ∧ Below w.heap.size w w' := by
  obtain ⟨hU0, hlen0, hcap0⟩ := w0.u8
  generalize z0.take len0 = zs0 at hU0 hlen0
  subst hlen0
  have HU0 := Lib.hid hU0; have HCAP0 := Lib.hid hcap0
  clear hU0 hcap0 w0
  obtain ⟨hU1, hlen1, hcap1⟩ := w1.u8
  generalize z1.take len1 = zs1 at hU1 hlen1
  subst hlen1
  have HU1 := Lib.hid hU1; have HCAP1 := Lib.hid hcap1
  clear hU1 hcap1 w1
  go_enter Try.func6, Try.ntmps6
  go_wp2_with fail
  refine (awake36_any _).mono ?_
  rintro e w1 ⟨rfl, hg⟩
  have HG := Lib.hid hg
  clear hg
  go_wp2_with fail
  refine (dice_new (HU0.out.same HG.out) HCAP0.out HG.out).mono ?_
  rintro e w2 ⟨d, rfl, hs⟩
  have HS := Lib.hid hs
  clear hs
  go_wp2_with fail
  refine (system_any HS.out).mono ?_
  rintro e w3 ⟨aa, ca, la, rfl, hb, h1, h6, hr, hs, hg⟩
  have HDa : Hid (SysD d w3 (.slice aa la.length ca) la) := Lib.hid ⟨hb, h1, h6, hr⟩
  replace HS := Lib.hid hs
  clear hb h1 h6 hr hs hg
  go_wp2_with fail
  refine (system_any HS.out).mono ?_
  rintro e w4 ⟨ab, cb, lb, rfl, hb, h1, h6, hr, hs, hg⟩
  have HDb : Hid (SysD d w4 (.slice ab lb.length cb) lb) := Lib.hid ⟨hb, h1, h6, hr⟩
  replace HS := Lib.hid hs
  replace HDa := Lib.hid (HDa.out.deal hg)
  clear hb h1 h6 hr hs hg
  obtain ⟨H, hH⟩ : ∃ H, w4.heap.size = H := ⟨_, rfl⟩
  go_wp2_with fail
  obtain ⟨w5, hw5⟩ : ∃ w5, w5 = ((w4.alloc (.cells #[.slice aa la.length ca] 25)).alloc (.cells #[.slice ab lb.length cb] 25)) := ⟨_, rfl⟩
  have hgw5 : w4.grownBy w5 none := by rw [hw5]; exact grown_aft2 (World.grownBy_alloc _ _ _)
  have HCa : Hid (w5.cell? ⟨H, 0, none⟩ = some (.slice aa la.length ca)) := Lib.hid (by
    have hb : w5.heap[H]? = some (.cells #[.slice aa la.length ca] 25 (0, 0)) := by rw [hw5]; exact heap_old _ (heap_new _ hH.symm)
    unfold World.cell?
    dsimp only
    rw [hb]
    rfl)
  replace HDa := Lib.hid (HDa.out.step hgw5)
  have HCb : Hid (w5.cell? ⟨H + 1, 0, none⟩ = some (.slice ab lb.length cb)) := Lib.hid (by
    have hb : w5.heap[H + 1]? = some (.cells #[.slice ab lb.length cb] 25 (0, 0)) := by rw [hw5]; exact heap_new _ (by show _ = (w4.heap.push _).size; simp [hH])
    unfold World.cell?
    dsimp only
    rw [hb]
    rfl)
  replace HDb := Lib.hid (HDb.out.step hgw5)
  replace HS := Lib.hid (HS.out.step hgw5)
  rw [← hw5]
  clear hw5 hgw5 hH
  refine (trace_any _ _ la lb 5 _ HDa.out.sys HDb.out.sys (by omega) HDa.out.six HDb.out.six (rows_intB HDa.out.ok)).mono ?_
  rintro e w7 ⟨tv, L, ok, rfl, hI, hT, hg⟩
  replace HCa := Lib.hid (hg.cell HCa.out (by simp)); replace HDa := Lib.hid (HDa.out.step hg)
  replace HCb := Lib.hid (hg.cell HCb.out (by simp)); replace HDb := Lib.hid (HDb.out.step hg)
  replace HS := Lib.hid (HS.out.step hg)
  have HTV := Lib.hid hI; have HT := Lib.hid hT
  obtain ⟨ta, tc, rfl, -, -⟩ := hI
  clear hT hg
  have ca0 := HCa.out
  have cb0 := HCb.out
  go_wp2_with fail
  clear ca0 cb0
  go_loopw [36, 11] (fun i v wr => ∃ (k : Nat) (u : List Int), i = .int .i64 k ∧ k ≤ zs1.length ∧ Hid (u.length ≤ 5 ∧ u.length ≤ k) ∧ Hid (OwnI wr w7.heap.size v u) ∧ Hid (w7.grownBy wr none)) (fun i _ _ => zs1.length - (intOf i).toNat)
  case atStart => exact ⟨0, [], rfl, Nat.zero_le _, Lib.hid ⟨by simp, by simp⟩, Lib.hid (OwnI.nil _ _), Lib.hid (grown_refl _ _)⟩
  case round =>
    obtain ⟨k, u, rfl, hk, hul, ho, hG⟩ := hrel
    by_cases hlt : k < zs1.length
    · have h1 : (k : Int) < (zs1.length : Int) := by omega
      obtain ⟨ua, uc, huv, hul2, hub, hcells⟩ := (HU1.out.same HS.out.2.1).same hG.out
      simp only [Value.slice.injEq] at huv
      obtain ⟨rfl, -, rfl⟩ := huv
      unfold maxLen at hul2
      have hcell : ∃ b off, a1 = some ⟨b, off, none⟩ ∧ wr.cell? ⟨b, off + k, none⟩ = some (.int .u8 (zs1[k]?.getD 0)) := by
        rcases hcells with h0 | ⟨b, off, e, h⟩
        · rw [h0] at hlt; simp at hlt
        · exact ⟨b, off, e, h k hlt⟩
      obtain ⟨ub, uo, rfl, x0⟩ := hcell
      have hxb : 0 ≤ zs1[k]?.getD 0 ∧ zs1[k]?.getD 0 ≤ 255 := by rw [List.getElem?_eq_getElem hlt]; exact hub _ (List.getElem_mem hlt)
      generalize zs1[k]?.getD 0 = xv at *
      obtain ⟨hx1, hx2⟩ := hxb
      have hwr : IntKind.i64.wrap xv = xv := IntWalk.i64_in _ (by omega)
      obtain ⟨y, hy⟩ : ∃ y, xv.tmod 3 = y := ⟨_, rfl⟩
      clear hcells hub
      by_cases h5 : k < 5
      · have h5i : (k : Int) < 5 := by omega
        have HBZ : Hid (w7.heap.size ≤ wr.heap.size) := Lib.hid hG.out.size
        have HUL : Hid (u.length ≤ 1000) := Lib.hid (by have := hul.out; omega)
        go_wp2_with (at_builtin; refine app_int rfl _ _ rfl w7.heap.size _ u rfl (ho.out.kept (World.grownBy_alloc _ _ none) (by simp)) wr.heap.size y rfl (by rw [World.cell?, heap_new _ rfl]; rfl) (by have := HUL.out; omega) (by show _ ≤ (wr.heap.push _).size; have := HBZ.out; simp; omega) ?_; intro v6 w6 hown6 hg6; have HO6 := Lib.hid hown6; have HG6 := Lib.hid hg6; clear hown6 hg6)
        have HG8 : Hid (w7.grownBy w6 none) := Lib.hid (grown_then (grown_trans hG.out (World.grownBy_alloc _ _ none)) HG6.out (fun q hq => .inl (World.ownsRow.lt ho.out q hq).1))
        have HL2 : Hid ((u ++ [y]).length ≤ 5 ∧ (u ++ [y]).length ≤ k + 1) := Lib.hid (by rw [List.length_append]; have := hul.out; simp; omega)
        go_wp2_with fail
        go_roundw
        case rel => exact ⟨k + 1, _, by go_num, by omega, HL2, HO6, HG8⟩
        case measure => simp [intOf]; omega
      · have h5i : ¬ (k : Int) < 5 := by omega
        have HL2 : Hid (u.length ≤ 5 ∧ u.length ≤ k + 1) := Lib.hid ⟨hul.out.1, Nat.le_succ_of_le hul.out.2⟩
        go_wp2_with fail
        go_roundw
        case rel => exact ⟨k + 1, u, by go_num, by omega, HL2, ho, hG⟩
        case measure => simp [intOf]; omega
    · have h1 : ¬ (k : Int) < (zs1.length : Int) := by omega
      have hg := hG.out
      replace HCa := Lib.hid (hg.cell HCa.out (by simp)); replace HDa := Lib.hid (HDa.out.step hg)
      replace HCb := Lib.hid (hg.cell HCb.out (by simp)); replace HDb := Lib.hid (HDb.out.step hg)
      replace HS := Lib.hid (HS.out.step hg)
      replace HTV := Lib.hid (HTV.out.same hg)
      obtain ⟨ua, uc, rfl⟩ := own_slice ho.out
      have HW : Hid (IntsR wr (.slice ua u.length uc) u) := Lib.hid (own_ints ho.out (by have := hul.out; omega))
      have HUL := Lib.hid hul.out.1
      clear hg hlt
      have ca0 := HCa.out
      have cb0 := HCb.out
      cases ok with
      | false =>
        have HNO : Hid (L = [] ∧ (accB (la.map Prod.snd) u = true → accB (lb.map Prod.snd) u = true)) := Lib.hid (by
          rcases HT.out with ⟨h, -⟩ | ⟨-, h2, h3⟩
          · cases h
          · exact ⟨h2, h3 u HUL.out⟩)
        obtain rfl : L = [] := HNO.out.1
        simp only [List.length_nil]
        go_wp2_with fail
        clear ca0 cb0
        refine (accepts_any _ _ la u _ HDa.out.sys (by have := HDa.out.six; omega) HW.out).mono ?_
        rintro e w9 ⟨rfl, hg⟩
        obtain ⟨q, hq⟩ : ∃ q, accB (la.map Prod.snd) u = q := ⟨_, rfl⟩
        rw [hq]
        have HQ := Lib.hid hq
        clear hq
        replace HCa := Lib.hid (hg.cell HCa.out (by simp)); replace HDa := Lib.hid (HDa.out.step hg)
        replace HCb := Lib.hid (hg.cell HCb.out (by simp)); replace HDb := Lib.hid (HDb.out.step hg)
        replace HS := Lib.hid (HS.out.step hg)
        replace HW := Lib.hid (HW.out.same hg)
        replace HTV := Lib.hid (HTV.out.same hg)
        clear hg
        have ca0 := HCa.out
        have cb0 := HCb.out
        cases q with
        | false =>
          clear HQ
          go_wp2_with fail
          go_ret
          exact ⟨rfl, HS.out.below⟩
        | true =>
          go_wp2_with fail
          clear ca0 cb0
          refine (accepts_any _ _ lb u _ HDb.out.sys (by have := HDb.out.six; omega) HW.out).mono ?_
          rintro e w10 ⟨rfl, hg⟩
          rw [HNO.out.2 HQ.out]
          replace HCa := Lib.hid (hg.cell HCa.out (by simp)); replace HDa := Lib.hid (HDa.out.step hg)
          replace HCb := Lib.hid (hg.cell HCb.out (by simp)); replace HDb := Lib.hid (HDb.out.step hg)
          replace HS := Lib.hid (HS.out.step hg)
          replace HW := Lib.hid (HW.out.same hg)
          replace HTV := Lib.hid (HTV.out.same hg)
          clear hg
          have ca0 := HCa.out
          have cb0 := HCb.out
          go_wp2_with fail
          go_ret
          exact ⟨rfl, HS.out.below⟩
      | true =>
        have HYE : Hid (accB (la.map Prod.snd) L = true ∧ accB (lb.map Prod.snd) L = false ∧ ∀ u, accB (la.map Prod.snd) u = true → accB (lb.map Prod.snd) u = false → ¬ wlt u L) := Lib.hid (by
          rcases HT.out with ⟨-, -, h1, h2, h3⟩ | ⟨h, -⟩
          · exact ⟨h1, h2, h3⟩
          · cases h)
        go_wp2_with fail
        clear ca0 cb0
        refine (accepts_any _ _ la u _ HDa.out.sys (by have := HDa.out.six; omega) HW.out).mono ?_
        rintro e w9 ⟨rfl, hg⟩
        obtain ⟨q, hq⟩ : ∃ q, accB (la.map Prod.snd) u = q := ⟨_, rfl⟩
        rw [hq]
        have HQ := Lib.hid hq
        clear hq
        replace HCa := Lib.hid (hg.cell HCa.out (by simp)); replace HDa := Lib.hid (HDa.out.step hg)
        replace HCb := Lib.hid (hg.cell HCb.out (by simp)); replace HDb := Lib.hid (HDb.out.step hg)
        replace HS := Lib.hid (HS.out.step hg)
        replace HW := Lib.hid (HW.out.same hg)
        replace HTV := Lib.hid (HTV.out.same hg)
        clear hg
        have ca0 := HCa.out
        have cb0 := HCb.out
        cases q with
        | false =>
          clear HQ
          go_wp2_with fail
          clear ca0 cb0
          refine (accepts_any _ _ la L _ HDa.out.sys (by have := HDa.out.six; omega) HTV.out).mono ?_
          rintro e w11 ⟨rfl, hg⟩
          rw [HYE.out.1]
          replace HCa := Lib.hid (hg.cell HCa.out (by simp)); replace HDa := Lib.hid (HDa.out.step hg)
          replace HCb := Lib.hid (hg.cell HCb.out (by simp)); replace HDb := Lib.hid (HDb.out.step hg)
          replace HS := Lib.hid (HS.out.step hg)
          replace HW := Lib.hid (HW.out.same hg)
          replace HTV := Lib.hid (HTV.out.same hg)
          clear hg
          have ca0 := HCa.out
          have cb0 := HCb.out
          go_wp2_with fail
          clear ca0 cb0
          refine (accepts_any _ _ lb L _ HDb.out.sys (by have := HDb.out.six; omega) HTV.out).mono ?_
          rintro e w12 ⟨rfl, hg⟩
          rw [HYE.out.2.1]
          replace HCa := Lib.hid (hg.cell HCa.out (by simp)); replace HDa := Lib.hid (HDa.out.step hg)
          replace HCb := Lib.hid (hg.cell HCb.out (by simp)); replace HDb := Lib.hid (HDb.out.step hg)
          replace HS := Lib.hid (HS.out.step hg)
          replace HW := Lib.hid (HW.out.same hg)
          replace HTV := Lib.hid (HTV.out.same hg)
          clear hg
          have ca0 := HCa.out
          have cb0 := HCb.out
          go_wp2_with fail
          go_ret
          exact ⟨rfl, HS.out.below⟩
        | true =>
          go_wp2_with fail
          clear ca0 cb0
          refine (accepts_any _ _ lb u _ HDb.out.sys (by have := HDb.out.six; omega) HW.out).mono ?_
          rintro e w10 ⟨rfl, hg⟩
          obtain ⟨q2, hq2⟩ : ∃ q2, accB (lb.map Prod.snd) u = q2 := ⟨_, rfl⟩
          rw [hq2]
          have HQ2 := Lib.hid hq2
          clear hq2
          replace HCa := Lib.hid (hg.cell HCa.out (by simp)); replace HDa := Lib.hid (HDa.out.step hg)
          replace HCb := Lib.hid (hg.cell HCb.out (by simp)); replace HDb := Lib.hid (HDb.out.step hg)
          replace HS := Lib.hid (HS.out.step hg)
          replace HW := Lib.hid (HW.out.same hg)
          replace HTV := Lib.hid (HTV.out.same hg)
          clear hg
          have ca0 := HCa.out
          have cb0 := HCb.out
          cases q2 with
          | true =>
            go_wp2_with fail
            clear ca0 cb0
            refine (accepts_any _ _ la L _ HDa.out.sys (by have := HDa.out.six; omega) HTV.out).mono ?_
            rintro e w11 ⟨rfl, hg⟩
            rw [HYE.out.1]
            replace HCa := Lib.hid (hg.cell HCa.out (by simp)); replace HDa := Lib.hid (HDa.out.step hg)
            replace HCb := Lib.hid (hg.cell HCb.out (by simp)); replace HDb := Lib.hid (HDb.out.step hg)
            replace HS := Lib.hid (HS.out.step hg)
            replace HW := Lib.hid (HW.out.same hg)
            replace HTV := Lib.hid (HTV.out.same hg)
            clear hg
            have ca0 := HCa.out
            have cb0 := HCb.out
            go_wp2_with fail
            clear ca0 cb0
            refine (accepts_any _ _ lb L _ HDb.out.sys (by have := HDb.out.six; omega) HTV.out).mono ?_
            rintro e w12 ⟨rfl, hg⟩
            rw [HYE.out.2.1]
            replace HCa := Lib.hid (hg.cell HCa.out (by simp)); replace HDa := Lib.hid (HDa.out.step hg)
            replace HCb := Lib.hid (hg.cell HCb.out (by simp)); replace HDb := Lib.hid (HDb.out.step hg)
            replace HS := Lib.hid (HS.out.step hg)
            replace HW := Lib.hid (HW.out.same hg)
            replace HTV := Lib.hid (HTV.out.same hg)
            clear hg
            have ca0 := HCa.out
            have cb0 := HCb.out
            go_wp2_with fail
            go_ret
            exact ⟨rfl, HS.out.below⟩
          | false =>
            go_wp2_with fail
            clear ca0 cb0
            refine (accepts_any _ _ la L _ HDa.out.sys (by have := HDa.out.six; omega) HTV.out).mono ?_
            rintro e w11 ⟨rfl, hg⟩
            rw [HYE.out.1]
            replace HCa := Lib.hid (hg.cell HCa.out (by simp)); replace HDa := Lib.hid (HDa.out.step hg)
            replace HCb := Lib.hid (hg.cell HCb.out (by simp)); replace HDb := Lib.hid (HDb.out.step hg)
            replace HS := Lib.hid (HS.out.step hg)
            replace HW := Lib.hid (HW.out.same hg)
            replace HTV := Lib.hid (HTV.out.same hg)
            clear hg
            have ca0 := HCa.out
            have cb0 := HCb.out
            go_wp2_with fail
            clear ca0 cb0
            refine (accepts_any _ _ lb L _ HDb.out.sys (by have := HDb.out.six; omega) HTV.out).mono ?_
            rintro e w12 ⟨rfl, hg⟩
            rw [HYE.out.2.1]
            replace HCa := Lib.hid (hg.cell HCa.out (by simp)); replace HDa := Lib.hid (HDa.out.step hg)
            replace HCb := Lib.hid (hg.cell HCb.out (by simp)); replace HDb := Lib.hid (HDb.out.step hg)
            replace HS := Lib.hid (HS.out.step hg)
            replace HW := Lib.hid (HW.out.same hg)
            replace HTV := Lib.hid (HTV.out.same hg)
            clear hg
            have ca0 := HCa.out
            have cb0 := HCb.out
            have hle : (L.length : Int) ≤ (u.length : Int) := by
              have h1 := HYE.out.2.2 u HQ.out HQ2.out
              have h2 : ¬ u.length < L.length := fun h => h1 (.inl h)
              omega
            go_wp2_with fail
            go_ret
            exact ⟨rfl, HS.out.below⟩

/-! ### SimulateTraces: the statement, from its walk -/
set_option maxRecDepth 100000 in
theorem liftedSimulateTraces (os : Os) (started : os.Started) (H : Type) (enc : TypeId × Value → H) :
    ReturnsInHanded {} Try.checked os 6 .any (Rows.simulateTracesSpec.pre6 enc Try.prog Try.f6 Rows.simulateTracesRow.domain false) (Rows.simulateTracesSpec.post enc Try.prog Try.f6 false true false false) := by
  refine returnsInHanded_of_change (C := Try.checked) own started (by kernel_rfl) Try.func6
    (ChangeSpec.witness6 (enc := enc) (C := Try.checked) false ⟨#[], #[.slice none 0 0, .slice none 0 0], []⟩ 8 (by kernel_rfl) (by kernel_rfl) (by kernel_rfl) (by kernel_rfl)) ?_
  intro W base args ds gs before hval0 hW hcnd _
  have hval : ∀ (j : Nat) t v, Try.f6.params[j]? = some t → args[j]? = some v → Value.okWide Try.prog W .any base t v := hval0
  have hW' := hW
  obtain ⟨p, q, hA0, hV, rfl, hfz, hnd⟩ := hW
  have hA : DataW.TrodAll enc Try.prog W 0 (fun _ => true) true Try.f6.params.toList args.toList ds p := hA0
  rw [Try.params6] at hA hval
  obtain ⟨v0, vs0, d0, ds0, p0, q0, hargs, rfl, rfl, h0, r0⟩ := trodAll_cons hA
  obtain ⟨v1, vs1, d1, ds1, p1, q1, rfl, rfl, rfl, h1, r1⟩ := trodAll_cons r0
  obtain ⟨rfl, rfl, rfl⟩ := trodAll_nil r1
  obtain rfl : args = #[v0, v1] := by cases args; simp_all
  obtain ⟨rfl, rfl⟩ := trodVars_none hV
  obtain ⟨a0, len0, cap0, rfl⟩ := okWide_slice Try.underlying22 (hval 0 22 v0 rfl rfl)
  have k0 := h0
  have lt0 : ∀ x ∈ p0, x.block < W.heap.size := by obtain ⟨m, hm⟩ := k0; exact DataW.trod_lt m _ _ _ hm
  obtain ⟨z0, w0⟩ : ∃ zs, IsRow .u8 W a0 len0 cap0 zs := by
    obtain ⟨fuel, hf⟩ := h0
    rcases open_ints Try.underlying22 Try.underlying5 (by kernel_rfl) hf with ⟨hcs, _⟩ | ⟨x, l, c, zs, hcs, _, hl, hm, hz, _, hcell, hwz⟩
    · simp [Value.cells] at hcs
      obtain ⟨rfl, rfl, rfl⟩ := hcs
      exact ⟨[], .inl ⟨rfl, rfl, rfl, rfl⟩⟩
    · simp [Value.cells] at hcs
      obtain ⟨rfl, rfl, rfl⟩ := hcs
      exact ⟨zs, .inr ⟨_, rfl, hl, hm, by simpa using hz, hcell, hwz⟩⟩
  obtain ⟨a1, len1, cap1, rfl⟩ := okWide_slice Try.underlying22 (hval 1 22 v1 rfl rfl)
  have k1 := h1
  have lt1 : ∀ x ∈ p1, x.block < W.heap.size := by obtain ⟨m, hm⟩ := k1; exact DataW.trod_lt m _ _ _ hm
  obtain ⟨z1, w1⟩ : ∃ zs, IsRow .u8 W a1 len1 cap1 zs := by
    obtain ⟨fuel, hf⟩ := h1
    rcases open_ints Try.underlying22 Try.underlying5 (by kernel_rfl) hf with ⟨hcs, _⟩ | ⟨x, l, c, zs, hcs, _, hl, hm, hz, _, hcell, hwz⟩
    · simp [Value.cells] at hcs
      obtain ⟨rfl, rfl, rfl⟩ := hcs
      exact ⟨[], .inl ⟨rfl, rfl, rfl, rfl⟩⟩
    · simp [Value.cells] at hcs
      obtain ⟨rfl, rfl, rfl⟩ := hcs
      exact ⟨zs, .inr ⟨_, rfl, hl, hm, by simpa using hz, hcell, hwz⟩⟩
  clear hA0 hval0
  refine (walkSimulateTraces a0 len0 cap0 z0 a1 len1 cap1 z1 W w0 w1).mono fun e W' ⟨he, bel⟩ => ?_
  subst he
  exact ⟨_, rfl, _, _, _, [], _, [], hW', trodAll_mk1 (shut_bool Try.underlying4 _), (trodAll_cons_mk (Below.trod laidOut (by kernel_rfl) (of_decide_eq_true (by kernel_rfl)) k0 bel lt0) (trodAll_cons_mk (Below.trod laidOut (by kernel_rfl) (of_decide_eq_true (by kernel_rfl)) k1 bel lt1) trodAll_mk0)), rfl, bel.frame _, fun h => by cases h⟩

theorem simulateTraces_holds : Rows.SimulateTracesSaid :=
  OpenClaim.holds_of_wide 6 Try.f6 rfl rfl rfl rfl rfl rfl rfl ⟨rfl, rfl, rfl, rfl, rfl⟩ rfl rfl rfl rfl rfl (by kernel_rfl) Try.func6 (by kernel_rfl)
    (of_decide_eq_true (by kernel_rfl)) (by unfold Func.isWrapper; first | (rw [if_pos (by decide +kernel)]; kernel_rfl) | (rw [if_neg (by decide +kernel)]; exact ⟨rfl, rfl⟩))
    (fun os started H enc _ => liftedSimulateTraces os started H enc)
#print axioms simulateTraces_holds
end Go.Proofs.Ytelpkcndbcfaiaa
