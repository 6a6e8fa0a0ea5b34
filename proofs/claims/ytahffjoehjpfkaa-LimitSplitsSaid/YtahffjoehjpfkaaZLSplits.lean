/- LimitSplits: for every input the statement answers true (a vector is either above a corner or in the complement). No condition. -/
import Derived.Test.YtahffjoehjpfkaaZs
import Derived.Deep.Matrix
namespace Go.Proofs.Ytahffjoehjpfkaa
open Go.ChangeShapes Go.WideShapes Go.ChangeAt Go.RowKit Go.Deep
set_option linter.unusedVariables false

theorem small_valid {n : Nat} {z : List Int} (hn : n ≤ 6) (hl : z.length = n) (h : ∀ x ∈ z, 0 ≤ x ∧ x ≤ 5) : validB z = true := by
  unfold validB
  simp only [Bool.and_eq_true, decide_eq_true_eq, List.all_eq_true]
  refine ⟨by omega, fun x hx => ?_⟩
  have := h x hx
  unfold elemB numB
  simp only [Bool.or_eq_true, Bool.and_eq_true, decide_eq_true_eq]
  exact .inr (by omega)
def SmallV (n : Nat) (w0 w : World) (p : Value) (d : Nat) (e : Ending) (w' : World) : Prop :=
  ∃ (a : Option Addr) (c : Nat) (us : List Int), e = .returned (.slice a us.length c) ∧ us.length = n ∧ (∀ x ∈ us, 0 ≤ x ∧ x ≤ 5) ∧ RowOk w' (.slice a us.length c, us) ∧ St w0 w' p d ∧ w.grownBy w' (some d)
theorem small5v {w0 w : World} {p : Value} {d : Nat} (h : St w0 w p d) (n : Nat) (h1 : n ≤ 6) :
    Calls Try.prog 14 #[p, .int .i64 n, .int .i64 5] w (SmallV n w0 w p d) :=
  (small_any p d n 5 w h.1 (by omega) (by omega) (by omega)).mono fun e w' ⟨v, xs, he, hl, hp, ho, hd, hg⟩ => by
    obtain ⟨a, c, rfl⟩ := ownI_sl' ho
    have hl' : xs.length = n := by simpa using hl
    exact ⟨a, c, xs, he, hl', hp, ho.row (by intro x hx; have := hp x hx; omega), h.deal hd hg, hg⟩

set_option maxRecDepth 100000 in
set_option maxHeartbeats 4000000 in
theorem walkLimitSplits (a0 : Option Addr) (len0 cap0 : Nat) (z0 : List Int) (w : World) (w0 : IsRow .i64 w a0 len0 cap0 z0) :
    Calls Try.prog 3 #[.slice a0 len0 cap0] w fun e w' => e = .returned (.bool true) ∧ Below w.heap.size w w' := by
  obtain ⟨hI, hlen⟩ := w0.ints
  generalize z0.take len0 = zs at hI hlen
  subst hlen
  have HI := Lib.hid hI
  clear hI w0
  by_cases hfew : (zs.length : Int) ≤ 400
  case neg =>
    go_enter Try.func3, Try.ntmps3
    go_wp2_with fail
    refine (awake08_any _).mono ?_
    rintro e w1 ⟨rfl, hg⟩
    have HG := Lib.hid hg
    clear hg
    go_wp2_with fail
    refine (few_any _ _ _ _).mono ?_
    rintro e w2 ⟨rfl, rfl⟩
    rw [decide_eq_false (by omega)]
    go_wp2_with fail
    refine (awake08_any _).mono ?_
    rintro e w9 ⟨rfl, hg⟩
    have HGX := Lib.hid (grown_trans HG.out hg)
    clear hg
    go_wp2_with fail
    go_ret
    exact ⟨rfl, below_of HGX.out⟩
  go_enter Try.func3, Try.ntmps3
  go_wp2_with fail
  refine (awake08_any _).mono ?_
  rintro e w1 ⟨rfl, hg⟩
  have HG := Lib.hid hg
  clear hg
  go_wp2_with fail
  refine (few_any _ _ _ _).mono ?_
  rintro e w2 ⟨rfl, rfl⟩
  rw [decide_eq_true hfew]
  go_wp2_with fail
  refine (new_st (HI.out.same HG.out) HG.out).mono ?_
  rintro e w6 ⟨p, d, rfl, hs⟩
  have HS := Lib.hid hs
  clear hs
  go_wp2_with fail
  refine (next_st HS.out _ (by omega) (by omega)).mono ?_
  rintro e w7 ⟨y, rfl, hy0, hy1, hs, hg⟩
  replace HS := Lib.hid hs
  clear hs hg
  obtain ⟨m, hm⟩ : ∃ m : Nat, 1 + y = (m : Int) := ⟨(1 + y).toNat, by omega⟩
  have hm1 : 1 ≤ m := by omega
  have hm2 : m ≤ 4 := by omega
  have im : IntKind.i64.wrap (1 + y) = (m : Int) := by rw [hm]; exact IntWalk.i64_in _ (by omega)
  clear hm hy0 hy1
  go_wp2_with fail
  refine (corners_ev HS.out m 5 (by omega) (by omega) (by omega)).mono ?_
  rintro e w11 ⟨v1, p1, rfl, hev, hgd, hpl, hpn, hs, hg⟩
  replace HS := Lib.hid hs
  have EV := Lib.hid hev; have PL := Lib.hid hpl; have PN := Lib.hid hpn
  obtain ⟨a1, c1, rfl⟩ : ∃ a c, v1 = .slice a p1.length c := by obtain ⟨a, c, h, -⟩ := hev.at; exact ⟨a, c, h⟩
  have hp5 : p1.length ≤ 5 := by omega
  clear hev hgd hpl hpn hs hg im
  go_wp2_with fail
  refine (below_any m _ p1 _ EV.out.at (by omega) (by omega) (by omega) (fun q hq => ⟨(PN.out q hq).1, small_fin (by omega) (PN.out q hq).1 (fun x hx => by have := (PN.out q hq).2 x hx; omega)⟩)).mono ?_
  rintro e w12 ⟨R, hc, hn, hg, hcase⟩
  have hk : LimOk m R := chain_ok (l := p1.map Prod.snd) hm1 hm2 (fun v hv => by obtain ⟨q, hq, rfl⟩ := List.mem_map.1 hv; exact PN.out q hq) hc
  rcases hcase with ⟨h5, u1, q1, rfl, hr, hgq, rfl, hnew⟩ | ⟨h5, rfl⟩
  case inr => exact absurd hk.few (by omega)
  have HSP : Hid (∀ z : List Int, z.length = m → (∀ x ∈ z, 0 ≤ x ∧ x ≤ 5) → q1.any (fun q => leqI z q.2) = !(p1.any (fun q => leqI q.2 z))) := Lib.hid (fun z hz hx => by
    have h6 := (chain_split (p1.map Prod.snd) _ (fun v hv => by obtain ⟨q, hq, rfl⟩ := List.mem_map.1 hv; exact (PN.out q hq).1) hc).2.2.2 z hz (fun x h => (hx x h).1) (fun x h => by have := (hx x h).2; omega)
    rw [under_any, ← snd_any q1 (leqI z)] at h6
    cases h7 : p1.any (fun q => leqI q.2 z) with
    | false =>
      rw [List.any_eq_false] at h7
      exact h6.2 (fun v hv => by obtain ⟨q, hq, rfl⟩ := List.mem_map.1 hv; have := h7 q hq; simpa using this)
    | true =>
      obtain ⟨q, hq, h8⟩ := List.any_eq_true.1 h7
      cases h9 : q1.any (fun q => leqI z q.2) with
      | false => rfl
      | true => rw [h6.1 h9 q.2 (List.mem_map_of_mem hq)] at h8; cases h8)
  have hlt := HS.out.lt
  replace EV := Lib.hid (EV.out.step hg); replace HS := Lib.hid (HS.out.step hg)
  have EQ := Lib.hid (ev_rows hr hnew hlt); have Q1 := Lib.hid hgq; have K1 := Lib.hid hk
  obtain ⟨b1, d1, rfl⟩ : ∃ a c, u1 = .slice a q1.length c := by obtain ⟨a, c, h, -⟩ := hr; exact ⟨a, c, h⟩
  clear hr hgq hg hnew hk hc hn h5 hlt
  go_wp2_with fail
  refine (check_ok m _ q1 _ EQ.out.at Q1.out K1.out).mono ?_
  rintro e w13 ⟨rfl, hg⟩
  replace HS := Lib.hid (HS.out.step hg); replace EV := Lib.hid (EV.out.step hg); replace EQ := Lib.hid (EQ.out.step hg)
  clear hg
  go_wp2_with fail
  go_loopw [8] (fun i wr => ∃ k : Nat, i = .int .i64 k ∧ k ≤ 10 ∧ Hid (Ev d (fun W => RowsP W (.slice a1 p1.length c1) p1) wr) ∧ Hid (Ev d (fun W => RowsP W (.slice b1 q1.length d1) q1) wr) ∧ Hid (St w wr p d)) (fun i _ => 10 - (intOf i).toNat)
  case atStart => exact ⟨0, rfl, by omega, EV, EQ, HS⟩
  case round =>
    clear EV EQ HS
    obtain ⟨k, rfl, hk, EV, EQ, HS⟩ := hrel
    rename World => wk
    by_cases hk10 : k < 10
    · have g1 : (k : Int) < 10 := by omega
      have i1 : IntKind.i64.wrap ((k : Int) + 1) = (k : Int) + 1 := IntWalk.i64_in _ (by omega)
      go_wp2_with fail
      refine (small5v HS.out m (by omega)).mono ?_
      rintro e w50 ⟨az, cz, z, rfl, hzl, hzx, hzr, hs, hg⟩
      replace EV := Lib.hid (EV.out.deal hg); replace EQ := Lib.hid (EQ.out.deal hg)
      replace HS := Lib.hid hs
      have ZL := Lib.hid hzl; have ZX := Lib.hid hzx; have ZR := Lib.hid hzr
      have HX := Lib.hid (HSP.out z hzl hzx)
      have G0 := Lib.hid (grown_refl w50 none)
      clear hzl hzx hzr hs hg
      go_wp2_with fail
      go_loopw [52, 10] (fun i bv wr => ∃ (t : Nat) (B : Bool), i = .int .i64 t ∧ bv = .bool B ∧ t ≤ p1.length ∧ Hid ((p1.take t).any (fun q => leqI q.2 z) = B) ∧ Hid (w50.grownBy wr none)) (fun i _ _ => p1.length - (intOf i).toNat)
      case atStart => exact ⟨0, false, rfl, rfl, Nat.zero_le _, Lib.hid (by simp), G0⟩
      case round =>
        clear G0
        obtain ⟨t, B, rfl, rfl, ht, hB, hg⟩ := hrel
        rename World => wt
        by_cases hlt2 : t < p1.length
        · have g2 : (t : Int) < (p1.length : Int) := by omega
          have i2 : IntKind.i64.wrap ((t : Int) + 1) = (t : Int) + 1 := IntWalk.i64_in _ (by omega)
          obtain ⟨_, _, hv, _, hc, hrow⟩ := EV.out.on hg.out
          simp only [Value.slice.injEq] at hv
          obtain ⟨rfl, -, rfl⟩ := hv
          obtain ⟨b, off, rfl, hx⟩ := RowsP.at hc hlt2
          have HSN := Lib.hid (any_snoc (fun q => leqI q.2 z) p1 t hlt2)
          have HR := Lib.hid (hrow _ (List.getElem_mem hlt2))
          have HN := Lib.hid (PN.out _ (List.getElem_mem hlt2))
          clear hc hrow
          generalize (p1[t]) = r at *
          obtain ⟨rv, ys⟩ := r
          obtain ⟨ar, cr, hrv⟩ : ∃ a c, rv = .slice a ys.length c := by obtain ⟨⟨a, c, h, -⟩, -⟩ := HR.out; exact ⟨a, c, h⟩
          subst hrv
          dsimp only at hx HR HSN HN
          cases B
          · go_wp2_with fail
            refine (rleq_valid (.slice ar ys.length cr) (.slice az z.length cz) ys z _ HR.out.1 (ZR.out.same hg.out).1 (small_valid (by omega) HN.out.1 (fun x hx => by have := HN.out.2 x hx; omega)) (small_valid (by omega) ZL.out ZX.out) (HN.out.1.trans ZL.out.symm)).mono ?_
            rintro e w31 ⟨rfl, hdr⟩
            have G3 := Lib.hid (grown_trans hg.out (hdr.grown none))
            have HB3 : Hid ((p1.take (t + 1)).any (fun q => leqI q.2 z) = leqI ys z) := Lib.hid (by rw [HSN.out, hB.out]; simp)
            obtain ⟨BS, hBS⟩ : ∃ B, leqI ys z = B := ⟨_, rfl⟩
            rw [hBS] at HB3
            rw [hBS]
            clear hdr hBS
            go_wp2_with fail
            go_roundw
            case rel => exact ⟨t + 1, BS, by go_num, rfl, by omega, HB3, G3⟩
            case measure => (simp [intOf]; try omega)
          · have HB3 : Hid ((p1.take (t + 1)).any (fun q => leqI q.2 z) = true) := Lib.hid (by rw [HSN.out, hB.out]; simp)
            go_wp2_with fail
            go_roundw
            case rel => exact ⟨t + 1, true, by go_num, rfl, by omega, HB3, hg⟩
            case measure => (simp [intOf]; try omega)
        · have g2 : ¬ (t : Int) < (p1.length : Int) := by omega
          have HB4 : Hid (p1.any (fun q => leqI q.2 z) = B) := Lib.hid (by rw [← hB.out, List.take_of_length_le (by omega)])
          have HX2 : Hid (q1.any (fun q => leqI z q.2) = !B) := Lib.hid (by rw [HX.out, HB4.out])
          have ZF := Lib.hid (small_fin (by omega) ZL.out ZX.out)
          clear HX HB4 hB
          go_wp2_with fail
          refine (has_any m _ _ q1 z _ (EQ.out.on hg.out) Q1.out K1.out (ZR.out.same hg.out) ZL.out ZF.out).mono ?_
          rintro e w51 ⟨rfl, hg2⟩
          rw [HX2.out]
          have G4 := Lib.hid (grown_trans hg.out hg2)
          clear hg2 hg HX2
          cases B
          all_goals
            go_wp2_with fail
            have hg := G4.out
            replace EV := Lib.hid (EV.out.step hg); replace EQ := Lib.hid (EQ.out.step hg); replace HS := Lib.hid (HS.out.step hg)
            clear hg
            go_roundw
            case rel => exact ⟨k + 1, by go_num, by omega, EV, EQ, HS⟩
            case measure => (simp [intOf]; try omega)
    · obtain rfl : k = 10 := by omega
      have g1 : ¬ (((10 : Nat) : Int)) < 10 := by omega
      go_wp2_with fail
      go_ret
      exact ⟨rfl, below_of HS.out.2.1⟩

/-! ### LimitSplits: the statement, from its walk -/
set_option maxRecDepth 100000 in
theorem liftedLimitSplits (os : Os) (started : os.Started) (H : Type) (enc : TypeId × Value → H) :
    ReturnsInHanded {} Try.checked os 3 .any (Rows.limitSplitsSpec.pre6 enc Try.prog Try.f3 Rows.limitSplitsRow.domain false) (Rows.limitSplitsSpec.post enc Try.prog Try.f3 false true false false) := by
  refine returnsInHanded_of_change (C := Try.checked) own started (by kernel_rfl) Try.func3
    (ChangeSpec.witness6 (enc := enc) (C := Try.checked) false ⟨#[], #[.slice none 0 0], []⟩ 8 (by kernel_rfl) (by kernel_rfl) (by kernel_rfl) (by kernel_rfl)) ?_
  intro W base args ds gs before hval0 hW hcnd _
  have hval : ∀ (j : Nat) t v, Try.f3.params[j]? = some t → args[j]? = some v → Value.okWide Try.prog W .any base t v := hval0
  have hW' := hW
  obtain ⟨p, q, hA0, hV, rfl, hfz, hnd⟩ := hW
  have hA : DataW.TrodAll enc Try.prog W 0 (fun _ => true) true Try.f3.params.toList args.toList ds p := hA0
  rw [Try.params3] at hA hval
  obtain ⟨v0, vs0, d0, ds0, p0, q0, hargs, rfl, rfl, h0, r0⟩ := trodAll_cons hA
  obtain ⟨rfl, rfl, rfl⟩ := trodAll_nil r0
  obtain rfl : args = #[v0] := by cases args; simp_all
  obtain ⟨rfl, rfl⟩ := trodVars_none hV
  obtain ⟨a0, len0, cap0, rfl⟩ := okWide_slice Try.underlying22 (hval 0 22 v0 rfl rfl)
  have k0 := h0
  have lt0 : ∀ x ∈ p0, x.block < W.heap.size := by obtain ⟨m, hm⟩ := k0; exact DataW.trod_lt m _ _ _ hm
  obtain ⟨z0, w0⟩ : ∃ zs, IsRow .i64 W a0 len0 cap0 zs := by
    obtain ⟨fuel, hf⟩ := h0
    rcases open_ints Try.underlying22 Try.underlying3 (by kernel_rfl) hf with ⟨hcs, _⟩ | ⟨x, l, c, zs, hcs, _, hl, hm, hz, _, hcell, hwz⟩
    · simp [Value.cells] at hcs
      obtain ⟨rfl, rfl, rfl⟩ := hcs
      exact ⟨[], .inl ⟨rfl, rfl, rfl, rfl⟩⟩
    · simp [Value.cells] at hcs
      obtain ⟨rfl, rfl, rfl⟩ := hcs
      exact ⟨zs, .inr ⟨_, rfl, hl, hm, by simpa using hz, hcell, hwz⟩⟩
  clear hA0 hval0
  refine (walkLimitSplits a0 len0 cap0 z0 W w0).mono fun e W' ⟨he, bel⟩ => ?_
  subst he
  exact ⟨_, rfl, _, _, _, [], _, [], hW', trodAll_mk1 (shut_bool Try.underlying4 _), (trodAll_cons_mk (Below.trod laidOut (by kernel_rfl) (of_decide_eq_true (by kernel_rfl)) k0 bel lt0) trodAll_mk0), rfl, bel.frame _, fun h => by cases h⟩

theorem limitSplits_holds : Rows.LimitSplitsSaid :=
  OpenClaim.holds_of_wide 3 Try.f3 rfl rfl rfl rfl rfl rfl rfl ⟨rfl, rfl, rfl, rfl, rfl⟩ rfl rfl rfl rfl rfl (by kernel_rfl) Try.func3 (by kernel_rfl)
    (of_decide_eq_true (by kernel_rfl)) (by unfold Func.isWrapper; first | (rw [if_pos (by decide +kernel)]; kernel_rfl) | (rw [if_neg (by decide +kernel)]; exact ⟨rfl, rfl⟩))
    (fun os started H enc _ => liftedLimitSplits os started H enc)
#print axioms limitSplits_holds
end Go.Proofs.Ytahffjoehjpfkaa
