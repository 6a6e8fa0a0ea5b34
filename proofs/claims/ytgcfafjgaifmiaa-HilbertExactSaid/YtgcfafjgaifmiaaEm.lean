/- hilbert.Split. -/
import Derived.Test.YtgcfafjgaifmiaaEl
namespace Go.Proofs.Ytgcfafjgaifmiaa
open Go.RowKit
set_option linter.unusedVariables false

theorem sumI_snoc (x : List Int) (k : Nat) (h : k < x.length) : sumI (x.take (k + 1)) = sumI (x.take k) + x[k]?.getD 0 := by
  rw [take_snoc' x k h]
  have : ∀ (l : List Int) (z : Int), sumI (l ++ [z]) = sumI l + z := by
    intro l z
    induction l with
    | nil => show z + 0 = 0 + z; omega
    | cons a l ih => show a + sumI (l ++ [z]) = a + sumI l + z; rw [ih]; omega
  exact this _ _
def SplitGot (w : World) (ps : List (List Int)) (x : List Int) (e : Ending) (w' : World) : Prop :=
  ∃ v qs, e = .returned (.tuple #[v, .int .i64 0]) ∧ RowsP w' v qs ∧ Good v ∧ SplitOk ps x (qs.map Prod.snd) ∧ w.grownBy w' none ∧ NewR w.heap.size v qs
theorem minL_ok {c mst : Nat} {good : List Int → Bool} (hmst : mst ≤ 10) : ∀ p ∈ minL good (vecs c mst), VecOk c p ∧ (∀ z ∈ p, z ≤ 10) ∧ good p = true ∧ sumI p ≤ (mst : Int) := by
  intro p hp
  have hv : ∀ v ∈ vecs c mst, v.length = c ∧ ∀ z ∈ v, 0 ≤ z := fun v h => ⟨((mem_vecs c mst v).1 h).1, ((mem_vecs c mst v).1 h).2.1⟩
  have h1 := ((minL_all hv (vecs_asc c mst)).2 p).1 hp
  have h2 := (mem_vecs c mst p).1 h1.1
  have h3 : ∀ z ∈ p, z ≤ 10 := fun z hz => by
    have key : ∀ (l : List Int), (∀ y ∈ l, 0 ≤ y) → z ∈ l → z ≤ sumI l := by
      intro l
      induction l with
      | nil => intro _ h; simp at h
      | cons a l ih =>
        intro hl h
        have e : sumI (a :: l) = a + sumI l := rfl
        have h0 := sumI_nn (v := l) (fun y hy => hl y (by simp [hy]))
        have ha := hl a (by simp)
        rcases List.mem_cons.1 h with rfl | h
        · omega
        · have := ih (fun y hy => hl y (by simp [hy])) h; omega
    have := key p h2.2.1 hz
    omega
  exact ⟨⟨h2.1, fun z hz => ⟨h2.2.1 z hz, by have := h3 z hz; omega⟩⟩, h3, h1.2.1, h2.2.2⟩
set_option maxRecDepth 100000 in
set_option maxHeartbeats 4000000 in
theorem Split_any {r c s : Nat} {ms : List Row} {va vx : Value} {x : List Int} {w : World} (h : RowsP w va ms) (hm : MatOkP r c ms) (hr : r ≤ 6) (hc : c ≤ 6) (hx : Ints w vx x) (hxo : x.length = c ∧ ∀ z ∈ x, 0 ≤ z ∧ z ≤ 10) (hs : sumI x = (s : Int)) (hs10 : s ≤ 10) (hsol : solB ms (zerosL r) x = true) :
    Calls Try.prog 24 #[va, vx] w (SplitGot w (minL (goodB ms (zerosL r) someB) (vecs c s)) x) := by
  have HM := Lib.hid hm; have HA := Lib.hid h; have HX := Lib.hid hx; have HXO := Lib.hid hxo; have HSOL := Lib.hid hsol; have HSS := Lib.hid hs
  have HVO : Hid (VecOk c x) := Lib.hid ⟨hxo.1, fun z hz => by have := hxo.2 z hz; omega⟩
  obtain ⟨hl, hr1, hr12, hc1, hc12, hrc, hq⟩ := hm
  obtain ⟨aa, capa, rfl, -⟩ : ∃ a cap, va = .slice a ms.length cap ∧ True := by obtain ⟨a, cap, h, -⟩ := h; exact ⟨a, cap, h, trivial⟩
  obtain ⟨ax, cx, hvx, hxl, -, hxc⟩ := id hx
  subst hvx
  have h0 : 0 < ms.length := by omega
  obtain ⟨b, off, a2, c2, rfl, hc0, -, -⟩ := h.row h0
  rw [(hq _ (List.getElem_mem h0)).1, Nat.add_zero] at hc0
  have p1 : 0 < (ms.length : Int) := by omega
  have p4 : ((x.length : Int) != (c : Int)) = false := by have := hxo.1; simp; omega
  have hx6 : x.length ≤ 6 := by omega
  have hl6 : ms.length ≤ 6 := by omega
  have HL := Lib.hid hl; have HC0 := Lib.hid hc0
  clear h hx hxo hq hl hsol hs hc0 hxl hxc
  go_enter Try.func24, Try.ntmps24
  go_wp2_with (at_make; refine make_int rfl _ _ rfl ms.length rfl rfl (by omega) ?_)
  intro w1 ho hg
  have HZ : Hid (Ints w1 (.slice (some ⟨w.heap.size, 0, none⟩) ms.length ms.length) (zerosL r)) := Lib.hid (by rw [← HL.out]; exact ho.ints (zeros_bd _))
  have HG := Lib.hid hg
  have hc1' := hg.cell HC0.out (by simp)
  clear ho hg
  go_wp2_with fail
  refine (hcheck_any (HA.out.same HG.out) HM.out hr hc HZ.out (zeros_ok r)).mono ?_
  rintro e w2 ⟨rfl, hw⟩
  replace hw := hw.symm
  subst hw
  go_wp2_with fail
  clear p4 hc1'
  go_loopw [33, 8] (fun i s wr => ∃ k : Nat, k ≤ x.length ∧ i = .int .i64 k ∧ s = .int .i64 (sumI (x.take k)) ∧ wr = w1) (fun i _ _ => x.length - (intOf i).toNat)
  case atStart => exact ⟨0, Nat.zero_le _, rfl, rfl, rfl⟩
  case round =>
    obtain ⟨k, hk, rfl, rfl, rfl⟩ := hrel
    have hbd : 0 ≤ sumI (x.take k) ∧ sumI (x.take k) ≤ 10 * (k : Int) := by
      have key : ∀ (l : List Int), (∀ y ∈ l, 0 ≤ y ∧ y ≤ 10) → 0 ≤ sumI l ∧ sumI l ≤ 10 * (l.length : Int) := by
        intro l
        induction l with
        | nil => intro _; exact ⟨Int.le_refl _, Int.le_refl _⟩
        | cons a l ih =>
          intro hl
          have e : sumI (a :: l) = a + sumI l := rfl
          have h0 := ih (fun y hy => hl y (by simp [hy]))
          have ha := hl a (by simp)
          rw [e, List.length_cons]
          omega
      have := key (x.take k) (fun y hy => HXO.out.2 y (List.mem_of_mem_take hy))
      rw [List.length_take] at this
      omega
    by_cases hlt : k < x.length
    · obtain ⟨_, _, hv, _, _, hxc⟩ := HX.out.same HG.out
      simp only [Value.slice.injEq] at hv
      obtain ⟨rfl, -, -⟩ := hv
      obtain ⟨bb, ob, rfl, hx⟩ := Ints.at hxc hlt
      have hxb := mem_at HXO.out.2 hlt
      have HSN := Lib.hid (sumI_snoc x k hlt)
      have h1 : (k : Int) < (x.length : Int) := by omega
      have i1 : IntKind.i64.wrap ((k : Int) + 1) = (k : Int) + 1 := IntWalk.i64_in _ (by omega)
      have i2 : IntKind.i64.wrap (sumI (x.take k) + x[k]?.getD 0) = sumI (x.take (k + 1)) := by rw [HSN.out]; exact IntWalk.i64_in _ (by omega)
      generalize x[k]?.getD 0 = z at *
      have h2 : ¬ z < 0 := by omega
      have h3 : ¬ (10 : Int) < z := by omega
      have h2d : decide (z < 0) = false := by simp; omega
      have h3d : decide ((10 : Int) < z) = false := by simp; omega
      clear hxc hxb hbd
      go_wp2_with fail
      go_roundw
      case rel => exact ⟨k + 1, by omega, by go_num, rfl, trivial⟩
      case measure => simp [intOf]; omega
    · have hk2 : k = x.length := by omega
      have e1 : sumI (x.take k) = (s : Int) := by rw [hk2, List.take_length]; exact HSS.out
      rw [e1]
      have h1 : ¬ (k : Int) < (x.length : Int) := by omega
      have h2 : ¬ (10 : Int) < (s : Int) := by omega
      clear e1 hbd hk2
      go_wp2_with fail
      refine (hsolves_any (HA.out.same HG.out) HM.out hr hc HZ.out (zeros_ok r) (HX.out.same HG.out) HVO.out).mono ?_
      rintro e w3 ⟨rfl, hg⟩
      rw [HSOL.out]
      have HG3 := Lib.hid (grown_trans HG.out hg)
      clear hg
      go_wp2_with fail
      refine (Free_any (HA.out.same HG3.out) HM.out hr hc hs10).mono ?_
      rintro e w4 ⟨v4, qs, rfl, ho, hq, hg⟩
      have HO := Lib.hid ho; have HQ := Lib.hid hq; have HG4 := Lib.hid (grown_trans HG3.out hg)
      have HQO : Hid (∀ q ∈ qs, VecOk c q.2 ∧ (∀ z ∈ q.2, z ≤ 1048576) ∧ someB q.2 = true) := Lib.hid (fun q hq => by
        have h1 := minL_ok hs10 q.2 (HQ.out ▸ List.mem_map_of_mem hq)
        have h2 := h1.2.2.1
        unfold goodB at h2
        rw [Bool.and_eq_true] at h2
        exact ⟨h1.1, fun z hz => by have := h1.2.1 z hz; omega, h2.2⟩)
      have HQL : Hid (qs.length ≤ 2000000) := Lib.hid (by
        have h7 := minL_len (goodB ms (zerosL r) someB) (vecs c s)
        rw [← HQ.out, List.length_map] at h7
        have h8 := vecs_len c s
        have h9 : (s + 1) ^ c ≤ 11 ^ 6 := Nat.le_trans (Nat.pow_le_pow_left (by omega) _) (Nat.pow_le_pow_right (by omega) hc)
        have h10 : (11 : Nat) ^ 6 = 1771561 := by decide
        omega)
      obtain ⟨a4, c4, rfl⟩ := HO.out.slice
      clear ho hq hg
      go_wp2_with fail
      refine (split_any hc1 hc s x qs _ _ w4 (by rw [HSS.out]; exact Int.le_refl _) (by omega) HO.out.rowsP HO.out.own.good HQO.out HQL.out (HX.out.same HG4.out) HVO.out).mono ?_
      rintro e w5 (⟨v5, rs, rfl, hr5, hs5, hg⟩ | ⟨rfl, hn, hg⟩)
      · have HR5 := Lib.hid hr5; have HS5 := Lib.hid hs5; have HG5 := Lib.hid (grown_trans HG4.out hg)
        obtain ⟨a5, c5, rfl, -⟩ : ∃ a cap, v5 = .slice a rs.length cap ∧ True := by obtain ⟨a, cap, h, -⟩ := hr5; exact ⟨a, cap, h, trivial⟩
        have HLR : Hid (rs.length ≤ 1000) := Lib.hid (by
          have h1 := hs5.len (c := c) (fun q hq => by
            obtain ⟨z, hz, rfl⟩ := List.mem_map.1 hq
            have := HQO.out z hz
            exact ⟨this.1.nn, this.2.2⟩) HVO.out.nn
          rw [HSS.out, List.length_map] at h1
          omega)
        have HLV : Hid (∀ q ∈ rs, 1 ≤ q.2.length ∧ q.2.length ≤ 1000) := Lib.hid (fun q hq => by
          have h1 := hs5.mem q.2 (List.mem_map_of_mem hq)
          obtain ⟨z, hz, e⟩ := List.mem_map.1 h1
          have := (HQO.out z hz).1.1
          rw [← e]
          omega)
        clear hr5 hs5 hg
        go_wp2_with fail
        refine (lists_any _ rs w5 HR5.out HLR.out HLV.out).mono ?_
        rintro e w6 ⟨v6, ts, rfl, hr6, hgo, hq6, hg6, hn6⟩
        have HR6 := Lib.hid hr6; have HGO := Lib.hid hgo; have HQ6 := Lib.hid hq6; have HG6 := Lib.hid (grown_trans HG5.out hg6)
        have HN6 : Hid (NewR w.heap.size v6 ts) := Lib.hid ⟨fun g h => Nat.le_trans HG5.out.size (hn6.1 g h), fun q hq g h => Nat.le_trans HG5.out.size (hn6.2 q hq g h)⟩
        obtain ⟨a6, c6, rfl, -⟩ : ∃ a cap, v6 = .slice a ts.length cap ∧ True := by obtain ⟨a, cap, h, -⟩ := hr6; exact ⟨a, cap, h, trivial⟩
        clear hr6 hgo hq6 hg6 hn6
        go_wp2_with fail
        go_ret2
        exact ⟨_, ts, rfl, HR6.out, HGO.out, by rw [HQ6.out, ← HQ.out]; exact HS5.out, HG6.out, HN6.out⟩
      · exfalso
        obtain ⟨M, hM, hMs⟩ := exists_sum HM.out s s x (by rw [HSS.out]; exact Int.le_refl _) (Nat.le_refl _) HVO.out.nn HSOL.out
        obtain ⟨L, hL⟩ := exists_split (c := c) (qs.map Prod.snd) (fun p hp => by
          obtain ⟨z, hz, rfl⟩ := List.mem_map.1 hp
          have := HQO.out z hz
          exact ⟨this.1.nn, this.2.2⟩) M.length M rfl (fun p hp => by rw [HQ.out]; exact hM p hp)
        rw [hMs] at hL
        exact hn L hL
end Go.Proofs.Ytgcfafjgaifmiaa
