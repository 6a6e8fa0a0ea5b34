/- Contracts of the reference of layer 1: sums, maxima, minima. -/
import Derived.Test.YtaolnlnjgoakdaaG
import Derived.Deep.RegionLaw
namespace Go.Proofs.Ytaolnlnjgoakdaa
open Go.ChangeShapes Go.WideShapes Go.ChangeAt Go.RowKit
set_option linter.unusedVariables false

theorem cell_new {w : World} {g : Nat} {v : Value} {e : TypeId} (h : g = w.heap.size) : (w.alloc (.cells #[v] e)).cell? ⟨g, 0, none⟩ = some v := by subst h; simp
theorem cell_new_drew {w : World} {g : Nat} {v : Value} {e : TypeId} (h : g = w.heap.size) : (w.alloc (.cells #[v] e)).drew.cell? ⟨g, 0, none⟩ = some v := cell_new h
theorem step_app_int {ops : Array Oper} {o : Oper} {a : Act} {w : World} {K : Act → World → Prop} {Q : Exit → Act → World → Prop} {E : Prop} (hgd : o.guard = none) (s x : Operand)
    (ho : o.op = .call { callee := .builtin .append, args := #[s, x], argTypes := #[22, 22] }) (base : Nat) (v : Value) (xs : List Int) (hs : a.eval s = v)
    (hown : OwnI w base v xs) (b : Nat) (y : Int) (hx : a.eval x = .slice (some ⟨b, 0, none⟩) 1 1) (hnew : w.cell? ⟨b, 0, none⟩ = some (.int .i64 y))
    (hlen : xs.length ≤ 1000000000000) (hbase : base ≤ w.heap.size)
    (h : ∀ v' w', OwnI w' base v' (xs ++ [y]) → w.grownBy w' v.ownBlock → K (a.put o.dst v') w') : if Region.wanted o (yielded ops a.tmps) = true then Oper.wp Try.prog o a w K Q else E := by
  have hw : Region.wanted o (yielded ops a.tmps) = true := by simp [Region.wanted, hgd]
  rw [if_pos hw]
  obtain ⟨i, hi, hz0, hz1, hz2⟩ := info_parts info_int
  refine wp_append_own (w := w) s x 22 ho base 3 i (.int .i64 0) 1 8 Try.underlying22 hi hz0 hz1 hz2 rfl (by decide) v xs.length (xs.map (Value.int .i64)) hs hown ⟨b, 0, none⟩ 1 1 [.int .i64 y] hx rfl ?_ ?_ ?_ ?_ hbase ?_
  · intro j u hu
    cases j with
    | zero => simp at hu; subst hu; simpa [Addr.add] using hnew
    | succ j => simp at hu
  · intro u hu; simp at hu; subst hu; rfl
  · unfold maxLen; omega
  · omega
  · intro v' w' h1 h2 _
    refine h v' w' ?_ h2
    unfold OwnI
    simpa using h1
theorem grown_drew (w : World) (row : Option Nat) : w.grownBy w.drew row := ⟨rfl, rfl, rfl, Nat.le_refl _, fun _ _ _ => rfl⟩
theorem zs_snoc {Z zs : List Int} {k : Nat} {z : Int} (h : zs = Z.take k) (hk : k < Z.length) (hz : Z[k]?.getD 0 = z) : zs ++ [z] = Z.take (k + 1) := by
  rw [take_snoc' Z k hk, h, hz]
theorem elemB_add {x y : Int} (hx : elemB x = true) (hy : elemB y = true) : elemB (addI x y) = (x == 1099511627776 || y == 1099511627776 || decide (x + y ≤ 1048576)) := by
  rw [Bool.eq_iff_iff]
  unfold elemB numB at *
  unfold addI
  simp at *
  split <;> omega
theorem validB_elem {xs : List Int} (h : validB xs = true) : ∀ x ∈ xs, elemB x = true := by
  unfold validB at h
  rw [Bool.and_eq_true, List.all_eq_true] at h
  exact h.2
theorem elemB_bd {x : Int} (h : elemB x = true) : 0 ≤ x ∧ x ≤ 1099511627776 := by
  unfold elemB numB at h
  simp at h
  omega
theorem addR_ok {a b : List Int} (h : checkI a b = 0) (hv : (List.zipWith addI a b).all elemB = true) : addR a b = (0, List.zipWith addI a b) := by
  obtain ⟨h1, h2, h3⟩ := checkI_zero h
  have := (validB_le h1).1
  unfold addR
  rw [if_neg (by rw [h]; simp), if_pos]
  unfold validB
  rw [hv, Bool.and_true]
  simp
  omega
theorem addR_no {a b : List Int} {k : Nat} (h : checkI a b = 0) (hv : ((List.zipWith addI a b).take k).all elemB = false) : addR a b = (1, []) := by
  unfold addR
  rw [if_neg (by rw [h]; simp), if_neg]
  rw [validB, all_of_false _ _ _ hv, Bool.and_false]
  simp

set_option maxHeartbeats 1000000 in
theorem radd_any (va vb : Value) (xs ys : List Int) (w : World) (h : Ints w va xs) (h' : Ints w vb ys) :
    Calls Try.prog 22 #[va, vb] w (Gives (addR xs ys) w) := by
  have H := Lib.hid h; have H' := Lib.hid h'
  clear h h'
  by_cases h1 : checkI xs ys = 0
  · have H1 := Lib.hid h1
    clear h1
    obtain ⟨v1, v2, v3⟩ := checkI_zero H1.out
    have b1 := validB_le v1
    have V1 := Lib.hid (validB_elem v1); have V2 := Lib.hid (validB_elem v2)
    have hle : xs.length ≤ ys.length := by omega
    have hge : ys.length ≤ xs.length := by omega
    have hl6 := b1.1
    clear v1 v2 v3 b1
    obtain ⟨a, cap, rfl, hm, -, -⟩ := H.out
    obtain ⟨a', cap', rfl, hm', -, -⟩ := H'.out
    unfold maxLen at hm hm'
    go_enter Try.func22, Try.ntmps22
    go_wp2_with fail
    refine (fault_any _ _ _ _ _ H.out H'.out).mono ?_; rintro e w' ⟨rfl, rfl⟩
    rw [H1.out]
    go_wp2_with fail
    go_loopw [7, 8] (fun v i wr => ∃ (k : Nat) (zs : List Int), i = .int .i64 k ∧ k ≤ xs.length ∧ zs.length = k ∧ Hid (zs = (List.zipWith addI xs ys).take k) ∧ Hid (zs.all elemB = true) ∧ Hid (OwnI wr w'.heap.size v zs) ∧ Hid (w'.grownBy wr none)) (fun _ i _ => xs.length - (intOf i).toNat)
    case atStart => exact ⟨0, [], rfl, Nat.zero_le _, rfl, Lib.hid (by simp), Lib.hid rfl, Lib.hid (OwnI.nil _ _), Lib.hid (grown_refl _ _)⟩
    case round =>
    obtain ⟨k, zs, rfl, hk, hlz, hz, ha, ho, hg⟩ := hrel
    by_cases hlt : k < xs.length
    · skip
      have hlt' : k < ys.length := by omega
      obtain ⟨_, _, hv, _, _, hc⟩ := H.out.same hg.out
      simp only [Value.slice.injEq] at hv
      obtain ⟨rfl, -, -⟩ := hv
      obtain ⟨_, _, hv, _, _, hc'⟩ := H'.out.same hg.out
      simp only [Value.slice.injEq] at hv
      obtain ⟨rfl, -, -⟩ := hv
      obtain ⟨b, off, rfl, hx⟩ := Ints.at hc hlt
      obtain ⟨b', off', rfl, hx'⟩ := Ints.at hc' hlt'
      have EX := Lib.hid (mem_at (P := fun x => elemB x = true) V1.out hlt)
      have EY := Lib.hid (mem_at (P := fun x => elemB x = true) V2.out hlt')
      obtain ⟨hx0, hx1⟩ := elemB_bd EX.out
      obtain ⟨hy0, hy1⟩ := elemB_bd EY.out
      have HZ := Lib.hid (zip_at addI xs ys k hlt hlt')
      have HK : Hid (k < (List.zipWith addI xs ys).length) := Lib.hid (by simp; omega)
      have h1 : (k : Int) < (xs.length : Int) := by omega
      have h2 : (k : Int) < (ys.length : Int) := by omega
      clear hc hc'
      generalize xs[k]?.getD 0 = x at *
      generalize ys[k]?.getD 0 = y at *
      by_cases hp : x = 1099511627776
      · subst hp
        go_wp2_with fail
        go_quiet (fail)
        have hs1 := hg.out.size
        go_wp2_with (at_builtin; refine app_int rfl _ _ rfl w'.heap.size _ zs rfl (ho.out.kept (grown_trans (grown_drewN _ _ none) (World.grownBy_alloc _ _ none)) (by simp)) wr.heap.size 1099511627776 rfl (cell_new rfl) (by omega) (by simp; omega) ?_)
        intro v' w9 ho2 hg2
        have HO9 := Lib.hid ho2
        have HG9 := Lib.hid (grown_then (grown_trans hg.out (grown_trans (grown_drewN _ _ none) (World.grownBy_alloc _ _ none))) hg2 (fun j hj => .inl (ho.out.fresh j hj).1))
        clear ho2 hg2
        go_wp2_with fail
        go_roundw
        case rel => exact ⟨k + 1, zs ++ [_], by go_num, by omega, by simp; omega, Lib.hid (zs_snoc hz.out HK.out (by rw [HZ.out]; unfold addI; rw [if_pos (.inl rfl)])), Lib.hid (by rw [List.all_append, ha.out]; rfl), HO9, HG9⟩
        case measure => simp [intOf]; omega
      have hp1 : (x == 1099511627776) = false := by simpa using hp
      have HP := Lib.hid hp
      clear hp
      by_cases hq : y = 1099511627776
      · subst hq
        go_wp2_with fail
        go_quiet (fail)
        have hs1 := hg.out.size
        go_wp2_with (at_builtin; refine app_int rfl _ _ rfl w'.heap.size _ zs rfl (ho.out.kept (grown_trans (grown_drewN _ _ none) (World.grownBy_alloc _ _ none)) (by simp)) wr.heap.size 1099511627776 rfl (cell_new rfl) (by omega) (by simp; omega) ?_)
        intro v' w9 ho2 hg2
        have HO9 := Lib.hid ho2
        have HG9 := Lib.hid (grown_then (grown_trans hg.out (grown_trans (grown_drewN _ _ none) (World.grownBy_alloc _ _ none))) hg2 (fun j hj => .inl (ho.out.fresh j hj).1))
        clear ho2 hg2
        go_wp2_with fail
        go_roundw
        case rel => exact ⟨k + 1, zs ++ [_], by go_num, by omega, by simp; omega, Lib.hid (zs_snoc hz.out HK.out (by rw [HZ.out]; unfold addI; rw [if_pos (.inr rfl)])), Lib.hid (by rw [List.all_append, ha.out]; rfl), HO9, HG9⟩
        case measure => simp [intOf]; omega
      have hq1 : (y == 1099511627776) = false := by simpa using hq
      have HQ := Lib.hid hq
      clear hq
      have HA : Hid (addI x y = x + y) := Lib.hid (by unfold addI; rw [if_neg (by have := HP.out; have := HQ.out; omega)])
      have HE : Hid (elemB (x + y) = decide (x + y ≤ 1048576)) := Lib.hid (by have := elemB_add EX.out EY.out; rwa [HA.out, hp1, hq1] at this)
      by_cases hs : x + y ≤ 1048576
      · go_wp2_with fail
        go_quiet (fail)
        have hs1 := hg.out.size
        go_wp2_with (at_builtin; refine app_int rfl _ _ rfl w'.heap.size _ zs rfl (ho.out.kept (grown_trans (grown_drewN _ _ none) (World.grownBy_alloc _ _ none)) (by simp)) wr.heap.size (x + y) rfl (cell_new rfl) (by omega) (by simp; omega) ?_)
        intro v' w9 ho2 hg2
        have HO9 := Lib.hid ho2
        have HG9 := Lib.hid (grown_then (grown_trans hg.out (grown_trans (grown_drewN _ _ none) (World.grownBy_alloc _ _ none))) hg2 (fun j hj => .inl (ho.out.fresh j hj).1))
        clear ho2 hg2
        go_wp2_with fail
        go_roundw
        case rel => exact ⟨k + 1, zs ++ [_], by go_num, by omega, by simp; omega, Lib.hid (zs_snoc hz.out HK.out (by rw [HZ.out, HA.out])), Lib.hid (by rw [List.all_append, ha.out]; simp [HE.out, hs]), HO9, HG9⟩
        case measure => simp [intOf]; omega
      · go_wp2_with fail
        go_quiet (fail)
        go_wp2_with fail
        go_ret2
        rw [addR_no (k := k + 1) H1.out (by rw [← zs_snoc hz.out HK.out (by rw [HZ.out, HA.out]), List.all_append, ha.out]; simp [HE.out]; omega)]
        exact Gives.nil _ _ _ (grown_trans hg.out (grown_drewN _ _ none))
    · go_wp2_with fail
      go_ret2
      have hq : zs = List.zipWith addI xs ys := by rw [hz.out, List.take_of_length_le (by simp; omega)]
      rw [addR_ok H1.out (hq ▸ ha.out)]
      exact ⟨_, rfl, hq ▸ ho.out, hg.out⟩
  · have H1 := Lib.hid h1
    have h2 : (checkI xs ys != 0) = true := by simp [h1]
    clear h1
    go_enter Try.func22, Try.ntmps22
    go_wp2_with fail
    refine (fault_any _ _ _ _ _ H.out H'.out).mono ?_; rintro e w' ⟨rfl, rfl⟩
    go_wp2_with fail
    go_ret2
    rw [show addR xs ys = (checkI xs ys, []) by unfold addR; rw [if_pos H1.out]]
    exact Gives.nil _ _ _ (grown_refl _ _)

set_option maxHeartbeats 1000000 in
theorem rmax_any (va vb : Value) (xs ys : List Int) (w : World) (h : Ints w va xs) (h' : Ints w vb ys) :
    Calls Try.prog 27 #[va, vb] w (Gives (maxR xs ys) w) := by
  have H := Lib.hid h; have H' := Lib.hid h'
  clear h h'
  by_cases h1 : checkI xs ys = 0
  · have H1 := Lib.hid h1
    clear h1
    obtain ⟨v1, v2, v3⟩ := checkI_zero H1.out
    have b1 := validB_le v1
    have V1 := Lib.hid (validB_elem v1); have V2 := Lib.hid (validB_elem v2)
    have hle : xs.length ≤ ys.length := by omega
    have hge : ys.length ≤ xs.length := by omega
    have hl6 := b1.1
    clear v1 v2 v3 b1
    obtain ⟨a, cap, rfl, hm, -, -⟩ := H.out
    obtain ⟨a', cap', rfl, hm', -, -⟩ := H'.out
    unfold maxLen at hm hm'
    go_enter Try.func27, Try.ntmps27
    go_wp2_with fail
    refine (fault_any _ _ _ _ _ H.out H'.out).mono ?_; rintro e w' ⟨rfl, rfl⟩
    rw [H1.out]
    go_wp2_with fail
    go_loopw [7, 8] (fun v i wr => ∃ (k : Nat) (zs : List Int), i = .int .i64 k ∧ k ≤ xs.length ∧ zs.length = k ∧ Hid (zs = (List.zipWith max xs ys).take k) ∧ Hid (OwnI wr w'.heap.size v zs) ∧ Hid (w'.grownBy wr none)) (fun _ i _ => xs.length - (intOf i).toNat)
    case atStart => exact ⟨0, [], rfl, Nat.zero_le _, rfl, Lib.hid (by simp), Lib.hid (OwnI.nil _ _), Lib.hid (grown_refl _ _)⟩
    case round =>
    obtain ⟨k, zs, rfl, hk, hlz, hz, ho, hg⟩ := hrel
    by_cases hlt : k < xs.length
    · skip
      have hlt' : k < ys.length := by omega
      obtain ⟨_, _, hv, _, _, hc⟩ := H.out.same hg.out
      simp only [Value.slice.injEq] at hv
      obtain ⟨rfl, -, -⟩ := hv
      obtain ⟨_, _, hv, _, _, hc'⟩ := H'.out.same hg.out
      simp only [Value.slice.injEq] at hv
      obtain ⟨rfl, -, -⟩ := hv
      obtain ⟨b, off, rfl, hx⟩ := Ints.at hc hlt
      obtain ⟨b', off', rfl, hx'⟩ := Ints.at hc' hlt'
      have EX := Lib.hid (mem_at (P := fun x => elemB x = true) V1.out hlt)
      have EY := Lib.hid (mem_at (P := fun x => elemB x = true) V2.out hlt')
      obtain ⟨hx0, hx1⟩ := elemB_bd EX.out
      obtain ⟨hy0, hy1⟩ := elemB_bd EY.out
      have HZ := Lib.hid (zip_at max xs ys k hlt hlt')
      have HK : Hid (k < (List.zipWith max xs ys).length) := Lib.hid (by simp; omega)
      have h1 : (k : Int) < (xs.length : Int) := by omega
      have h2 : (k : Int) < (ys.length : Int) := by omega
      clear hc hc'
      generalize xs[k]?.getD 0 = x at *
      generalize ys[k]?.getD 0 = y at *
      have hs1 := hg.out.size
      have HV : Hid (max x y = (if x < y then y else x)) := Lib.hid (by split <;> omega)
      go_wp2_with fail
      go_region_law (refine step_app_int rfl _ _ rfl w'.heap.size _ zs rfl (ho.out.kept (grown_trans (World.grownBy_alloc _ _ none) (grown_drew _ none)) (by simp)) wr.heap.size (if x < y then y else x) rfl (cell_new_drew rfl) (by omega) (by simp; omega) ?_; intro v' w9 ho2 hg2; have HO9 := Lib.hid ho2; have HG9 := Lib.hid (grown_then (grown_trans hg.out (grown_trans (World.grownBy_alloc _ _ none) (grown_drew _ none))) hg2 (fun j hj => .inl (ho.out.fresh j hj).1)); clear ho2 hg2)
      all_goals
        go_wp2_with fail
        go_roundw
        case rel => exact ⟨k + 1, zs ++ [_], by go_num, by omega, by simp; omega, Lib.hid (zs_snoc hz.out HK.out (by rw [HZ.out, HV.out])), HO9, HG9⟩
        case measure => simp [intOf]; omega
    · go_wp2_with fail
      go_ret2
      have hq : zs = List.zipWith max xs ys := by rw [hz.out, List.take_of_length_le (by simp; omega)]
      rw [show maxR xs ys = (0, List.zipWith max xs ys) by unfold maxR; rw [if_neg (by rw [H1.out]; simp)]]
      exact ⟨_, rfl, hq ▸ ho.out, hg.out⟩
  · have H1 := Lib.hid h1
    have h2 : (checkI xs ys != 0) = true := by simp [h1]
    clear h1
    go_enter Try.func27, Try.ntmps27
    go_wp2_with fail
    refine (fault_any _ _ _ _ _ H.out H'.out).mono ?_; rintro e w' ⟨rfl, rfl⟩
    go_wp2_with fail
    go_ret2
    rw [show maxR xs ys = (checkI xs ys, []) by unfold maxR; rw [if_pos H1.out]]
    exact Gives.nil _ _ _ (grown_refl _ _)

set_option maxHeartbeats 1000000 in
theorem rmin_any (va vb : Value) (xs ys : List Int) (w : World) (h : Ints w va xs) (h' : Ints w vb ys) :
    Calls Try.prog 29 #[va, vb] w (Gives (minR xs ys) w) := by
  have H := Lib.hid h; have H' := Lib.hid h'
  clear h h'
  by_cases h1 : checkI xs ys = 0
  · have H1 := Lib.hid h1
    clear h1
    obtain ⟨v1, v2, v3⟩ := checkI_zero H1.out
    have b1 := validB_le v1
    have V1 := Lib.hid (validB_elem v1); have V2 := Lib.hid (validB_elem v2)
    have hle : xs.length ≤ ys.length := by omega
    have hge : ys.length ≤ xs.length := by omega
    have hl6 := b1.1
    clear v1 v2 v3 b1
    obtain ⟨a, cap, rfl, hm, -, -⟩ := H.out
    obtain ⟨a', cap', rfl, hm', -, -⟩ := H'.out
    unfold maxLen at hm hm'
    go_enter Try.func29, Try.ntmps29
    go_wp2_with fail
    refine (fault_any _ _ _ _ _ H.out H'.out).mono ?_; rintro e w' ⟨rfl, rfl⟩
    rw [H1.out]
    go_wp2_with fail
    go_loopw [7, 8] (fun v i wr => ∃ (k : Nat) (zs : List Int), i = .int .i64 k ∧ k ≤ xs.length ∧ zs.length = k ∧ Hid (zs = (List.zipWith min xs ys).take k) ∧ Hid (OwnI wr w'.heap.size v zs) ∧ Hid (w'.grownBy wr none)) (fun _ i _ => xs.length - (intOf i).toNat)
    case atStart => exact ⟨0, [], rfl, Nat.zero_le _, rfl, Lib.hid (by simp), Lib.hid (OwnI.nil _ _), Lib.hid (grown_refl _ _)⟩
    case round =>
    obtain ⟨k, zs, rfl, hk, hlz, hz, ho, hg⟩ := hrel
    by_cases hlt : k < xs.length
    · skip
      have hlt' : k < ys.length := by omega
      obtain ⟨_, _, hv, _, _, hc⟩ := H.out.same hg.out
      simp only [Value.slice.injEq] at hv
      obtain ⟨rfl, -, -⟩ := hv
      obtain ⟨_, _, hv, _, _, hc'⟩ := H'.out.same hg.out
      simp only [Value.slice.injEq] at hv
      obtain ⟨rfl, -, -⟩ := hv
      obtain ⟨b, off, rfl, hx⟩ := Ints.at hc hlt
      obtain ⟨b', off', rfl, hx'⟩ := Ints.at hc' hlt'
      have EX := Lib.hid (mem_at (P := fun x => elemB x = true) V1.out hlt)
      have EY := Lib.hid (mem_at (P := fun x => elemB x = true) V2.out hlt')
      obtain ⟨hx0, hx1⟩ := elemB_bd EX.out
      obtain ⟨hy0, hy1⟩ := elemB_bd EY.out
      have HZ := Lib.hid (zip_at min xs ys k hlt hlt')
      have HK : Hid (k < (List.zipWith min xs ys).length) := Lib.hid (by simp; omega)
      have h1 : (k : Int) < (xs.length : Int) := by omega
      have h2 : (k : Int) < (ys.length : Int) := by omega
      clear hc hc'
      generalize xs[k]?.getD 0 = x at *
      generalize ys[k]?.getD 0 = y at *
      have hs1 := hg.out.size
      have HV : Hid (min x y = (if y < x then y else x)) := Lib.hid (by split <;> omega)
      go_wp2_with fail
      go_region_law (refine step_app_int rfl _ _ rfl w'.heap.size _ zs rfl (ho.out.kept (grown_trans (World.grownBy_alloc _ _ none) (grown_drew _ none)) (by simp)) wr.heap.size (if y < x then y else x) rfl (cell_new_drew rfl) (by omega) (by simp; omega) ?_; intro v' w9 ho2 hg2; have HO9 := Lib.hid ho2; have HG9 := Lib.hid (grown_then (grown_trans hg.out (grown_trans (World.grownBy_alloc _ _ none) (grown_drew _ none))) hg2 (fun j hj => .inl (ho.out.fresh j hj).1)); clear ho2 hg2)
      all_goals
        go_wp2_with fail
        go_roundw
        case rel => exact ⟨k + 1, zs ++ [_], by go_num, by omega, by simp; omega, Lib.hid (zs_snoc hz.out HK.out (by rw [HZ.out, HV.out])), HO9, HG9⟩
        case measure => simp [intOf]; omega
    · go_wp2_with fail
      go_ret2
      have hq : zs = List.zipWith min xs ys := by rw [hz.out, List.take_of_length_le (by simp; omega)]
      rw [show minR xs ys = (0, List.zipWith min xs ys) by unfold minR; rw [if_neg (by rw [H1.out]; simp)]]
      exact ⟨_, rfl, hq ▸ ho.out, hg.out⟩
  · have H1 := Lib.hid h1
    have h2 : (checkI xs ys != 0) = true := by simp [h1]
    clear h1
    go_enter Try.func29, Try.ntmps29
    go_wp2_with fail
    refine (fault_any _ _ _ _ _ H.out H'.out).mono ?_; rintro e w' ⟨rfl, rfl⟩
    go_wp2_with fail
    go_ret2
    rw [show minR xs ys = (checkI xs ys, []) by unfold minR; rw [if_pos H1.out]]
    exact Gives.nil _ _ _ (grown_refl _ _)

end Go.Proofs.Ytaolnlnjgoakdaa
