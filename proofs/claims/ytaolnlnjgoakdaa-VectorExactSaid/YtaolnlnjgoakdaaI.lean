/- Contracts of the reference of layer 1: differences. -/
import Derived.Test.YtaolnlnjgoakdaaH
namespace Go.Proofs.Ytaolnlnjgoakdaa
open Go.ChangeShapes Go.WideShapes Go.ChangeAt Go.RowKit
set_option linter.unusedVariables false

set_option maxHeartbeats 1000000 in
theorem rsub_any (va vb : Value) (xs ys : List Int) (w : World) (h : Ints w va xs) (h' : Ints w vb ys) :
    Calls Try.prog 24 #[va, vb] w (Gives (subR xs ys) w) := by
  have H := Lib.hid h; have H' := Lib.hid h'
  obtain ⟨a, cap, rfl, hl, _, _⟩ := h
  obtain ⟨a', cap', rfl, hl1, _, _⟩ := h'
  unfold maxLen at hl hl1
  cases h1 : validB xs
  · go_enter Try.func24, Try.ntmps24
    go_wp2_with (go_at_call 14; refine (rvalid_any _ _ _ H.out).mono ?_; rintro e w' ⟨rfl, rfl⟩)
    go_ret2
    rw [show subR xs ys = (2, []) by simp [subR, h1]]
    exact Gives.nil _ _ _ (grown_refl _ _)
  cases h2 : finiteB ys
  · go_enter Try.func24, Try.ntmps24
    go_wp2_with fail
    refine (rvalid_any _ _ _ H.out).mono ?_; rintro e w' ⟨rfl, rfl⟩
    go_wp2_with fail
    refine (rfinite_any _ _ _ H'.out).mono ?_; rintro e w' ⟨rfl, rfl⟩
    go_wp2_with fail
    go_ret2
    rw [show subR xs ys = (2, []) by simp [subR, h2]]
    exact Gives.nil _ _ _ (grown_refl _ _)
  have V1 := Lib.hid (validB_elem h1); have V2 := Lib.hid (finiteB_le h2).2
  have hl6 := (validB_le h1).1
  by_cases h3 : xs.length = ys.length
  · have h4 : ((xs.length : Int) != (ys.length : Int)) = false := by simp [h3]
    have HR : Hid (subR xs ys = if atMostB ys xs then (0, List.zipWith subI xs ys) else (11, [])) := Lib.hid (by simp [subR, h1, h2, h3])
    have hle : xs.length ≤ ys.length := by omega
    have hge : ys.length ≤ xs.length := by omega
    have HV1 := Lib.hid h1; have HV2 := Lib.hid h2
    clear h3 h1 h2
    go_enter Try.func24, Try.ntmps24
    go_wp2_with fail
    refine (rvalid_any _ _ _ H.out).mono ?_; rintro e w0 ⟨rfl, rfl⟩
    rw [HV1.out]
    go_wp2_with fail
    refine (rfinite_any _ _ _ H'.out).mono ?_; rintro e w' ⟨rfl, rfl⟩
    rw [HV2.out]
    go_wp2_with fail
    go_loopw [6, 7] (fun v i wr => ∃ (k : Nat) (zs : List Int), i = .int .i64 k ∧ k ≤ xs.length ∧ zs.length = k ∧ Hid (zs = (List.zipWith subI xs ys).take k) ∧ Hid (atMostB (ys.take k) (xs.take k) = true) ∧ Hid (OwnI wr w'.heap.size v zs) ∧ Hid (w'.grownBy wr none)) (fun _ i _ => xs.length - (intOf i).toNat)
    case atStart => exact ⟨0, [], rfl, Nat.zero_le _, rfl, Lib.hid (by simp), Lib.hid (by simp [atMostB]), Lib.hid (OwnI.nil _ _), Lib.hid (grown_refl _ _)⟩
    case round =>
    obtain ⟨k, zs, rfl, hk, hlz, hz, ha, ho, hg⟩ := hrel
    by_cases hlt : k < xs.length
    · skip
      have hlt' : k < ys.length := by omega
      obtain ⟨_, _, hv, _, _, hc⟩ := H.out.same hg.out
      simp only [Value.slice.injEq] at hv
      obtain ⟨rfl, -, -⟩ := hv
      obtain ⟨_, _, hv, _, _, hc'⟩ := H'.out.same hg.out
      simp only [Value.slice.injEq] at hv
      obtain ⟨rfl, -, -⟩ := hv
      obtain ⟨b, off, rfl, hx⟩ := Ints.at hc hlt
      obtain ⟨b', off', rfl, hx'⟩ := Ints.at hc' hlt'
      have EX := Lib.hid (mem_at (P := fun x => elemB x = true) V1.out hlt)
      have EY := Lib.hid (mem_at (P := fun x => 0 ≤ x ∧ x ≤ 1048576) V2.out hlt')
      obtain ⟨hx0, hx1⟩ := elemB_bd EX.out
      obtain ⟨hy0, hy1⟩ := EY.out
      have HZ := Lib.hid (zip_at subI xs ys k hlt hlt')
      have HK : Hid (k < (List.zipWith subI xs ys).length) := Lib.hid (by simp; omega)
      have h1 : (k : Int) < (xs.length : Int) := by omega
      have h2 : (k : Int) < (ys.length : Int) := by omega
      clear hc hc'
      have hsp := atMostB_split ys xs k hlt' hlt
      rw [ha.out, Bool.true_and] at hsp
      have HS := Lib.hid hsp
      clear hsp
      generalize xs[k]?.getD 0 = x at *
      generalize ys[k]?.getD 0 = y at *
      by_cases hyx : y ≤ x
      · by_cases hp : x = 1099511627776
        · subst hp
          go_wp2_with fail
          go_quiet (fail)
          go_wp2_with fail
          go_quiet (fail)
          have hs1 := hg.out.size
          go_wp2_with (at_builtin; refine app_int rfl _ _ rfl w'.heap.size _ zs rfl (ho.out.kept (grown_trans (grown_drewN _ _ none) (World.grownBy_alloc _ _ none)) (by simp)) wr.heap.size 1099511627776 rfl (cell_new rfl) (by omega) (by simp; omega) ?_)
          intro v' w9 ho2 hg2
          have HO9 := Lib.hid ho2
          have HG9 := Lib.hid (grown_then (grown_trans hg.out (grown_trans (grown_drewN _ _ none) (World.grownBy_alloc _ _ none))) hg2 (fun j hj => .inl (ho.out.fresh j hj).1))
          clear ho2 hg2
          go_wp2_with fail
          go_roundw
          case rel => exact ⟨k + 1, zs ++ [_], by go_num, by omega, by simp; omega, Lib.hid (zs_snoc hz.out HK.out (by rw [HZ.out]; unfold subI; rw [if_pos rfl])), Lib.hid (by rw [HS.out]; simpa using hyx), HO9, HG9⟩
          case measure => simp [intOf]; omega
        · have hp1 : (x == 1099511627776) = false := by simpa using hp
          have HP := Lib.hid hp
          clear hp
          go_wp2_with fail
          go_quiet (fail)
          go_wp2_with fail
          go_quiet (fail)
          have hs1 := hg.out.size
          go_wp2_with (at_builtin; refine app_int rfl _ _ rfl w'.heap.size _ zs rfl (ho.out.kept (grown_trans (grown_drewN _ _ none) (World.grownBy_alloc _ _ none)) (by simp)) wr.heap.size (x - y) rfl (cell_new rfl) (by omega) (by simp; omega) ?_)
          intro v' w9 ho2 hg2
          have HO9 := Lib.hid ho2
          have HG9 := Lib.hid (grown_then (grown_trans hg.out (grown_trans (grown_drewN _ _ none) (World.grownBy_alloc _ _ none))) hg2 (fun j hj => .inl (ho.out.fresh j hj).1))
          clear ho2 hg2
          go_wp2_with fail
          go_roundw
          case rel => exact ⟨k + 1, zs ++ [_], by go_num, by omega, by simp; omega, Lib.hid (zs_snoc hz.out HK.out (by rw [HZ.out]; unfold subI; rw [if_neg HP.out])), Lib.hid (by rw [HS.out]; simpa using hyx), HO9, HG9⟩
          case measure => simp [intOf]; omega
      · go_wp2_with fail
        go_quiet (fail)
        go_wp2_with fail
        go_ret2
        rw [HR.out, if_neg (by rw [atMostB_false ys xs (k + 1) (by omega) (by omega) (by rw [HS.out]; simp; omega)]; simp)]
        exact Gives.nil _ _ _ (grown_trans hg.out (grown_drewN _ _ none))
    · go_wp2_with fail
      go_ret2
      have hq : zs = List.zipWith subI xs ys := by rw [hz.out, List.take_of_length_le (by simp; omega)]
      rw [HR.out, if_pos (by have h := ha.out; rwa [List.take_of_length_le (by omega), List.take_of_length_le (by omega)] at h)]
      exact ⟨_, rfl, hq ▸ ho.out, hg.out⟩
  · have h4 : ((xs.length : Int) != (ys.length : Int)) = true := by simp; omega
    have H3 := Lib.hid h3
    clear h3
    go_enter Try.func24, Try.ntmps24
    go_wp2_with fail
    refine (rvalid_any _ _ _ H.out).mono ?_; rintro e w' ⟨rfl, rfl⟩
    go_wp2_with fail
    refine (rfinite_any _ _ _ H'.out).mono ?_; rintro e w' ⟨rfl, rfl⟩
    go_wp2_with fail
    go_ret2
    rw [show subR xs ys = (3, []) by simp [subR, h1, h2, H3.out]]
    exact Gives.nil _ _ _ (grown_refl _ _)

end Go.Proofs.Ytaolnlnjgoakdaa
