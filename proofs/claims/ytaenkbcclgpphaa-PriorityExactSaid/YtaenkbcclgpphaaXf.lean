/- Contracts of the reference of words: Without, Drops. -/
import Derived.Test.YtaenkbcclgpphaaXe
import Derived.Test.YtaenkbcclgpphaaMf
namespace Go.Proofs.Ytaenkbcclgpphaa
open Go.RowKit
set_option linter.unusedVariables false

theorem without_bd {xs : List Int} {k : Nat} {P : Int → Prop} (h : ∀ x ∈ xs, P x) : ∀ x ∈ withoutL xs k, P x := by
  intro x hx
  rcases List.mem_append.1 hx with hx | hx
  · exact h x (List.mem_of_mem_take hx)
  · exact h x (List.mem_of_mem_drop hx)
theorem without_len (xs : List Int) (k : Nat) : (withoutL xs k).length ≤ xs.length + xs.length := by
  unfold withoutL
  rw [List.length_append, List.length_take, List.length_drop]
  omega

set_option maxHeartbeats 2000000 in
theorem rwithout_any (v : Value) (xs : List Int) (k : Nat) (w : World) (h : RowOk w (v, xs)) (hk : k < xs.length) (hl : xs.length ≤ 1000000) :
    Calls Try.prog 61 #[v, .int .i64 (k : Int)] w (Made (withoutL xs k) w) := by
  have H := Lib.hid h
  obtain ⟨⟨a, cap, hv, -, -, -⟩, hgood, -⟩ := h
  simp only at hv
  subst hv
  have hcap := hgood.2 _ _ _ rfl
  obtain ⟨b, off, rfl, -⟩ : ∃ b off, a = some ⟨b, off, none⟩ ∧ True := by
    obtain ⟨⟨a', cap', hv, hl', hb, hc⟩, -⟩ := H.out
    simp only [Value.slice.injEq] at hv
    obtain ⟨rfl, -, -⟩ := hv
    obtain ⟨b, off, rfl, -⟩ := Ints.at hc hk
    exact ⟨b, off, rfl, trivial⟩
  obtain ⟨at', ct, hrun, hrt, -⟩ := row_tail (k := k + 1) H.out hk
  rw [show ((k + 1 : Nat) : Int) = (k : Int) + 1 by omega] at hrun
  have RT := Lib.hid hrt
  have RH := Lib.hid (RowOk.take H.out (Nat.le_of_lt hk))
  have i1 : IntKind.i64.wrap ((k : Int) + 1) = (k : Int) + 1 := IntWalk.i64_in _ (by omega)
  have j1 : (0 : Int) ≤ (k : Int) := by omega
  have j2 : (k : Int) ≤ (cap : Int) := by omega
  have hk9 : ([] : List Int).length + (xs.take k).length ≤ 1000000000000 := by simp; omega
  have hk11 : ([] ++ xs.take k).length + (xs.drop (k + 1)).length ≤ 1000000000000 := by simp; omega
  have G : Hid (w.grownBy w.drew none) := Lib.hid (grown_drew _ none)
  clear hrt hgood
  go_enter Try.func61, Try.ntmps61
  go_wp2_with fail
  go_region_law (first
    | (refine step_app_ints rfl (.const (.slice none 0 0)) (.tmp 7) rfl _ (.slice none 0 0) [] (by kernel_rfl) (OwnI.nil _ _) (.slice (some ⟨b, off, none⟩) k cap) (xs.take k) (by kernel_rfl) (RH.out.1.same G.out) hk9 (Nat.le_refl _) ?_; intro a8 n8 c8 w8 hn8 ho hg; have C8 := Lib.hid ho; replace G : Hid (w.grownBy w8 none) := Lib.hid (grown_trans G.out hg); clear hn8 ho hg)
    | (refine step_app_ints rfl (.tmp 8) (.tmp 12) rfl _ (.slice a8 n8 c8) _ (by kernel_rfl) C8.out (.slice at' (xs.length - (k + 1)) ct) (xs.drop (k + 1)) (by kernel_rfl) (RT.out.1.same G.out) hk11 G.out.size ?_; intro a13 n13 c13 w13 hn13 ho hg; have C13 := Lib.hid ho; replace G : Hid (w.grownBy w13 none) := Lib.hid (grown_then G.out hg (fun j hj => .inl (C8.out.fresh j hj).1)); clear hn13 ho hg))
  all_goals
    go_wp2_with fail
    go_ret
    exact ⟨_, rfl, C13.out, G.out⟩

theorem drops_step (xs : List Int) (k : Nat) : ascL ((List.range (k + 1)).map (withoutL xs)) = putL (ascL ((List.range k).map (withoutL xs))) (withoutL xs k) := by
  unfold ascL
  rw [List.range_succ, List.map_append, List.foldl_append]
  rfl

set_option maxHeartbeats 2000000 in
theorem rdrops_any (v : Value) (xs : List Int) (w : World) (h : RowOk w (v, xs)) :
    Calls Try.prog 32 #[v] w (GotP (dropsL xs) w) := by
  have H := Lib.hid h
  obtain ⟨⟨a, cap, hv, hl, -, -⟩, -, -⟩ := h
  simp only at hv
  subst hv
  unfold maxLen at hl
  cases h1 : validW xs
  · have HE : Hid (dropsL xs = []) := Lib.hid (by simp [dropsL, h1])
    have H1 := Lib.hid h1
    clear h1
    go_enter Try.func32, Try.ntmps32
    go_wp2_with fail
    go_loopw [3, 4] (fun v i wr => v = .slice none 0 0 ∧ i = .int .i64 0 ∧ wr = w) (fun _ _ _ => 0)
    case atStart => exact ⟨rfl, rfl, rfl⟩
    case round =>
      obtain ⟨rfl, rfl, rfl⟩ := hrel
      go_wp2_with fail
      refine (rvalidW_any _ _ _ H.out.1).mono ?_; rintro e w' ⟨rfl, rfl⟩
      rw [H1.out]
      go_wp2_with fail
      go_ret
      rw [HE.out]
      exact ⟨_, [], rfl, ⟨none, 0, rfl, Nat.zero_le _, .inl rfl, by simp⟩, Good.nil, rfl, grown_refl _ _⟩
  · have h12 := (validW_le h1).1
    have HE : Hid (dropsL xs = ascL ((List.range xs.length).map (withoutL xs))) := Lib.hid (by simp [dropsL, h1])
    have H1 := Lib.hid h1
    clear h1
    go_enter Try.func32, Try.ntmps32
    go_wp2_with fail
    go_loopw [3, 4] (fun v i wr => ∃ (k : Nat) (ps : List Row), i = .int .i64 k ∧ k ≤ xs.length ∧ ps.length ≤ k ∧ Hid (ps.map Prod.snd = ascL ((List.range k).map (withoutL xs))) ∧ Hid (RowsP wr v ps) ∧ Hid (Good v) ∧ Hid (w.grownBy wr none)) (fun _ i _ => xs.length - (intOf i).toNat)
    case atStart => exact ⟨0, [], rfl, Nat.zero_le _, Nat.zero_le _, Lib.hid (by simp [ascL]), Lib.hid ⟨none, 0, rfl, Nat.zero_le _, .inl rfl, by simp⟩, Lib.hid Good.nil, Lib.hid (grown_refl _ _)⟩
    case round =>
      obtain ⟨k, ps, rfl, hk, hlp, hm, hr, hgd, hg⟩ := hrel
      by_cases hlt : k < xs.length
      · have g1 : (k : Int) < (xs.length : Int) := by omega
        have g1' : decide (k < xs.length) = true := by simpa using hlt
        go_wp2_with fail
        refine (rvalidW_any _ _ _ (H.out.same hg.out).1).mono ?_; rintro e w' ⟨rfl, rfl⟩
        rw [H1.out]
        go_wp2_with fail
        refine (rwithout_any _ _ _ _ (H.out.same hg.out) hlt (by omega)).mono ?_
        rintro e w2 ⟨vw, rfl, ho, hg2⟩
        have W2 := Lib.hid (ho.row (without_bd H.out.bdd)); have R2 := Lib.hid (hr.out.same hg2); have G2 := Lib.hid (grown_trans hg.out hg2)
        have hwl := without_len xs k
        clear ho hg2
        go_wp2_with fail
        refine (put_any _ _ _ _ _ R2.out hgd.out W2.out (by omega) (by omega)).mono ?_
        rintro e w3 ⟨v3, qs, rfl, hr3, hgd3, hm3, hg3⟩
        have R3 := Lib.hid hr3; have D3 := Lib.hid hgd3; have M3 := Lib.hid hm3; have G3 := Lib.hid (grown_trans G2.out hg3)
        have hq : qs.length ≤ k + 1 := by
          have e1 := congrArg List.length hm3
          have e2 := putL_len (withoutL xs k) (ps.map Prod.snd)
          rw [List.length_map] at e1 e2
          omega
        clear hr3 hgd3 hm3 hg3
        go_wp2_with fail
        go_roundw
        case rel => exact ⟨k + 1, qs, by go_num, by omega, hq, Lib.hid (by rw [M3.out, drops_step, hm.out]), R3, D3, G3⟩
        case measure => simp [intOf]; omega
      · have e1 : k = xs.length := by omega
        have g1 : ¬ (k : Int) < (xs.length : Int) := by omega
        have g1' : decide (k < xs.length) = false := by simpa using hlt
        have E1 := Lib.hid e1
        clear e1
        go_wp2_with fail
        refine (rvalidW_any _ _ _ (H.out.same hg.out).1).mono ?_; rintro e w' ⟨rfl, rfl⟩
        rw [H1.out]
        go_wp2_with fail
        go_ret
        exact ⟨_, ps, rfl, hr.out, hgd.out, by rw [HE.out, hm.out, E1.out], hg.out⟩

end Go.Proofs.Ytaenkbcclgpphaa
