/- Concat of two slices of slices, cmp.Or of errors. -/
import Derived.Test.YtgdnlibklopdiaaTp
import Derived.Test.YtgdnlibklopdiaaAs
namespace Go.Proofs.Ytgdnlibklopdiaa
open Go.RowKit
set_option linter.unusedVariables false

theorem growR_nil (n : Nat) (w : World) (hn : n ≤ 1000000000000) :
    Calls Try.prog 99 #[.slice none 0 0, .int .i64 (n : Int)] w fun e w' => ∃ v, e = .returned v ∧ OwnP w' w.heap.size v [] ∧ w.grownBy w' none := by
  obtain ⟨i, hi, hz0, hz1, hz2⟩ := info_parts info_row
  rcases Nat.eq_zero_or_pos n with rfl | hpos
  · refine (Any8.slices_Grow_room Try.grow99 none 0 0 0 w (by omega) (by omega) (by omega) (by omega)).mono ?_
    rintro e w' ⟨rfl, rfl⟩
    exact ⟨_, rfl, OwnP.nil _ _, grown_refl _ _⟩
  · refine (Any8.slices_Grow_grow Try.grow99 i (.slice none 0 0) hi hz0 (by rw [hz1]; decide) none 0 0 n [] w (by omega) (by omega) (by rw [hz2]; omega) (by omega) (by simp) (fun _ => rfl) (by intro a h; cases h)).mono ?_
    rintro e w' ⟨rfl, rfl⟩
    refine ⟨_, rfl, ⟨?_, by simp⟩, grown_trans (grown_drew _ _) (World.grownBy_alloc _ _ _)⟩
    refine World.ownsRow_made (w := w.drew) (base := w.heap.size) _ _ (Nat.le_refl _) ?_ ?_
    · exact grownCap_le_maxLen _ _ _ _ (by unfold maxLen; omega)
    · have := grownCap_ge w n 0 (Try.grow99_ren.t 25)
      simp [size_zeroCells, Value.cells]
      omega

def part2 {α : Type} (a b : List α) (k : Nat) : List α := if k = 0 then [] else if k = 1 then a else a ++ b
set_option maxRecDepth 100000 in
set_option maxHeartbeats 1500000 in
theorem concatR_any (g cap : Nat) (x y : Value) (qs rs : List Row) (w : World) (c0 : w.cell? ⟨g, 0, none⟩ = some x) (c1 : w.cell? ⟨g, 1, none⟩ = some y) (hx : RowsP w x qs) (hy : RowsP w y rs) (hq : qs.length ≤ 1000) (hr : rs.length ≤ 1000) :
    Calls Try.prog 80 #[.slice (some ⟨g, 0, none⟩) 2 cap] w fun e w' => ∃ v, e = .returned v ∧ OwnP w' w.heap.size v (qs ++ rs) ∧ w.grownBy w' none := by
  have HX := Lib.hid hx; have HY := Lib.hid hy; have C0 := Lib.hid c0; have C1 := Lib.hid c1
  obtain ⟨ax, cx, rfl, -, -, -⟩ := hx
  obtain ⟨ay, cy, rfl, -, -, -⟩ := hy
  clear c0 c1
  go_enter Try.func80, Try.ntmps80
  go_wp2_with fail
  go_loop [3, 11] (fun s i => ∃ k : Nat, k ≤ 2 ∧ i = .int .i64 k ∧ s = .int .i64 ((part2 qs rs k).length : Nat)) (fun _ i => 2 - (intOf i).toNat)
  case atStart => exact ⟨0, by omega, rfl, rfl⟩
  case round =>
    obtain ⟨k, hk, rfl, rfl⟩ := hrel
    match k, hk with
    | 0, _ =>
      have c0 := C0.out
      simp only [part2, if_pos, List.length_nil]
      go_wp2_with fail
      go_round
      case rel => exact ⟨1, by omega, by go_num, by simp⟩
      case measure => simp [intOf]
    | 1, _ =>
      have c1 := C1.out
      have e1 : part2 qs rs 1 = qs := rfl
      rw [e1]
      have hs : ¬ (qs.length : Int) + (rs.length : Int) < 0 := by omega
      go_wp2_with fail
      go_round
      case rel => exact ⟨2, by omega, by go_num, by simp [part2]⟩
      case measure => simp [intOf]
    | 2, _ =>
      have e2 : part2 qs rs 2 = qs ++ rs := rfl
      rw [e2]
      have hle : (qs ++ rs).length ≤ 2000 := by simp; omega
      generalize hm : (qs ++ rs).length = m at *
      clear hm
      go_wp2_with fail
      refine (growR_nil m _ (by omega)).mono ?_
      rintro e w1 ⟨v1, rfl, ho, hg⟩
      have HO := Lib.hid ho; have HG := Lib.hid hg
      clear ho hg
      go_wp2_with fail
      go_loopw [6, 27] (fun v i wr => ∃ k : Nat, k ≤ 2 ∧ i = .int .i64 k ∧ Hid (OwnP wr w.heap.size v (part2 qs rs k)) ∧ Hid (w.grownBy wr none)) (fun _ i _ => 2 - (intOf i).toNat)
      case atStart => exact ⟨0, by omega, rfl, HO, HG⟩
      case round =>
        obtain ⟨k, hk, rfl, ho, hg⟩ := hrel
        match k, hk with
        | 0, _ =>
          have c := hg.out.cell C0.out (by simp)
          have hsz := hg.out.size
          have RX := Lib.hid (HX.out.same hg.out)
          have FX := Lib.hid (far_of (fun p hp => rows_rows HX.out p hp) ho.out (Nat.le_refl _))
          have HO2 := ho
          change Hid (OwnP _ w.heap.size _ ([])) at HO2
          clear ho
          go_wp2_with (at_builtin; refine app_all rfl _ _ rfl w.heap.size _ ([]) rfl HO2.out _ _ rfl RX.out FX.out (by first | omega | (simp; omega)) hsz ?_)
          intro a' n' c' w' hn' ho' hg'
          have HO3 : Hid (OwnP w' w.heap.size (.slice a' n' c') (qs)) := Lib.hid ho'
          have HG3 := Lib.hid (grown_then hg.out hg' (fun j hj => .inl (HO2.out.fresh j hj).1))
          clear ho' hg' hn' c
          go_wp2_with fail
          go_roundw
          case rel => exact ⟨1, by omega, by go_num, HO3, HG3⟩
          case measure => simp [intOf]
        | 1, _ =>
          have c := hg.out.cell C1.out (by simp)
          have hsz := hg.out.size
          have RX := Lib.hid (HY.out.same hg.out)
          have FX := Lib.hid (far_of (fun p hp => rows_rows HY.out p hp) ho.out (Nat.le_refl _))
          have HO2 := ho
          change Hid (OwnP _ w.heap.size _ (qs)) at HO2
          clear ho
          go_wp2_with (at_builtin; refine app_all rfl _ _ rfl w.heap.size _ (qs) rfl HO2.out _ _ rfl RX.out FX.out (by first | omega | (simp; omega)) hsz ?_)
          intro a' n' c' w' hn' ho' hg'
          have HO3 : Hid (OwnP w' w.heap.size (.slice a' n' c') (qs ++ rs)) := Lib.hid ho'
          have HG3 := Lib.hid (grown_then hg.out hg' (fun j hj => .inl (HO2.out.fresh j hj).1))
          clear ho' hg' hn' c
          go_wp2_with fail
          go_roundw
          case rel => exact ⟨2, by omega, by go_num, HO3, HG3⟩
          case measure => simp [intOf]
        | 2, _ =>
          go_wp2_with fail
          go_ret
          exact ⟨_, rfl, ho.out, hg.out⟩

end Go.Proofs.Ytgdnlibklopdiaa
