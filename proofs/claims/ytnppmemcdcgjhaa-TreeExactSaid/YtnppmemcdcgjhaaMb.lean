/- The reference's labels, small, Valid, Size. -/
import Derived.Test.YtnppmemcdcgjhaaMa
namespace Go.Proofs.Ytnppmemcdcgjhaa
open Go.RowKit Tr
set_option linter.unusedVariables false

def InR (t : Tr) : Prop := ∀ u ∈ pre t, 0 ≤ u.label ∧ u.label < 16
def LbTo (p : Prop) (w : World) (e : Ending) (w' : World) : Prop := ∃ B, e = .returned (.bool B) ∧ (B = true ↔ p) ∧ w.grownBy w' none
theorem inR_kid {t k : Tr} (h : InR t) (hk : k ∈ t.kids) : InR k := fun u hu => h u (by rw [pre_eq]; exact List.mem_cons_of_mem _ (mem_preL.2 ⟨k, hk, hu⟩))
theorem inR_of {t : Tr} (h : 0 ≤ t.label ∧ t.label < 16) (hk : ∀ k ∈ t.kids, InR k) : InR t := fun u hu => by
  rw [pre_eq] at hu
  rcases List.mem_cons.1 hu with rfl | hu
  · exact h
  · obtain ⟨k, hk', hu⟩ := mem_preL.1 hu
    exact hk k hk' u hu
set_option maxRecDepth 100000 in
set_option maxHeartbeats 2000000 in
theorem rlabels_any {P : Nat → Prop} (t : Tr) : ∀ (y : Value) (w : World), TrK P w y t →
    Calls Try.prog 56 #[.agg #[.int .i64 t.label, y]] w (LbTo (InR t) w) := by
  induction t using tr_ind with
  | h t ih =>
  intro y w h
  have hkl : t.kids.length ≤ 9223372036854775807 := by obtain ⟨_, _, _, _, -, h1, h2, -⟩ := h.open; unfold maxLen at h2; omega
  obtain ⟨a, cap, rfl⟩ := h.slice
  have H := Lib.hid h; have IH := Lib.hid ih
  clear h ih
  go_enter Try.func56, Try.ntmps56
  go_wp2_with fail
  have hb := box_cells w (.int .i64 t.label) (.slice a t.kids.length cap) 45
  have HG : Hid (w.grownBy (w.alloc (.cells #[.int .i64 t.label, .slice a t.kids.length cap] 45)) none) := Lib.hid (World.grownBy_alloc _ _ none)
  generalize w.alloc (.cells #[.int .i64 t.label, .slice a t.kids.length cap] 45) = wb at *
  generalize w.heap.size = g at *
  have HB := Lib.hid hb
  clear hb
  go_loopw [3] (fun i wr => ∃ (k : Nat), i = .int .i64 k ∧ k ≤ t.kids.length ∧ Hid (∀ j (h : j < t.kids.length), j < k → InR t.kids[j]) ∧ Hid (w.grownBy wr none) ∧ Hid (wb.grownBy wr none)) (fun i _ => t.kids.length - (intOf i).toNat)
  case atStart => exact ⟨0, rfl, Nat.zero_le _, Lib.hid (fun j _ h => by omega), HG, Lib.hid (grown_refl _ _)⟩
  case round =>
    obtain ⟨k, rfl, hk, hall, hG, hGb⟩ := hrel
    have hb0 := hGb.out.cell HB.out.1 (by simp)
    have hb1 := hGb.out.cell HB.out.2 (by simp)
    by_cases hkb : k < t.kids.length
    · have e1 : (k : Int) < (t.kids.length : Int) := by omega
      have i1 : IntKind.i64.wrap ((k : Int) + 1) = (k : Int) + 1 := IntWalk.i64_in _ (by omega)
      obtain ⟨b, off, a2, cap2, rfl, -, c1, c2, hK⟩ := (H.out.same hG.out).kid hkb
      have HK := Lib.hid hK; have HKS := Lib.hid (size_kid (List.getElem_mem hkb))
      clear hK
      go_wp2_with fail
      refine (IH.out _ HKS.out _ _ HK.out).mono ?_
      rintro e w1 ⟨B, rfl, hB, hg⟩
      have HBB := Lib.hid hB
      have HG1 := Lib.hid (grown_trans hG.out hg); have HG2 := Lib.hid (grown_trans hGb.out hg)
      clear hB hg c1 c2 hb1 hb0
      cases B with
      | false =>
        have HN : Hid (¬ InR t) := Lib.hid (fun h => by
          have := HBB.out.2 (inR_kid h (List.getElem_mem hkb))
          cases this)
        go_wp2_with fail
        go_ret
        exact ⟨false, rfl, ⟨(fun e => by cases e), fun h => absurd h HN.out⟩, HG1.out⟩
      | true =>
        have HN : Hid (∀ j (h : j < t.kids.length), j < k + 1 → InR t.kids[j]) := Lib.hid (fun j hj h => by
          by_cases e : j < k
          · exact hall.out j hj e
          · obtain rfl : j = k := by omega
            exact HBB.out.1 rfl)
        clear HBB
        go_wp2_with fail
        go_roundw
        case rel => exact ⟨k + 1, by go_num, by omega, HN, HG1, HG2⟩
        case measure => simp [intOf]; omega
    · obtain rfl : k = t.kids.length := by omega
      have e1 : ¬ (t.kids.length : Int) < (t.kids.length : Int) := by omega
      have HA : Hid (∀ k ∈ t.kids, InR k) := Lib.hid (fun k hk' => by
        obtain ⟨j, hj, rfl⟩ := List.getElem_of_mem hk'
        exact hall.out j hj hj)
      have HI : Hid (InR t ↔ (0 ≤ t.label ∧ t.label < 16)) := Lib.hid ⟨fun h => h t (by rw [pre_eq]; simp), fun h => inR_of h HA.out⟩
      by_cases h0 : 0 ≤ t.label
      · by_cases h16 : t.label < 16
        · go_wp2_with fail
          go_ret
          exact ⟨true, rfl, ⟨fun _ => HI.out.2 ⟨h0, h16⟩, fun _ => rfl⟩, hG.out⟩
        · go_wp2_with fail
          go_ret
          exact ⟨false, rfl, ⟨(fun e => by cases e), fun h => by have := (HI.out.1 h).2; omega⟩, hG.out⟩
      · go_wp2_with fail
        go_ret
        exact ⟨false, rfl, ⟨(fun e => by cases e), fun h => by have := (HI.out.1 h).1; omega⟩, hG.out⟩

end Go.Proofs.Ytnppmemcdcgjhaa
