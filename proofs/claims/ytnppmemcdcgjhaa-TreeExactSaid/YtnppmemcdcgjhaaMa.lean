/- The reference's count, small and labels of trees. -/
import Derived.Test.YtnppmemcdcgjhaaKg
namespace Go.Proofs.Ytnppmemcdcgjhaa
open Go.RowKit Tr
set_option linter.unusedVariables false

def RcTo (s m : Nat) (w : World) (e : Ending) (w' : World) : Prop := ∃ c : Nat, e = .returned (.int .i64 (c : Int)) ∧ 1 ≤ c ∧ c ≤ s ∧ (s ≤ m → c = s) ∧ (m < s → m < c) ∧ w.grownBy w' none
theorem box_cells (w : World) (x y : Value) (e : TypeId) : (w.alloc (.cells #[x, y] e)).cell? ⟨w.heap.size, 0, none⟩ = some x ∧ (w.alloc (.cells #[x, y] e)).cell? ⟨w.heap.size, 1, none⟩ = some y := cells_of (heap_new (g := w.heap.size) (.cells #[x, y] e) rfl)
set_option maxRecDepth 100000 in
set_option maxHeartbeats 2000000 in
theorem rcount_any {P : Nat → Prop} (t : Tr) : ∀ (m : Nat) (y : Value) (w : World), TrK P w y t → size t ≤ 100000 → m ≤ 100000 →
    Calls Try.prog 57 #[.agg #[.int .i64 t.label, y], .int .i64 (m : Int)] w (RcTo (size t) m w) := by
  induction t using tr_ind with
  | h t ih =>
  intro m y w h hsz hm
  obtain ⟨a, cap, rfl⟩ := h.slice
  have H := Lib.hid h; have IH := Lib.hid ih; have HS := Lib.hid hsz
  have HSE := Lib.hid (size_eq t)
  have hkl : t.kids.length ≤ 100000 := by have := sizeL_len t.kids; rw [size_eq] at hsz; omega
  clear h ih hsz
  go_enter Try.func57, Try.ntmps57
  go_wp2_with fail
  have hb := box_cells w (.int .i64 t.label) (.slice a t.kids.length cap) 45
  have HG : Hid (w.grownBy (w.alloc (.cells #[.int .i64 t.label, .slice a t.kids.length cap] 45)) none) := Lib.hid (World.grownBy_alloc _ _ none)
  generalize w.alloc (.cells #[.int .i64 t.label, .slice a t.kids.length cap] 45) = wb at *
  generalize w.heap.size = g at *
  have HB := Lib.hid hb.2
  clear hb
  go_loopw [5, 6] (fun n i wr => ∃ (k c : Nat), i = .int .i64 k ∧ n = .int .i64 c ∧ k ≤ t.kids.length ∧ 1 ≤ c ∧ c ≤ 100000 ∧ Hid (c ≤ 1 + sizeL (t.kids.take k)) ∧ Hid (c ≤ m → c = 1 + sizeL (t.kids.take k)) ∧ Hid (w.grownBy wr none) ∧ Hid (wb.grownBy wr none)) (fun _ i _ => t.kids.length - (intOf i).toNat)
  case atStart => exact ⟨0, 1, rfl, rfl, Nat.zero_le _, Nat.le_refl _, by omega, Lib.hid (by simp [sizeL]), Lib.hid (by simp [sizeL]), HG, Lib.hid (grown_refl _ _)⟩
  case round =>
    obtain ⟨k, c, rfl, rfl, hk, hc1, hcm, h1, h2, hG, hGb⟩ := hrel
    have hb1 := hGb.out.cell HB.out (by simp)
    by_cases hkb : k < t.kids.length
    · have e1 : (k : Int) < (t.kids.length : Int) := by omega
      have i1 : IntKind.i64.wrap ((k : Int) + 1) = (k : Int) + 1 := IntWalk.i64_in _ (by omega)
      obtain ⟨b, off, a2, cap2, rfl, -, c1, c2, hK⟩ := (H.out.same hG.out).kid hkb
      have HK := Lib.hid hK; have HTS := Lib.hid (take_sz hkb); have HTL := Lib.hid (take_szle t.kids (k + 1)); have HKS := Lib.hid (size_kid (List.getElem_mem hkb))
      clear hK
      by_cases hc : c ≤ m
      · have e2 : (c : Int) ≤ (m : Int) := by omega
        have HCE : Hid (c = 1 + sizeL (t.kids.take k)) := Lib.hid (h2.out hc)
        have i3 : IntKind.i64.wrap ((m : Int) - (c : Int)) = ((m - c : Nat) : Int) := by rw [IntWalk.i64_in _ (by omega)]; omega
        go_wp2_with fail
        refine (IH.out _ HKS.out (m - c) _ _ HK.out (by have := HS.out; have := HKS.out; omega) (by omega)).mono ?_
        rintro e w1 ⟨c', rfl, p1, p2, p3, p4, hg⟩
        have P2 := Lib.hid p2; have P3 := Lib.hid p3; have P4 := Lib.hid p4
        have hcc : c + c' ≤ 100000 := by have := HCE.out; have := HTS.out; have := HTL.out; have := HSE.out; have := HS.out; omega
        have HG1 := Lib.hid (grown_trans hG.out hg); have HG2 := Lib.hid (grown_trans hGb.out hg)
        clear p2 p3 p4 hg c1 c2 hb1
        have i2 : IntKind.i64.wrap ((c : Int) + (c' : Int)) = (c : Int) + (c' : Int) := IntWalk.i64_in _ (by omega)
        go_wp2_with fail
        go_roundw
        case rel =>
          refine ⟨k + 1, c + c', by go_num, by go_num, by omega, by omega, hcc, Lib.hid ?_, Lib.hid ?_, HG1, HG2⟩
          · have := HCE.out; have := HTS.out; have := P2.out; omega
          · intro h
            have := HCE.out; have := HTS.out
            rcases Nat.lt_or_ge (m - c) (size t.kids[k]) with h' | h'
            · have := P4.out h'; omega
            · have := P3.out h'; omega
        case measure => simp [intOf]; omega
      · have e2 : ¬ (c : Int) ≤ (m : Int) := by omega
        go_wp2_with fail
        go_ret
        refine ⟨c, rfl, hc1, ?_, ?_, ?_, hG.out⟩
        · have := h1.out; have := take_szle t.kids k; have := HSE.out; omega
        · intro h; have := h1.out; have := take_szle t.kids k; have := HSE.out; omega
        · intro _; omega
    · obtain rfl : k = t.kids.length := by omega
      have e1 : ¬ (t.kids.length : Int) < (t.kids.length : Int) := by omega
      go_wp2_with fail
      go_ret
      have h1 := h1.out; have h2 := h2.out; have hs := HSE.out
      rw [List.take_length] at h1 h2
      refine ⟨c, rfl, hc1, by omega, fun h => ?_, fun h => ?_, hG.out⟩
      · have := h2 (by omega); omega
      · rcases Nat.lt_or_ge m c with h' | h'
        · exact h'
        · have := h2 h'; omega

end Go.Proofs.Ytnppmemcdcgjhaa
