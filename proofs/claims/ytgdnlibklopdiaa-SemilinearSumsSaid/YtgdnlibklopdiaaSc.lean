/- Contracts: Clone, clone.Ints; the tail of a slice of slices. -/
import Derived.Test.YtgdnlibklopdiaaSb
namespace Go.Proofs.Ytgdnlibklopdiaa
open Go.RowKit
set_option linter.unusedVariables false

set_option maxRecDepth 20000 in
theorem rows_tail1 {w : World} {a : Option Addr} {n cap k : Nat} {ps : List Row} (h : RowsP w (.slice a n cap) ps) (hg : Good (.slice a n cap)) (hk : k ≤ ps.length) :
    ∃ a' c', (∀ w', (Instr.slice 23 (.slice a n cap) (some (.int .i64 (k : Int))) none none).run Try.prog w' = .ok (.slice a' (n - k) c') w') ∧ RowsP w (.slice a' (n - k) c') (ps.drop k) ∧ Good (.slice a' (n - k) c') := by
  obtain ⟨i, hi, hz0, hz1, hz2⟩ := info_parts info_row
  have h' := h
  obtain ⟨a1, cap1, hv, hl, hc, hr⟩ := h
  simp only [Value.slice.injEq] at hv
  obtain ⟨rfl, rfl, rfl⟩ := hv
  have hcap := hg.2 _ _ _ rfl
  have hrun : ∀ w', (Instr.slice 23 (.slice a ps.length cap) (some (.int .i64 (k : Int))) none none).run Try.prog w' = .ok (.slice (if cap = k then a else a.map (·.add k)) (ps.length - k) (cap - k)) w' := by
    intro w'
    rw [run_slice_l w' 23 a ps.length cap Try.underlying23 .i64 (k : Int) (by omega) (by omega)]
    rw [show Try.prog.elem 23 = 22 by kernel_rfl]
    simp [sizeOf, typeInfo, hi, hz1, sliced, Result.andThen]
  have hr' : ∀ p ∈ ps.drop k, RowOk w p := fun p hp => hr p (List.mem_of_mem_drop hp)
  have hlen : (ps.drop k).length = ps.length - k := List.length_drop
  refine ⟨_, _, hrun, ?_, ?_, ?_⟩
  · rcases hc with rfl | ⟨b, off, rfl, hc⟩
    · exact ⟨if cap = k then a else a.map (·.add k), cap - k, by simp, by simp, .inl (by simp), by simp⟩
    · by_cases hck : cap = k
      · rw [if_pos hck]
        exact ⟨some ⟨b, off, none⟩, cap - k, by rw [hlen], by omega, .inl (List.drop_eq_nil_of_le (by omega)), hr'⟩
      · rw [if_neg hck]
        have he : (⟨b, off, none⟩ : Addr).add k = ⟨b, off + k, none⟩ := by unfold Addr.add; split <;> simp_all
        simp only [Option.map_some, he]
        refine ⟨some ⟨b, off + k, none⟩, cap - k, by rw [hlen], by omega, .inr ⟨b, off + k, rfl, fun i hi => ?_⟩, hr'⟩
        rw [hlen] at hi
        rw [show off + k + i = off + (k + i) by omega, hc (k + i) (by omega), List.getElem?_drop]
  · intro n' c' e
    simp only [Value.slice.injEq] at e
    have : a = none := by
      have := e.1
      split at this
      · exact this
      · simpa using this
    subst this
    have := hg.1 _ _ rfl
    omega
  · intro a1 n1 c1 e
    simp only [Value.slice.injEq] at e
    omega

theorem src_cells {w : World} {b off : Nat} {xs : List Int} (hc : ∀ i, i < xs.length → w.cell? ⟨b, off + i, none⟩ = some (.int .i64 (xs[i]?.getD 0))) :
    ∀ j u, (xs.map (Value.int .i64))[j]? = some u → w.cell? ((⟨b, off, none⟩ : Addr).add j) = some u := by
  intro j u hj
  have hj' : j < xs.length := by
    have := (List.getElem?_eq_some_iff.1 hj).1
    simpa using this
  have e : (⟨b, off, none⟩ : Addr).add j = ⟨b, off + j, none⟩ := by unfold Addr.add; split <;> simp_all
  rw [e, hc j hj']
  simp [hj'] at hj
  simp [hj', hj]

set_option maxRecDepth 20000 in
set_option maxHeartbeats 1000000 in
theorem cloneInts_any (v : Value) (xs : List Int) (w : World) (h : RowOk w (v, xs)) (h1 : 1 ≤ xs.length) (hl : xs.length ≤ 1000000) :
    Calls Try.prog 72 #[v] w (Made xs w) := by
  have H := Lib.hid h
  obtain ⟨⟨a, cap, hv, -, -, -⟩, -, -⟩ := h
  simp only at hv
  subst hv
  have hne : ¬ (xs.length : Int) = 0 := by omega
  go_enter Try.func72, Try.ntmps72
  go_wp2_with (at_make; refine make_int rfl _ _ rfl xs.length rfl rfl (by omega) ?_)
  intro w1 ho hg
  have G1 := Lib.hid hg
  have HM : Hid (w1.heap.size > w.heap.size) := Lib.hid (ho.fresh _ rfl).2
  obtain ⟨cur, hh, hsz, hW⟩ := copied ho rfl
  have HW := Lib.hid hW
  obtain ⟨⟨a1, cap1, hv1, -, -, hc⟩, -⟩ := (H.out.same hg)
  simp only [Value.slice.injEq] at hv1
  obtain ⟨rfl, -, -⟩ := hv1
  rcases hc with rfl | ⟨b, off, rfl, hc⟩
  · simp at h1
  dsimp only at hc
  clear ho hg hW
  go_wp2_with (refine wpList_copy_own rfl _ _ 22 22 rfl 3 Try.underlying22 (by kernel_rfl) w.heap.size 0 xs.length xs.length ⟨b, off, none⟩ xs.length cap rfl rfl cur 3 hh (xs.map (Value.int .i64)) (by simp) (src_cells hc) (by simp <;> omega) (by intro u hu; obtain ⟨x, -, rfl⟩ := List.mem_map.1 hu; rfl) ?_)
  generalize hWW : World.setRow _ _ _ = W
  obtain ⟨hO, hG⟩ := HW.out W hWW.symm
  have HO := Lib.hid hO
  have HG := Lib.hid (grown_then G1.out hG (by rintro j ⟨⟩; exact .inl (Nat.le_refl _)))
  clear hO hG hWW hc hh hsz HW
  go_wp2_with fail
  go_ret
  exact ⟨_, rfl, HO.out, HG.out⟩

set_option maxRecDepth 20000 in
set_option maxHeartbeats 1000000 in
theorem clone_any (v : Value) (xs : List Int) (w : World) (h : RowOk w (v, xs)) (h1 : 1 ≤ xs.length) (hl : xs.length ≤ 1000000) :
    Calls Try.prog 93 #[v] w (Made xs w) := by
  have H := Lib.hid h
  obtain ⟨⟨a, cap, hv, -, -, hc⟩, -, -⟩ := h
  simp only at hv
  subst hv
  rcases hc with rfl | ⟨b, off, rfl, -⟩
  · simp at h1
  have he : ∀ W, (binOp .eql 22 (.slice (some ⟨b, off, none⟩) xs.length cap) (.slice none 0 0)).run Try.prog W = .ok (.bool false) W := fun _ => rfl
  go_enter Try.func93, Try.ntmps93
  go_wp2_with (at_builtin; refine app_ints rfl _ _ rfl w.heap.size _ [] rfl (World.ownsRow_lit w #[] 0 (Nat.le_refl _) (by decide) rfl) _ xs rfl (H.out.same (World.grownBy_alloc _ _ none)).1 H.out.2.1 (by simp; omega) (World.grownBy_alloc w _ none).size ?_)
  intro v' w1 ho hg
  have HO := Lib.hid ho; have HG := Lib.hid (grown_then (World.grownBy_alloc w (.cells #[] 3) none) hg (by rintro j ⟨⟩; exact .inl (Nat.le_refl _)))
  clear ho hg
  go_wp2_with fail
  go_ret
  exact ⟨_, rfl, HO.out, HG.out⟩

end Go.Proofs.Ytgdnlibklopdiaa
