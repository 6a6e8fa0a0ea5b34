/- taken: a column is taken out of rows. -/
import Derived.Test.YtnppmemcdcgjhaaHf
import Derived.Test.YtnppmemcdcgjhaaHg
import Derived.Deep.DeepAppendRoom
namespace Go.Proofs.Ytnppmemcdcgjhaa
open Go.RowKit
set_option linter.unusedVariables false

set_option maxRecDepth 20000 in
theorem brows_tail {w : World} {a : Option Addr} {n cap k : Nat} {ps : List BRow} (h : BRowsP w (.slice a n cap) ps) (hg : Good (.slice a n cap)) (hk : k ≤ ps.length) :
    ∃ a' c', (∀ w', (Instr.slice 23 (.slice a n cap) (some (.int .i64 (k : Int))) none none).run Try.prog w' = .ok (.slice a' (n - k) c') w') ∧ BRowsP w (.slice a' (n - k) c') (ps.drop k) ∧ Good (.slice a' (n - k) c') := by
  obtain ⟨i, hi, hz0, hz1, hz2⟩ := info_parts info_brow
  have h' := h
  obtain ⟨a1, cap1, hv, hl, hc, hr⟩ := h
  simp only [Value.slice.injEq] at hv
  obtain ⟨rfl, rfl, rfl⟩ := hv
  have hcap := hg.2 _ _ _ rfl
  have hrun : ∀ w', (Instr.slice 23 (.slice a ps.length cap) (some (.int .i64 (k : Int))) none none).run Try.prog w' = .ok (.slice (if cap = k then a else a.map (·.add k)) (ps.length - k) (cap - k)) w' := by
    intro w'
    rw [run_slice_l w' 23 a ps.length cap Try.underlying23 .i64 (k : Int) (by omega) (by omega)]
    rw [show Try.prog.elem 23 = 26 by kernel_rfl]
    simp [sizeOf, typeInfo, hi, hz1, sliced, Result.andThen]
  have hr' : ∀ p ∈ ps.drop k, BOk w p := fun p hp => hr p (List.mem_of_mem_drop hp)
  have hlen : (ps.drop k).length = ps.length - k := List.length_drop
  refine ⟨_, _, hrun, ?_, ?_, ?_⟩
  · rcases hc with rfl | ⟨b, off, rfl, hc⟩
    · exact ⟨if cap = k then a else a.map (·.add k), cap - k, by simp, by simp, .inl (by simp), by simp⟩
    · by_cases hck : cap = k
      · rw [if_pos hck]
        exact ⟨some ⟨b, off, none⟩, cap - k, by rw [hlen], by omega, .inl (List.drop_eq_nil_of_le (by omega)), hr'⟩
      · rw [if_neg hck]
        have he : (⟨b, off, none⟩ : Addr).add k = ⟨b, off + k, none⟩ := by unfold Addr.add; split <;> simp_all
        simp only [Option.map_some, he]
        refine ⟨some ⟨b, off + k, none⟩, cap - k, by rw [hlen], by omega, .inr ⟨b, off + k, rfl, fun i hi => ?_⟩, hr'⟩
        rw [hlen] at hi
        rw [show off + k + i = off + (k + i) by omega, hc (k + i) (by omega), List.getElem?_drop]
  · intro n' c' e
    simp only [Value.slice.injEq] at e
    have : a = none := by
      have := e.1
      split at this
      · exact this
      · simpa using this
    subst this
    have := hg.1 _ _ rfl
    omega
  · intro a1 n1 c1 e
    simp only [Value.slice.injEq] at e
    omega

theorem ownB_own {w : World} {base : Nat} {v : Value} {xs : List Bool} (h : OwnB w base v xs) (h1 : 1 ≤ xs.length) : ∃ g c, v = .slice (some ⟨g, 0, none⟩) xs.length c ∧ base ≤ g ∧ xs.length ≤ c := by
  rcases h.2 with ⟨_, h0⟩ | ⟨g, cap, cur, hv, hb, _, hn, _⟩
  · omega
  · exact ⟨g, cap, hv, hb, hn⟩
/-- One element of an own table is written. -/
theorem OwnT.stored {w : World} {base k b n cp col : Nat} {v : Value} {xs : List Bool} {qs : List BRow} (h : OwnT w base v qs) (hk : k < qs.length) (hq : qs[k] = (.slice (some ⟨b, 0, none⟩) n cp, xs)) (z : Bool) :
    OwnT (w.setCell ⟨b, col, none⟩ (.bool z)) base v (qs.set k (.slice (some ⟨b, 0, none⟩) n cp, xs.set col z)) := by
  obtain ⟨h1, h2, h3⟩ := h
  have hmk : qs[k] ∈ qs := List.getElem_mem hk
  have hO := h2 _ hmk
  rw [hq] at hO
  have hg : w.grownBy (w.setCell ⟨b, col, none⟩ (.bool z)) (some b) := grown_set w _ _
  have hO2 : OwnB (w.setCell ⟨b, col, none⟩ (.bool z)) base (.slice (some ⟨b, 0, none⟩) n cp) (xs.set col z) := hO.stored col z
  have hne : ∀ i, i < qs.length → i ≠ k → ∀ (hi : i < qs.length), (qs[i]).1.ownBlock ≠ some b := fun i hi hik _ e => by
    rcases Nat.lt_or_gt_of_ne hik with hlt | hgt
    · exact List.pairwise_iff_getElem.1 h3 i k hi hk hlt b e (by rw [hq]; rfl)
    · exact List.pairwise_iff_getElem.1 h3 k i hk hi hgt b (by rw [hq]; rfl) e
  have hfst : (qs.set k (.slice (some ⟨b, 0, none⟩) n cp, xs.set col z)).map Prod.fst = qs.map Prod.fst := by
    rw [List.map_set]
    refine List.ext_getElem (by simp) (fun i hi hi' => ?_)
    rw [List.getElem_set]
    split
    · rename_i e; subst e; simp [hq]
    · rfl
  have hB : ∀ q ∈ qs.set k (.slice (some ⟨b, 0, none⟩) n cp, xs.set col z), OwnB (w.setCell ⟨b, col, none⟩ (.bool z)) base q.1 q.2 := fun q hq' => by
    obtain ⟨i, hi, rfl⟩ := List.getElem_of_mem hq'
    rw [List.length_set] at hi
    rw [List.getElem_set]
    by_cases e : k = i
    · subst e; rw [if_pos rfl]; exact hO2
    · rw [if_neg e]
      exact World.ownsRow.kept (h2 _ (List.getElem_mem hi)) hg (.inr (hne i hi (Ne.symm e) hi))
  refine ⟨h1.swap hg (fun e => (h1.2 _ hmk).2 b (by rw [hq]; rfl) e) hfst (fun q hq' => (hB q hq').row), hB, ?_⟩
  have h3' : (qs.map Prod.fst).Pairwise (fun p q : Value => ∀ g, p.ownBlock = some g → q.ownBlock ≠ some g) := List.pairwise_map.2 h3
  rw [← hfst] at h3'
  exact List.pairwise_map.1 h3'
theorem tb_set {T : List (List Bool)} {k : Nat} (hk : k < T.length) (col : Nat) (x j : Nat) : tb (T.set k ((T[k]).set col false)) x j = (tb T x j && !(decide (x = k) && j == col)) := by
  unfold tb
  by_cases e : x = k
  · subst e
    rw [List.getElem?_set_self hk, List.getElem?_eq_getElem hk]
    simp only [Option.getD_some, decide_true, Bool.true_and]
    by_cases ej : j = col
    · subst ej
      by_cases hl : j < (T[x]).length
      · simp [hl]
      · rw [List.getElem?_eq_none (by rw [List.length_set]; omega)]; simp
    · rw [List.getElem?_set_ne (Ne.symm ej)]
      simp [ej]
  · rw [List.getElem?_set_ne (Ne.symm e)]
    simp [e]
structure TakenP (qs : List BRow) (r c i : Nat) (qs' : List BRow) : Prop where
  len : qs'.length = qs.length
  lens : qs'.map (fun q => q.2.length) = qs.map (fun q => q.2.length)
  tb_ : ∀ x j, tb (qs'.map Prod.snd) x j = (tb (qs.map Prod.snd) x j && !(decide (r < x ∧ x < i) && j == c))
def TakenTo (w0 : World) (v : Value) (qs : List BRow) (r c : Nat) (e : Ending) (w' : World) : Prop := ∃ qs', e = .returned (.tuple #[]) ∧ OwnT w' w0.heap.size v qs' ∧ w0.grownBy w' none ∧ TakenP qs r c qs.length qs'

set_option maxRecDepth 100000 in
set_option maxHeartbeats 1000000 in
theorem taken_any (w0 w : World) (g cap : Nat) (qs : List BRow) (row col : Nat) (g0 : w0.grownBy w none) (h : OwnT w w0.heap.size (.slice (some ⟨g, 0, none⟩) qs.length cap) qs) (hr : row < qs.length) (hl : qs.length ≤ 1000) (hc : ∀ q ∈ qs, col < q.2.length ∧ q.2.length ≤ 1000) :
    Calls Try.prog 50 #[.slice (some ⟨g, 0, none⟩) qs.length cap, .int .i64 (row : Int), .int .i64 (col : Int)] w (TakenTo w0 (.slice (some ⟨g, 0, none⟩) qs.length cap) qs row col) := by
  have H := Lib.hid h; have HC := Lib.hid hc; have G0 := Lib.hid g0
  clear h hc g0
  have i0 : IntKind.i64.wrap ((row : Int) + 1) = ((row + 1 : Nat) : Int) := by rw [IntWalk.i64_in _ (by omega)]; omega
  go_enter Try.func50, Try.ntmps50
  go_wp2_with fail
  go_loopw [6] (fun i wr => ∃ (k : Nat) (qs' : List BRow), i = .int .i64 k ∧ row + 1 ≤ k ∧ k ≤ qs.length ∧ Hid (OwnT wr w0.heap.size (.slice (some ⟨g, 0, none⟩) qs.length cap) qs') ∧ Hid (w0.grownBy wr none) ∧ Hid (TakenP qs row col k qs')) (fun i _ => qs.length - (intOf i).toNat)
  case atStart => exact ⟨row + 1, qs, rfl, Nat.le_refl _, by omega, H, G0, Lib.hid ⟨rfl, rfl, fun x j => by
    have : decide (row < x ∧ x < row + 1) = false := by simp; omega
    rw [this]; simp⟩⟩
  case round =>
    obtain ⟨k, qs', rfl, hk1, hk2, hO, hG, hT⟩ := hrel
    by_cases hkb : k < qs.length
    · have h1 : (k : Int) < (qs.length : Int) := by omega
      have i1 : IntKind.i64.wrap ((k : Int) + 1) = (k : Int) + 1 := IntWalk.i64_in _ (by omega)
      have HKB : Hid (k < qs'.length) := Lib.hid (by rw [hT.out.len]; exact hkb)
      have HRL : Hid (col < (qs'[k]'HKB.out).2.length ∧ (qs'[k]'HKB.out).2.length ≤ 1000) := Lib.hid (by
        have e : (qs'.map (fun q => q.2.length))[k]'(by rw [List.length_map]; exact HKB.out) = (qs.map (fun q => q.2.length))[k]'(by rw [List.length_map]; exact hkb) := by simp only [hT.out.lens]
        rw [List.getElem_map, List.getElem_map] at e
        rw [e]
        exact HC.out _ (List.getElem_mem hkb))
      have HOB := Lib.hid (hO.out.2.1 _ (List.getElem_mem HKB.out))
      obtain ⟨hcell, -⟩ := hO.out.1.cell k HKB.out
      obtain ⟨b, cp, hv, -, -⟩ := ownB_own HOB.out (by have := HRL.out.1; omega)
      have HQ : Hid (qs'[k]'HKB.out = (.slice (some ⟨b, 0, none⟩) (qs'[k]'HKB.out).2.length cp, (qs'[k]'HKB.out).2)) := Lib.hid (by rw [← hv])
      rw [hv] at HOB hcell
      clear hv
      have HXE : Hid ((qs'.map Prod.snd)[k]'(by rw [List.length_map]; exact HKB.out) = (qs'[k]'HKB.out).2) := Lib.hid (by simp)
      generalize hxs : (qs'[k]'HKB.out).2 = xs at *
      clear hxs
      have h2 : (col : Int) < (xs.length : Int) := by have := HRL.out.1; omega
      obtain ⟨hb1, hb2⟩ := HOB.out.cell col HRL.out.1
      go_wp2_with fail
      have HO2 := Lib.hid (hO.out.stored (col := col) HKB.out HQ.out false)
      have HG2 := Lib.hid (grown_then hG.out (grown_set wr ⟨b, col, none⟩ (.bool false)) (by rintro j ⟨⟩; exact .inl (HOB.out.fresh b rfl).1))
      have HT2 : Hid (TakenP qs row col (k + 1) (qs'.set k (.slice (some ⟨b, 0, none⟩) xs.length cp, xs.set col false))) := Lib.hid ⟨by rw [List.length_set, hT.out.len], by
          rw [← hT.out.lens, List.map_set]
          refine List.ext_getElem (by simp) (fun i hi hi' => ?_)
          rw [List.getElem_set]
          split
          · rename_i e; subst e; simp [HQ.out]
          · rfl, fun x j => by
          rw [List.map_set]
          have := tb_set (T := qs'.map Prod.snd) (k := k) (by rw [List.length_map]; exact HKB.out) col x j
          rw [HXE.out] at this
          rw [this, hT.out.tb_ x j, Bool.and_assoc]
          congr 1
          rw [← Bool.not_or]
          congr 1
          rw [← Bool.and_or_distrib_right]
          congr 1
          rw [Bool.eq_iff_iff]
          simp
          omega⟩
      clear hcell hb1 hb2
      go_roundw
      case rel => exact ⟨k + 1, _, by go_num, by omega, by omega, HO2, HG2, HT2⟩
      case measure => simp [intOf]; omega
    · obtain rfl : k = qs.length := by omega
      have h1 : ¬ (qs.length : Int) < (qs.length : Int) := by omega
      go_wp2_with fail
      refine bodyPost_end (results_none rfl _ _ _) rfl ?_
      exact ⟨qs', rfl, hO.out, hG.out, hT.out⟩

end Go.Proofs.Ytnppmemcdcgjhaa
