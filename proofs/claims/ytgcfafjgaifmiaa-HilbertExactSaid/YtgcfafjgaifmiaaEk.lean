/- hilbert: Minimal, Free, and one solution taken apart. -/
import Derived.Test.YtgcfafjgaifmiaaEi
import Derived.Test.YtgcfafjgaifmiaaEj
namespace Go.Proofs.Ytgcfafjgaifmiaa
open Go.RowKit
set_option linter.unusedVariables false

theorem Minimal_any {r c mst : Nat} {ms : List Row} {va vb : Value} {bs : List Int} {w : World} (h : RowsP w va ms) (hm : MatOkP r c ms) (hr : r ≤ 6) (hc : c ≤ 6) (hb : Ints w vb bs) (hbo : RightOk r bs) (hmst : mst ≤ 10) :
    Calls Try.prog 19 #[va, vb, .int .i64 (mst : Int)] w (MinTo w (minL (goodB ms bs (fun _ => true)) (vecs c mst))) := by
  have HM := Lib.hid hm; have HA := Lib.hid h; have HB := Lib.hid hb; have HBO := Lib.hid hbo
  obtain ⟨aa, capa, rfl, -⟩ : ∃ a cap, va = .slice a ms.length cap ∧ True := by obtain ⟨a, cap, h, -⟩ := h; exact ⟨a, cap, h, trivial⟩
  obtain ⟨ab, capb, hvb, -⟩ := id hb
  subst hvb
  clear h hb hbo hm
  go_enter Try.func19, Try.ntmps19
  go_wp2_with fail
  refine (minimal_any (cnt_all c) (enters_of Try.func38 (by kernel_rfl) rfl) HA.out HM.out hr hc HB.out HBO.out hmst).mono ?_
  rintro e w1 ⟨v, qs, rfl, ho, hq, hg⟩
  have HO := Lib.hid ho; have HG := Lib.hid hg
  obtain ⟨av, cv, rfl⟩ := HO.out.slice
  have HQ := Lib.hid hq
  clear ho hg hq
  go_wp2_with fail
  go_ret2
  exact ⟨_, qs, rfl, HO.out, HQ.out, HG.out⟩
theorem zeros_ok (r : Nat) : RightOk r (zerosL r) := by
  refine ⟨by simp [zerosL], fun b hb => ?_⟩
  have := List.eq_of_mem_replicate hb
  omega
theorem zeros_bd (r : Nat) : ∀ x ∈ zerosL r, -9223372036854775808 ≤ x ∧ x ≤ 9223372036854775807 := fun x hx => by
  have := List.eq_of_mem_replicate hx
  omega
theorem Free_any {r c mst : Nat} {ms : List Row} {va : Value} {w : World} (h : RowsP w va ms) (hm : MatOkP r c ms) (hr : r ≤ 6) (hc : c ≤ 6) (hmst : mst ≤ 10) :
    Calls Try.prog 22 #[va, .int .i64 (mst : Int)] w (MinTo w (minL (goodB ms (zerosL r) someB) (vecs c mst))) := by
  have HM := Lib.hid hm; have HA := Lib.hid h
  obtain ⟨aa, capa, rfl, -⟩ : ∃ a cap, va = .slice a ms.length cap ∧ True := by obtain ⟨a, cap, h, -⟩ := h; exact ⟨a, cap, h, trivial⟩
  have hc1 : 1 ≤ c := hm.2.2.2.1
  have hl : ms.length = r := hm.1
  have hl6 : ms.length ≤ 6 := by omega
  have HL := Lib.hid hl
  clear h hm hl
  go_enter Try.func22, Try.ntmps22
  go_wp2_with (at_make; refine make_int rfl _ _ rfl ms.length rfl rfl (by omega) ?_)
  intro w1 ho hg
  have HO : Hid (Ints w1 (.slice (some ⟨w.heap.size, 0, none⟩) ms.length ms.length) (zerosL r)) := Lib.hid (by rw [← HL.out]; exact ho.ints (zeros_bd _))
  have HG := Lib.hid hg
  clear ho hg
  go_wp2_with fail
  refine (minimal_any (cnt_some c hc1) (enters_of Try.func40 (by kernel_rfl) rfl) (HA.out.same HG.out) HM.out hr hc HO.out (zeros_ok r) hmst).mono ?_
  rintro e w2 ⟨v, qs, rfl, ho, hq, hg⟩
  have HQ := Lib.hid hq
  have HO2 := Lib.hid (ho.mono HG.out.size); have HG2 := Lib.hid (grown_trans HG.out hg)
  obtain ⟨av, cv, rfl⟩ := HO2.out.slice
  clear ho hg hq
  go_wp2_with fail
  go_ret2
  exact ⟨_, qs, rfl, HO2.out, HQ.out, HG2.out⟩

/-! ### split -/
theorem sub_is {c : Nat} {x p : List Int} (hc : c ≤ 6) (hx : VecOk c x) (hp : VecOk c p) (hpn : ∀ z ∈ p, z ≤ 1048576) : subR x p = if leqI p x then (0, subL x p) else (11, []) := by
  have v : validB x = true := by
    unfold validB
    simp only [Bool.and_eq_true, decide_eq_true_eq, List.all_eq_true]
    refine ⟨by have := hx.1; omega, fun u hu => ?_⟩
    unfold elemB numB
    have := hx.2 u hu
    simp; omega
  have e : x.length = p.length := by rw [hx.1, hp.1]
  unfold subR
  rw [v, finite_ok hc hp, atMost_is p x e.symm]
  simp only [Bool.not_true, Bool.or_false, Bool.false_eq_true, if_false, e, ne_eq, not_true_eq_false]
  congr 2
  unfold subL
  apply List.ext_getElem (by simp)
  intro i h1 h2
  rw [List.getElem_zipWith, List.getElem_zipWith]
  have := hx.2 _ (List.getElem_mem (show i < x.length by rw [List.length_zipWith] at h1; omega))
  unfold subI
  rw [if_neg (by omega)]
def SplitTo (w : World) (ps : List (List Int)) (x : List Int) (e : Ending) (w' : World) : Prop :=
  (∃ v qs, e = .returned (.tuple #[v, .bool true]) ∧ RowsP w' v qs ∧ SplitOk ps x (qs.map Prod.snd) ∧ w.grownBy w' none) ∨ (e = .returned (.tuple #[.slice none 0 0, .bool false]) ∧ (∀ L, ¬ SplitOk ps x L) ∧ w.grownBy w' none)
theorem some_max {x : List Int} {m : Int} (hm : IsMax m x) (h0 : ∀ z ∈ x, 0 ≤ z) : (m == 0) = !someB x := by
  unfold someB
  rw [Bool.eq_iff_iff]
  simp only [beq_iff_eq, Bool.not_eq_true', List.any_eq_false, decide_eq_true_eq]
  constructor
  · rintro rfl z hz; have := hm.2 z hz; omega
  · intro h
    have h1 := h m hm.1
    have h2 := h0 m hm.1
    omega
theorem isplit {ps : List (List Int)} {x : List Int} {L : List (List Int)} (h : SplitOk ps x L) (hs : someB x = true) : ∃ i p L', ps[i]? = some p ∧ leqI p x = true ∧ SplitOk (ps.drop i) (subL x p) L' := by
  cases h with
  | nil h => rw [h] at hs; cases hs
  | cons i h1 h2 h3 h4 => exact ⟨i, _, _, h2, h3, h4⟩
end Go.Proofs.Ytgcfafjgaifmiaa
