/- Free: both sides, whatever comes in. -/
import Derived.Test.YtgcfafjgaifmiaaFm
namespace Go.Proofs.Ytgcfafjgaifmiaa
open Go.ChangeShapes Go.WideShapes Go.ChangeAt Go.RowKit
set_option linter.unusedVariables false

section
variable {r c : Nat} {ms : List Row} {va : Value} {w : World}
/-- Free, when minimal gives nothing. -/
theorem Free_bad {n err : Int} (hk : ∀ w v u, RowsI w v ms → Ints w u (zerosL ms.length) → Calls Try.prog 37 #[v, u, .int .i64 n, .func (.func 40) #[] #[]] w fun e w' => e = .returned (.tuple #[.slice none 0 0, .int .i64 err]) ∧ w.grownBy w' none) (h : RowsI w va ms) (hl : ms.length ≤ 1000) :
    Calls Try.prog 22 #[va, .int .i64 n] w fun e w' => e = .returned (.tuple #[.slice none 0 0, .int .i64 err]) ∧ w.grownBy w' none := by
  have HK := Lib.hid hk; have HA := Lib.hid h
  obtain ⟨aa, capa, rfl, -⟩ : ∃ a cap, va = .slice a ms.length cap ∧ True := by obtain ⟨a, cap, h, -⟩ := h; exact ⟨a, cap, h, trivial⟩
  clear hk h
  go_enter Try.func22, Try.ntmps22
  go_wp2_with (at_make; refine make_int rfl _ _ rfl ms.length rfl rfl (by omega) ?_)
  intro w1 ho hg
  have HO : Hid (Ints w1 (.slice (some ⟨w.heap.size, 0, none⟩) ms.length ms.length) (zerosL ms.length)) := Lib.hid (ho.ints (zeros_bd _))
  have HG := Lib.hid hg
  clear ho hg
  go_wp2_with fail
  refine (HK.out _ _ _ (HA.out.same HG.out) HO.out).mono ?_
  rintro e w2 ⟨rfl, hg⟩
  have HG2 := Lib.hid (grown_trans HG.out hg)
  clear hg
  go_wp2_with fail
  go_ret2
  exact ⟨rfl, HG2.out⟩
theorem rFree_no {n : Int} (h : RowsI w va ms) (hno : ¬ ShapeOk ms) :
    Calls Try.prog 23 #[va, .int .i64 n] w fun e w' => e = .returned (.tuple #[.slice none 0 0, .int .i64 10]) ∧ w.grownBy w' none := by
  have H := Lib.hid h
  clear h
  go_enter Try.func23, Try.ntmps23
  go_wp2_with fail
  refine (shape_no H.out hno).mono ?_
  rintro e w1 ⟨rfl, hg⟩
  have HG := Lib.hid hg
  clear hg
  go_wp2_with fail
  go_ret2
  exact ⟨rfl, HG.out⟩
theorem rFree_range {n : Int} (h : RowsP w va ms) (hm : MatOkP r c ms) (hr : r ≤ 6) (hc : c ≤ 6) (hn : n < 0 ∨ 10 < n) :
    Calls Try.prog 23 #[va, .int .i64 n] w fun e w' => e = .returned (.tuple #[.slice none 0 0, .int .i64 2]) ∧ w.grownBy w' none := by
  have HK := Lib.hid (shape_yes h hm hr hc)
  clear h hm
  by_cases h0 : n < 0
  · clear hn
    go_enter Try.func23, Try.ntmps23
    go_wp2_with fail
    refine HK.out.mono ?_
    rintro e w1 ⟨rfl, hg⟩
    have HG := Lib.hid hg
    clear hg
    go_wp2_with fail
    go_ret2
    exact ⟨rfl, HG.out⟩
  · have h1 := hn.resolve_left h0
    clear hn
    go_enter Try.func23, Try.ntmps23
    go_wp2_with fail
    refine HK.out.mono ?_
    rintro e w1 ⟨rfl, hg⟩
    have HG := Lib.hid hg
    clear hg
    go_wp2_with fail
    go_ret2
    exact ⟨rfl, HG.out⟩
theorem cnt_some_is : (cntF true) = someB := rfl
theorem rFree_ok {m : Nat} (h : RowsP w va ms) (hm : MatOkP r c ms) (hr : r ≤ 6) (hc : c ≤ 6) (hn : m ≤ 10) :
    Calls Try.prog 23 #[va, .int .i64 (m : Int)] w (GotU (minL (goodB ms (zerosL r) someB) (vecs c m)) 0 w) := by
  have HK := Lib.hid (shape_yes h hm hr hc)
  have HM := Lib.hid hm; have HA := Lib.hid h
  have hml := hm.1
  have hl6 : ms.length ≤ 6 := by omega
  obtain ⟨aa, capa, rfl, -⟩ : ∃ a cap, va = .slice a ms.length cap ∧ True := by obtain ⟨a, cap, h, -⟩ := h; exact ⟨a, cap, h, trivial⟩
  have HML := Lib.hid hml
  have p2 : ¬ (m : Int) < 0 := by omega
  have p3 : ¬ (10 : Int) < (m : Int) := by omega
  have d3 : decide ((10 : Int) < (m : Int)) = false := by simp; omega
  clear h hm hml
  go_enter Try.func23, Try.ntmps23
  go_wp2_with fail
  refine HK.out.mono ?_
  rintro e w1 ⟨rfl, hg⟩
  have HG := Lib.hid hg
  clear hg
  go_wp2_with fail
  refine (r12zeros_any ms.length w1 (by omega)).mono ?_
  rintro e w2 ⟨vz, rfl, ho, hg⟩
  have HZ : Hid (Ints w2 vz (zerosL r)) := Lib.hid (by rw [← HML.out]; exact ho.ints (zeros_bd _))
  replace HG := Lib.hid (grown_trans HG.out hg)
  clear ho hg
  go_wp2_with fail
  obtain ⟨az, cz, hvz, -⟩ := id HZ.out
  subst hvz
  refine (rsolutions_free (HA.out.same HG.out) HM.out hr hc HZ.out (zeros_ok r) hn).mono ?_
  rintro e w3 ⟨v, qs, rfl, hr', hgd, hq, hg⟩
  rw [cnt_some_is] at hq
  have HR := Lib.hid hr'; have HQ := Lib.hid hq; have HG2 := Lib.hid (grown_trans HG.out hg)
  clear hr' hgd hq hg
  go_wp2_with fail
  go_ret2
  exact ⟨v, qs, rfl, HR.out, HQ.out, HG2.out⟩
end
/-- One answer for both sides. -/
theorem free_u (ms : List Row) (n : Int) (hl : ms.length ≤ 1000) : ∃ rs err, (∀ w v, RowsI w v ms → Calls Try.prog 22 #[v, .int .i64 n] w (GotU rs err w)) ∧ ∀ w v, RowsI w v ms → Calls Try.prog 23 #[v, .int .i64 n] w (GotU rs err w) := by
  by_cases hs : ShapeOk ms
  · obtain ⟨r, c, hm, hr, hc⟩ := hs
    have e : ms.length = r := hm.1
    by_cases hn : n < 0 ∨ 10 < n
    · exact ⟨[], 2, fun w v a => (Free_bad (fun w' v' u' a' b' => minimal_range (a'.toP hm) hm hr hc b' (by rw [e]; exact zeros_ok r) hn) a hl).mono fun e w' h => gotU_bad h, fun w v a => (rFree_range (a.toP hm) hm hr hc hn).mono fun e w' h => gotU_bad h⟩
    · obtain ⟨m, rfl⟩ : ∃ m : Nat, n = (m : Int) := ⟨n.toNat, by omega⟩
      have hm10 : m ≤ 10 := by omega
      refine ⟨minL (goodB ms (zerosL r) someB) (vecs c m), 0, fun w v a => (Free_any (a.toP hm) hm hr hc hm10).mono fun e w' h => ?_, fun w v a => rFree_ok (a.toP hm) hm hr hc hm10⟩
      obtain ⟨v, qs, h4, h5, h6, h7⟩ := h
      exact ⟨v, qs, h4, h5.rowsP, h6, h7⟩
  · exact ⟨[], 10, fun w v a => (Free_bad (fun w' v' u' a' b' => minimal_err (fun w'' v'' u'' a'' _ => hcheck_no a'' hs) (by decide) a' b') a hl).mono fun e w' h => gotU_bad h, fun w v a => (rFree_no a hs).mono fun e w' h => gotU_bad h⟩
end Go.Proofs.Ytgcfafjgaifmiaa
