/- Minimal: the reference, and one answer for both sides. -/
import Derived.Test.YtgcfafjgaifmiaaFl
namespace Go.Proofs.Ytgcfafjgaifmiaa
open Go.ChangeShapes Go.WideShapes Go.ChangeAt Go.RowKit
set_option linter.unusedVariables false

section
variable {r c : Nat} {ms : List Row} {va vb : Value} {bs : List Int} {w : World}
theorem rMinimal_err {n err : Int} (hk : Calls Try.prog 16 #[va, vb] w fun e w' => e = .returned (.int .i64 err) ∧ w.grownBy w' none) (he : err ≠ 0) :
    Calls Try.prog 20 #[va, vb, .int .i64 n] w fun e w' => e = .returned (.tuple #[.slice none 0 0, .int .i64 err]) ∧ w.grownBy w' none := by
  have HK := Lib.hid hk
  have p : (err != 0) = true := by simpa using he
  clear hk he
  go_enter Try.func20, Try.ntmps20
  go_wp2_with fail
  refine HK.out.mono ?_
  rintro e w1 ⟨rfl, hg⟩
  have HG := Lib.hid hg
  clear hg
  go_wp2_with fail
  go_ret2
  exact ⟨rfl, HG.out⟩
theorem rMinimal_range {n : Int} (h : RowsP w va ms) (hm : MatOkP r c ms) (hr : r ≤ 6) (hc : c ≤ 6) (hb : Ints w vb bs) (hbo : RightOk r bs) (hn : n < 0 ∨ 10 < n) :
    Calls Try.prog 20 #[va, vb, .int .i64 n] w fun e w' => e = .returned (.tuple #[.slice none 0 0, .int .i64 2]) ∧ w.grownBy w' none := by
  have HK := Lib.hid (rcheck12_fit h hm hr hc hb hbo.1)
  rw [right_all hbo] at HK
  clear h hm hb hbo
  by_cases h0 : n < 0
  · clear hn
    go_enter Try.func20, Try.ntmps20
    go_wp2_with fail
    refine HK.out.mono ?_
    rintro e w1 ⟨rfl, hg⟩
    have HG := Lib.hid hg
    clear hg
    go_wp2_with fail
    go_ret2
    exact ⟨rfl, HG.out⟩
  · have h1 := hn.resolve_left h0
    clear hn
    go_enter Try.func20, Try.ntmps20
    go_wp2_with fail
    refine HK.out.mono ?_
    rintro e w1 ⟨rfl, hg⟩
    have HG := Lib.hid hg
    clear hg
    go_wp2_with fail
    go_ret2
    exact ⟨rfl, HG.out⟩
theorem rMinimal_ok {m : Nat} (h : RowsP w va ms) (hm : MatOkP r c ms) (hr : r ≤ 6) (hc : c ≤ 6) (hb : Ints w vb bs) (hbo : RightOk r bs) (hn : m ≤ 10) :
    Calls Try.prog 20 #[va, vb, .int .i64 (m : Int)] w (GotU (minL (goodB ms bs (fun _ => true)) (vecs c m)) 0 w) := by
  have HK := Lib.hid (rcheck12_fit h hm hr hc hb hbo.1)
  rw [right_all hbo] at HK
  have HM := Lib.hid hm; have HA := Lib.hid h; have HB := Lib.hid hb; have HBO := Lib.hid hbo
  have p2 : ¬ (m : Int) < 0 := by omega
  have p3 : ¬ (10 : Int) < (m : Int) := by omega
  have d3 : decide ((10 : Int) < (m : Int)) = false := by simp; omega
  clear h hm hb hbo
  go_enter Try.func20, Try.ntmps20
  go_wp2_with fail
  refine HK.out.mono ?_
  rintro e w1 ⟨rfl, hg⟩
  have HG := Lib.hid hg
  clear hg
  go_wp2_with fail
  refine (rsolutions_any (HA.out.same HG.out) HM.out hr hc (HB.out.same HG.out) HBO.out hn).mono ?_
  rintro e w2 ⟨v, qs, rfl, hr', hgd, hq, hg⟩
  have HR := Lib.hid hr'; have HQ := Lib.hid hq; have HG2 := Lib.hid (grown_trans HG.out hg)
  clear hr' hgd hq hg
  go_wp2_with fail
  go_ret2
  exact ⟨v, qs, rfl, HR.out, HQ.out, HG2.out⟩
end
/-- One answer for both sides. -/
theorem minimal_u (ms : List Row) (bs : List Int) (n : Int) : ∃ rs err, (∀ w v u, RowsI w v ms → Ints w u bs → Calls Try.prog 19 #[v, u, .int .i64 n] w (GotU rs err w)) ∧ ∀ w v u, RowsI w v ms → Ints w u bs → Calls Try.prog 20 #[v, u, .int .i64 n] w (GotU rs err w) := by
  obtain ⟨err, h1, h2, h3⟩ := hcheck_u ms bs
  rcases h3 with h3 | ⟨rfl, r, c, hm, hr, hc, hb⟩
  · exact ⟨[], err, fun w v u a b => (Minimal_bad (fun w' a' b' => minimal_err h1 h3 a' b') a b).mono fun e w' h => gotU_bad h, fun w v u a b => (rMinimal_err (h2 w v u a b) h3).mono fun e w' h => gotU_bad h⟩
  · by_cases hn : n < 0 ∨ 10 < n
    · exact ⟨[], 2, fun w v u a b => (Minimal_bad (fun w' a' b' => minimal_range (a'.toP hm) hm hr hc b' hb hn) a b).mono fun e w' h => gotU_bad h, fun w v u a b => (rMinimal_range (a.toP hm) hm hr hc b hb hn).mono fun e w' h => gotU_bad h⟩
    · obtain ⟨m, rfl⟩ : ∃ m : Nat, n = (m : Int) := ⟨n.toNat, by omega⟩
      have hm10 : m ≤ 10 := by omega
      refine ⟨minL (goodB ms bs (fun _ => true)) (vecs c m), 0, fun w v u a b => (Minimal_any (a.toP hm) hm hr hc b hb hm10).mono fun e w' h => ?_, fun w v u a b => rMinimal_ok (a.toP hm) hm hr hc b hb hm10⟩
      obtain ⟨v, qs, h4, h5, h6, h7⟩ := h
      exact ⟨v, qs, h4, h5.rowsP, h6, h7⟩
end Go.Proofs.Ytgcfafjgaifmiaa
