/- Minimal: both sides, whatever comes in. -/
import Derived.Test.YtgcfafjgaifmiaaFk
namespace Go.Proofs.Ytgcfafjgaifmiaa
open Go.ChangeShapes Go.WideShapes Go.ChangeAt Go.RowKit
set_option linter.unusedVariables false

def GotU (rs : List (List Int)) (err : Int) (w : World) (e : Ending) (w' : World) : Prop := ∃ v qs, e = .returned (.tuple #[v, .int .i64 err]) ∧ RowsP w' v qs ∧ qs.map Prod.snd = rs ∧ w.grownBy w' none
theorem gotU_bad {w w' : World} {err : Int} {e : Ending} (h : e = .returned (.tuple #[.slice none 0 0, .int .i64 err]) ∧ w.grownBy w' none) : GotU [] err w e w' := ⟨_, [], h.1, rowsP_nil' _, rfl, h.2⟩
theorem cnt_true : (cntF false) = (fun _ => true) := rfl
section
variable {r c : Nat} {ms : List Row} {va vb : Value} {bs : List Int} {w : World}
set_option maxRecDepth 100000 in
theorem minimal_err {n err : Int} {fc : Nat} (hk : ∀ w' v u, RowsI w' v ms → Ints w' u bs → Calls Try.prog 15 #[v, u] w' fun e w'' => e = .returned (.int .i64 err) ∧ w'' = w') (he : err ≠ 0) (h : RowsI w va ms) (hb : Ints w vb bs) :
    Calls Try.prog 37 #[va, vb, .int .i64 n, .func (.func fc) #[] #[]] w fun e w' => e = .returned (.tuple #[.slice none 0 0, .int .i64 err]) ∧ w.grownBy w' none := by
  have HK := Lib.hid hk; have HA := Lib.hid h; have HB := Lib.hid hb
  have p : (err != 0) = true := by simpa using he
  obtain ⟨aa, capa, rfl, -⟩ : ∃ a cap, va = .slice a ms.length cap ∧ True := by obtain ⟨a, cap, h, -⟩ := h; exact ⟨a, cap, h, trivial⟩
  obtain ⟨ab, capb, hvb, -⟩ := hb
  subst hvb
  clear hk he h
  go_enter Try.func37, Try.ntmps37
  go_wp2_with fail
  generalize hwb : World.alloc (World.alloc (World.alloc _ _) _) _ = wb
  have hwg : w.grownBy wb none := by rw [← hwb]; exact grown_aft (grown_aft (World.grownBy_alloc w _ none))
  have HG := Lib.hid hwg
  clear hwb hwg
  refine (HK.out _ _ _ (HA.out.same HG.out) (HB.out.same HG.out)).mono ?_
  rintro e w1 ⟨rfl, hw⟩
  replace hw := hw.symm
  subst hw
  go_wp2_with fail
  go_ret2
  exact ⟨rfl, HG.out⟩
set_option maxRecDepth 100000 in
theorem minimal_range {n : Int} {fc : Nat} (h : RowsP w va ms) (hm : MatOkP r c ms) (hr : r ≤ 6) (hc : c ≤ 6) (hb : Ints w vb bs) (hbo : RightOk r bs) (hn : n < 0 ∨ 10 < n) :
    Calls Try.prog 37 #[va, vb, .int .i64 n, .func (.func fc) #[] #[]] w fun e w' => e = .returned (.tuple #[.slice none 0 0, .int .i64 2]) ∧ w.grownBy w' none := by
  have HM := Lib.hid hm; have HA := Lib.hid h; have HB := Lib.hid hb; have HBO := Lib.hid hbo
  obtain ⟨aa, capa, rfl, -⟩ : ∃ a cap, va = .slice a ms.length cap ∧ True := by obtain ⟨a, cap, h, -⟩ := h; exact ⟨a, cap, h, trivial⟩
  obtain ⟨ab, capb, hvb, -⟩ := hb
  subst hvb
  clear h hm hbo
  have main : ∀ (hh : (n < 0) ∨ (¬ n < 0 ∧ 10 < n)), Calls Try.prog 37 #[.slice aa ms.length capa, .slice ab bs.length capb, .int .i64 n, .func (.func fc) #[] #[]] w fun e w' => e = .returned (.tuple #[.slice none 0 0, .int .i64 2]) ∧ w.grownBy w' none := by
    intro hh
    rcases hh with h1 | ⟨h1, h2⟩
    · clear hn
      go_enter Try.func37, Try.ntmps37
      go_wp2_with fail
      generalize hwb : World.alloc (World.alloc (World.alloc _ _) _) _ = wb
      have hwg : w.grownBy wb none := by rw [← hwb]; exact grown_aft (grown_aft (World.grownBy_alloc w _ none))
      have HG := Lib.hid hwg
      clear hwb hwg
      refine (hcheck_any (HA.out.same HG.out) HM.out hr hc (HB.out.same HG.out) HBO.out).mono ?_
      rintro e w1 ⟨rfl, hw⟩
      replace hw := hw.symm
      subst hw
      go_wp2_with fail
      go_ret2
      exact ⟨rfl, HG.out⟩
    · clear hn
      go_enter Try.func37, Try.ntmps37
      go_wp2_with fail
      generalize hwb : World.alloc (World.alloc (World.alloc _ _) _) _ = wb
      have hwg : w.grownBy wb none := by rw [← hwb]; exact grown_aft (grown_aft (World.grownBy_alloc w _ none))
      have HG := Lib.hid hwg
      clear hwb hwg
      refine (hcheck_any (HA.out.same HG.out) HM.out hr hc (HB.out.same HG.out) HBO.out).mono ?_
      rintro e w1 ⟨rfl, hw⟩
      replace hw := hw.symm
      subst hw
      go_wp2_with fail
      go_ret2
      exact ⟨rfl, HG.out⟩
  by_cases h0 : n < 0
  · exact main (.inl h0)
  · exact main (.inr ⟨h0, hn.resolve_left h0⟩)
/-- Minimal, when minimal gives nothing. -/
theorem Minimal_bad {n err : Int} (hk : ∀ w, RowsI w va ms → Ints w vb bs → Calls Try.prog 37 #[va, vb, .int .i64 n, .func (.func 38) #[] #[]] w fun e w' => e = .returned (.tuple #[.slice none 0 0, .int .i64 err]) ∧ w.grownBy w' none) (h : RowsI w va ms) (hb : Ints w vb bs) :
    Calls Try.prog 19 #[va, vb, .int .i64 n] w fun e w' => e = .returned (.tuple #[.slice none 0 0, .int .i64 err]) ∧ w.grownBy w' none := by
  have HK := Lib.hid hk; have HA := Lib.hid h; have HB := Lib.hid hb
  clear hk h hb
  go_enter Try.func19, Try.ntmps19
  go_wp2_with fail
  refine (HK.out _ HA.out HB.out).mono ?_
  rintro e w1 ⟨rfl, hg⟩
  have HG := Lib.hid hg
  clear hg
  go_wp2_with fail
  go_ret2
  exact ⟨rfl, HG.out⟩
end
end Go.Proofs.Ytgcfafjgaifmiaa
