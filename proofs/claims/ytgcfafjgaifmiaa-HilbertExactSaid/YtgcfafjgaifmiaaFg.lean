/- Apply at a vector of another length. -/
import Derived.Test.YtgcfafjgaifmiaaFe
namespace Go.Proofs.Ytgcfafjgaifmiaa
open Go.RowKit
set_option linter.unusedVariables false

set_option maxRecDepth 100000 in
set_option maxHeartbeats 1000000 in
theorem Apply_len {w : World} {va vx : Value} {ms : List Row} {xs : List Int} {r c : Nat} (ha : RowsP w va ms) (hma : MatOkP r c ms) (hx : Ints w vx xs) (hne : xs.length ≠ c) :
    Calls Try.prog 34 #[va, vx] w fun e w' => e = .returned (.tuple #[.slice none 0 0, .int .i64 3]) ∧ w' = w := by
  have HMA := Lib.hid hma
  obtain ⟨hl, hr1, hr12, hc1, hc12, hrc, hq⟩ := hma
  obtain ⟨aa, capa, rfl, -⟩ : ∃ a cap, va = .slice a ms.length cap ∧ True := by obtain ⟨a, cap, h, -⟩ := ha; exact ⟨a, cap, h, trivial⟩
  have HA := Lib.hid ha
  have h0 : 0 < ms.length := by omega
  have p1 : 0 < (ms.length : Int) := by omega
  obtain ⟨b, off, a2, c2, rfl, hc0, -, -⟩ := ha.row h0
  rw [(hq _ (List.getElem_mem h0)).1, Nat.add_zero] at hc0
  have HC0 := Lib.hid hc0
  clear ha hq hl hr1 hr12 hrc hc0
  obtain ⟨ax, cx, rfl, -⟩ := hx
  have k1 : ((xs.length : Int) != (c : Int)) = true := by simp; omega
  clear hne
  go_enter Try.func34, Try.ntmps34
  go_wp2_with fail
  refine (Check10_any HA.out HMA.out).mono ?_
  rintro e w1 ⟨rfl, hg⟩
  subst hg
  have hc0 := HC0.out
  go_wp2_with fail
  go_ret2
  exact ⟨rfl, rfl⟩

end Go.Proofs.Ytgcfafjgaifmiaa
