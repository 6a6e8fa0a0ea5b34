/- make.Mod. -/
import Derived.Test.YthlollnpnangpaaDoorYk
namespace Go.Proofs.YthlollnpnangpaaDoor
open Go.RowKit
set_option linter.unusedVariables false
set_option maxHeartbeats 1000000 in
theorem mod14_any (x : Int) (n : Nat) (hn : 1 ≤ n) (hn2 : n ≤ 1000000) (hx : -9223372036854775808 ≤ x ∧ x ≤ 9223372036854775807) (w : World) :
    Calls Tryd.prog 12 #[.int .i64 x, .int .i64 (n : Int)] w fun e w' => (∃ y : Nat, e = .returned (.int .i64 (y : Int)) ∧ y < n) ∧ w' = w := by
  have h1 : ¬ ((n : Int) < 1) := by omega
  have h2 : ((n : Int) == 0) = false := by simp; omega
  have h3 : ¬ ((n : Int) = 0) := by omega
  have ht : - (n : Int) < Int.tmod x n ∧ Int.tmod x n < n := ⟨by have := Int.tmod_lt_of_pos (-x) (b := (n : Int)) (by omega); rw [Int.neg_tmod] at this; omega, Int.tmod_lt_of_pos x (by omega)⟩
  generalize hy : Int.tmod x (n : Int) = y at *
  have w1 : IntKind.i64.wrap y = y := IntWalk.i64_in _ (by omega)
  have w2 : IntKind.i64.wrap (y + (n : Int)) = y + (n : Int) := IntWalk.i64_in _ (by omega)
  have hz : 0 ≤ Int.tmod (y + (n : Int)) n ∧ Int.tmod (y + (n : Int)) n < n := ⟨Int.tmod_nonneg _ (by omega), Int.tmod_lt_of_pos _ (by omega)⟩
  obtain ⟨z, hz2⟩ : ∃ z : Nat, Int.tmod (y + (n : Int)) n = (z : Int) := ⟨(Int.tmod (y + (n : Int)) n).toNat, by omega⟩
  have w3 : IntKind.i64.wrap (z : Int) = (z : Int) := IntWalk.i64_in _ (by omega)
  go_enter Tryd.func12, Tryd.ntmps12
  go_wp2_with fail
  go_ret
  first
  | exact ⟨⟨z, rfl, by omega⟩, rfl⟩
  | exact ⟨⟨z, by rw [hz2], by omega⟩, rfl⟩
end Go.Proofs.YthlollnpnangpaaDoor
