/- cmp.Or of errors; the system all. -/
import Derived.Test.YtelpkcndbcfaiaaIh
namespace Go.Proofs.Ytelpkcndbcfaiaa
open Go.RowKit
set_option linter.unusedVariables false
def orE (a b : Int) : Int := if a = 0 then b else a
set_option maxRecDepth 100000 in
set_option maxHeartbeats 1000000 in
theorem or_any (e1 e2 : Int) (G : Nat) (w : World) (h0 : w.cell? ⟨G, 0, none⟩ = some (.int .i64 e1)) (h1 : w.cell? ⟨G, 1, none⟩ = some (.int .i64 e2)) :
    Calls Try.prog 43 #[.slice (some ⟨G, 0, none⟩) 2 2] w fun e w' => e = .returned (.int .i64 (orE e1 e2)) ∧ w' = w := by
  go_enter Try.func43, Try.ntmps43
  go_wp2_with fail
  go_loop [8] (fun i => ∃ k : Nat, i = .int .i64 k ∧ k ≤ 2 ∧ Hid ((1 ≤ k → e1 = 0) ∧ (2 ≤ k → e2 = 0))) (fun i => 2 - (intOf i).toNat)
  case atStart => exact ⟨0, rfl, by omega, Lib.hid ⟨by omega, by omega⟩⟩
  case round =>
    obtain ⟨k, rfl, hk, hz⟩ := hrel
    obtain rfl | rfl | rfl : k = 0 ∨ k = 1 ∨ k = 2 := by omega
    · by_cases he : e1 = 0
      · have d1 : (e1 != 0) = false := by simpa using he
        have HE := Lib.hid he
        clear he
        go_wp2_with fail
        go_round
        case rel => exact ⟨1, by go_num, by omega, Lib.hid ⟨fun _ => HE.out, by omega⟩⟩
        case measure => simp [intOf]
      · have d1 : (e1 != 0) = true := by simpa using he
        have HE : Hid (orE e1 e2 = e1) := Lib.hid (if_neg he)
        clear he
        go_wp2_with fail
        go_ret
        exact ⟨by rw [HE.out]; rfl, rfl⟩
    · have HO : Hid (orE e1 e2 = e2) := Lib.hid (if_pos (hz.out.1 (by omega)))
      by_cases he : e2 = 0
      · have d1 : (e2 != 0) = false := by simpa using he
        have HE := Lib.hid he
        clear he
        go_wp2_with fail
        go_round
        case rel => exact ⟨2, by go_num, by omega, Lib.hid ⟨fun _ => hz.out.1 (by omega), fun _ => HE.out⟩⟩
        case measure => simp [intOf]
      · have d1 : (e2 != 0) = true := by simpa using he
        clear he
        go_wp2_with fail
        go_ret
        exact ⟨by rw [HO.out]; rfl, rfl⟩
    · have HO : Hid (orE e1 e2 = 0) := Lib.hid (by unfold orE; rw [if_pos (hz.out.1 (by omega)), hz.out.2 (by omega)])
      go_wp2_with fail
      go_ret
      exact ⟨by rw [HO.out]; rfl, rfl⟩
/-- What all answers: one state, three labels. -/
def AllR (w : World) (e : Ending) (w' : World) : Prop := ∃ a cap ls, e = .returned (.agg #[.slice a (List.length ls) cap]) ∧ SysB w.heap.size w' (.slice a ls.length cap) ls ∧ ls.map Prod.snd = all3 ∧ w.grownBy w' none
set_option maxRecDepth 100000 in
set_option maxHeartbeats 1000000 in
theorem all_any (w : World) : Calls Try.prog 16 #[] w (AllR w) := by
  go_enter Try.func16, Try.ntmps16
  go_wp2_with fail
  generalize hH : w.heap.size = H
  obtain ⟨wC, hwC⟩ : ∃ wC, wC = (((w.alloc (.cells #[.slice (some ⟨H + 1 + 1, 0, none⟩) 1 1] 25)).alloc (.cells #[.int .i64 0, .int .i64 0, .int .i64 1, .int .i64 0, .int .i64 2, .int .i64 0] 61)).alloc (.cells #[.slice (some ⟨H + 1, 0, none⟩) 3 3] 59)) := ⟨_, rfl⟩
  rw [← hwC]
  have k0 : wC.heap[H]? = some (.cells #[.slice (some ⟨H + 1 + 1, 0, none⟩) 1 1] 25 (0, 0)) := by rw [hwC]; exact heap_old _ (heap_old _ (heap_new _ hH.symm))
  have k1 : wC.heap[H + 1]? = some (.cells #[.int .i64 0, .int .i64 0, .int .i64 1, .int .i64 0, .int .i64 2, .int .i64 0] 61 (0, 0)) := by rw [hwC]; exact heap_old _ (heap_new _ (by show _ = (w.heap.push _).size; simp [hH]))
  have k2 : wC.heap[H + 1 + 1]? = some (.cells #[.slice (some ⟨H + 1, 0, none⟩) 3 3] 59 (0, 0)) := by rw [hwC]; exact heap_new _ (by show _ = ((w.heap.push _).push _).size; simp [hH])
  have hg : w.grownBy wC none := by rw [hwC]; exact grown_aft2 (grown_aft2 (World.grownBy_alloc _ _ _))
  ((try simp only [Exit.inBlock, Exit.then]); refine bodyPost_ret (results_set1 rfl _ _ H _ _ _ _ rfl k0 Try.underlying25 (by kernel_rfl)) rfl ?_)
  refine ⟨some ⟨H + 1 + 1, 0, none⟩, 1, [(.slice (some ⟨H + 1, 0, none⟩) 3 3, [(0, 0), (1, 0), (2, 0)])], rfl, ⟨⟨rfl, .inr ⟨H + 1 + 1, 1, _, rfl, by omega, k2, Nat.le_refl _, by decide, rfl, rfl⟩⟩, fun q hq => ?_⟩, rfl, hg⟩
  rw [List.mem_singleton.1 hq]
  exact ⟨rfl, .inr ⟨H + 1, 3, _, rfl, by omega, k1, Nat.le_refl _, by decide, rfl, rfl⟩⟩
end Go.Proofs.Ytelpkcndbcfaiaa
