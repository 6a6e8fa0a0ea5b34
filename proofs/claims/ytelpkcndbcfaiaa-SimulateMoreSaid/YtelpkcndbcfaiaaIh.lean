/- Dice.System, all, cmp.Or. -/
import Derived.Test.YtelpkcndbcfaiaaIg
namespace Go.Proofs.Ytelpkcndbcfaiaa
open Go.RowKit
set_option linter.unusedVariables false
/-- What System answers. -/
def SystemR (w0 w : World) (p : Value) (d : Nat) (e : Ending) (w' : World) : Prop :=
  ∃ a cap ls, e = .returned (.agg #[.slice a (List.length ls) cap]) ∧ SysB (d + 1) w' (.slice a ls.length cap) ls ∧ 1 ≤ ls.length ∧ ls.length ≤ 6 ∧ RowsOk ls.length ls ∧ Sd w0 w' p d ∧ w.grownBy w' (some d)
set_option maxRecDepth 100000 in
/-- The arcs of a graph. -/
theorem run_field_arcs (x a : Option Addr) (n c m k : Nat) (w : World) : (Instr.field 28 (.agg #[.slice x n c, .slice a m k]) 1).run Try.prog w = .ok (.slice a m k) w := by
  unfold Instr.field
  go_simp
  simp [asAgg, Result.andThen]
set_option maxRecDepth 100000 in
set_option maxHeartbeats 1000000 in
theorem system_any {w0 w : World} {p : Value} {d : Nat} (h : Sd w0 w p d) : Calls Try.prog 11 #[p] w (SystemR w0 w p d) := by
  have HS := Lib.hid h
  have HLT := Lib.hid h.lt
  clear h
  go_enter Try.func11, Try.ntmps11
  go_wp2_with fail
  have HA := Lib.hid (HS.out.step (World.grownBy_alloc w (.cells #[.slice none 0 0] 25) none))
  have HB : Hid ((w.alloc (.cells #[.slice none 0 0] 25)).heap[w.heap.size]? = some (.cells #[.slice none 0 0] 25 (0, 0))) := Lib.hid (heap_new _ rfl)
  have HG := Lib.hid (World.grownBy_alloc w (.cells #[.slice none 0 0] 25) (some d))
  refine (graph_any HA.out).mono ?_
  rintro e w1 ⟨ca, nc, cc, av, ls, rfl, hF, h1, h6, hR, hS, hg⟩
  have hb1 : w1.heap[w.heap.size]? = some (.cells #[.slice none 0 0] 25 (0, 0)) := by
    rw [hg.block w.heap.size (by show _ < (w.heap.push _).size; simp) (by have := HLT.out; intro e; cases e; omega)]
    exact HB.out
  obtain ⟨a, cap, rfl⟩ := own_slice hF.1
  have c0 : w1.cell? ⟨w.heap.size, 0, none⟩ = some (.slice none 0 0) := by unfold World.cell?; dsimp only; rw [hb1]; rfl
  have f0 : w1.frozen? ⟨w.heap.size, 0, none⟩ = false := by unfold World.frozen?; dsimp only; rw [hb1]; rfl
  have HX := Lib.hid (heap_set (o := 0) hb1 (.slice a ls.length cap))
  have HF := Lib.hid hF; have HR := Lib.hid hR; have HS1 := Lib.hid hS; have HG1 := Lib.hid (grown_trans HG.out hg)
  clear hF hR hS hg hb1
  go_wp2_with fail
  rw [run_field_arcs]
  simp only [Result.andThen]
  rw [Oper.upon_value]
  go_wp2_with fail
  ((try simp only [Exit.inBlock, Exit.then]); refine bodyPost_ret (results_set1 rfl _ _ w.heap.size _ _ _ _ rfl HX.out Try.underlying25 (by kernel_rfl)) rfl ?_)
  have hd := HLT.out
  have gs := grown_set w1 ⟨w.heap.size, 0, none⟩ (.slice a ls.length cap)
  refine ⟨a, cap, ls, rfl, ?_, h1, h6, HR.out, HS1.out.row gs (by rintro j ⟨⟩; exact hd), grown_then HG1.out gs (by rintro j ⟨⟩; exact .inl (Nat.le_refl _))⟩
  refine (HF.out.kept gs (by rintro j ⟨⟩; show _ < (w.heap.push _).size + 2; simp; omega)).low (by show _ ≤ (w.heap.push _).size + 2; simp; omega)
end Go.Proofs.Ytelpkcndbcfaiaa
