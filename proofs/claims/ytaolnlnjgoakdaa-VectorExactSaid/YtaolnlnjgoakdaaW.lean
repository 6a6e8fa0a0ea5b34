/- The sanity check of the statements of layer 1 answers true. -/
import Derived.Test.YtaolnlnjgoakdaaF
namespace Go.Proofs.Ytaolnlnjgoakdaa
open Go.RowKit
set_option linter.unusedVariables false

theorem heap_new {w : World} {g : Nat} (o : Obj) (h : g = w.heap.size) : (w.alloc o).heap[g]? = some o := by subst h; exact heap_alloc_new w o
theorem heap_old {w : World} {g : Nat} {x : Obj} (o : Obj) (h : w.heap[g]? = some x) : (w.alloc o).heap[g]? = some x := by
  rw [Below.heap_alloc _ _ _ (Array.getElem?_eq_some_iff.1 h).1]; exact h

theorem awake_any (w : World) :
    Calls Try.prog 8 #[] w fun e w' => e = .returned (.bool true) ∧ w.grownBy w' none := by
  go_enter Try.func8, Try.ntmps8
  go_wp2_with fail
  refine (sub_any _ _ [1099511627776, 7] [1, 2] _ ?_ ?_).mono ?_
  · exact ints_blk (cs := #[.int .i64 1099511627776, .int .i64 7]) (e := 3) (f := (0, 0)) _ 2 2 (heap_old _ (heap_new _ rfl)) rfl (by decide) (by decide) rfl
  · exact ints_blk (cs := #[.int .i64 1, .int .i64 2]) (e := 3) (f := (0, 0)) _ 2 2 (heap_new _ (by simp)) rfl (by decide) (by decide) rfl
  rintro e w1 ⟨v, rfl, ho, hg⟩
  rw [show subR [1099511627776, 7] [1, 2] = (0, [1099511627776, 5]) by decide] at ho ⊢
  have hI := ho.ints (by decide)
  have HI := Lib.hid hI
  have HG := Lib.hid (grown_trans (grown_trans (World.grownBy_alloc _ _ none) (World.grownBy_alloc _ _ none)) hg)
  obtain ⟨a, cap, rfl, -, -, hc⟩ := hI
  rcases hc with hc | ⟨b, off, rfl, hc⟩
  · simp at hc
  have c0 := hc 0 (by decide)
  have c1 := hc 1 (by decide)
  simp at c0 c1
  clear hc ho hg
  go_wp2_with fail
  refine (valid_any _ _ _ HI.out).mono ?_; rintro e w' ⟨rfl, rfl⟩
  rw [show validB [1099511627776, 5] = true by decide]
  go_wp2_with fail
  refine (finite_any _ _ _ HI.out).mono ?_; rintro e w' ⟨rfl, rfl⟩
  rw [show finiteB [1099511627776, 5] = false by decide]
  go_wp2_with fail
  refine (leq_any _ _ [3, 5] [1099511627776, 5] _ ?_ (HI.out.same (World.grownBy_alloc _ _ none))).mono ?_
  · exact ints_blk (cs := #[.int .i64 3, .int .i64 5]) (e := 3) (f := (0, 0)) _ 2 2 (heap_new _ rfl) rfl (by decide) (by decide) rfl
  rintro e w' ⟨rfl, rfl⟩
  rw [show leqB [3, 5] [1099511627776, 5] = true by decide]
  go_wp2_with fail
  go_ret
  exact ⟨rfl, grown_trans HG.out (World.grownBy_alloc _ _ none)⟩
end Go.Proofs.Ytaolnlnjgoakdaa
