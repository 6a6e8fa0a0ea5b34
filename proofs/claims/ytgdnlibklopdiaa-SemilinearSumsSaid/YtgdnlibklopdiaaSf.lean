/- slices.SortFunc at words. -/
import Derived.Test.YtgdnlibklopdiaaWk
import Derived.Test.YtgdnlibklopdiaaRw
import Derived.Sort.LotA
namespace Go.Proofs.Ytgdnlibklopdiaa
open Go.RowKit Go.Shelf Go.Lib Go.Sort
set_option linter.unusedVariables false

theorem ins_none (p : Option Addr) (cap : Nat) (fv : Value) (w : World) :
    Calls Try.prog 106 #[.slice p 0 cap, .int .i64 0, .int .i64 0, fv] w fun e w' => e = .returned (.tuple #[]) ∧ w' = w := by
  go_enter Try.func106, Try.ntmps106
  go_wp2
  refine wp_loop_rounds 1 ?_
  rw [rounds_succ]
  go_wp2
  go_end0
  exact ⟨rfl, rfl⟩
set_option maxHeartbeats 2000000 in
theorem pdq_none (p : Option Addr) (cap : Nat) (lim : Int) (fv : Value) (w : World) :
    Calls Try.prog 100 #[.slice p 0 cap, .int .i64 0, .int .i64 0, .int .i64 lim, fv] w fun e w' => e = .returned (.tuple #[]) ∧ w' = w := by
  go_enter Try.func100, Try.ntmps100
  go_wp2_with fail
  refine wp_loop_rounds 1 ?_
  rw [rounds_succ]
  go_wp2_with (go_at_call 106; refine (ins_none _ _ _ _).mono ?_; rintro e w' ⟨rfl, rfl⟩)
  (try simp only [Exit.inBlock, Exit.then]); refine bodyPost_ret (results_none rfl _ _ _) rfl ?_
  exact ⟨rfl, rfl⟩
theorem sort_none (p : Option Addr) (cap : Nat) (fv : Value) (w : World) :
    Calls Try.prog 81 #[.slice p 0 cap, fv] w fun e w' => e = .returned (.tuple #[]) ∧ w' = w := by
  have hl : ∀ W, Calls Try.prog 101 #[.int .u64 0] W fun e w' => e = .returned (.int .i64 (Lib.bitLen 0 : Nat)) ∧ w' = W :=
    fun W => Any.bits_Len (SlLaysF0.n15.bits (P := Try.prog) (ρ := Try.laysSlF6_f81_ren) { Try.laysSlF6_f81 with }) 0 W (by omega) (by omega)
  go_enter Try.func81, Try.ntmps81
  go_wp2_with (first | (go_at_call 101; refine (hl _).mono ?_; rintro e w' ⟨rfl, rfl⟩) | (go_at_call 100; refine (pdq_none _ _ _ _ _).mono ?_; rintro e w' ⟨rfl, rfl⟩))
  go_end0
  exact ⟨rfl, rfl⟩

/-- A row that lies apart from block g. -/
abbrev El (w : World) (g : Nat) : Type := { p : Row // RowOk w p ∧ ∀ k, p.1.ownBlock = some k → k ≠ g }
instance (w : World) (g : Nat) : Inhabited (El w g) := ⟨⟨(.slice none 0 0, []), ⟨⟨none, 0, rfl, Nat.zero_le _, by simp, .inl rfl⟩, Good.nil, by simp [Value.ownBlock]⟩, by simp [Value.ownBlock]⟩⟩
def encEl (w : World) (g : Nat) (x : El w g) : Value := x.1.1
def cmpEl (w : World) (g : Nat) (x y : El w g) : Int := compareI x.1.2 y.1.2

theorem swo_cmp (w : World) (g : Nat) : Go.Sort.SWO (ltOf (cmpEl w g)) := by
  have hneg := fun a b : List Int => compareI_neg a b
  refine ⟨fun x => ?_, fun x y z h1 h2 => ?_, fun x y z h1 h2 => ?_⟩
  · unfold ltOf cmpEl
    have := (compareI_zero x.1.2 x.1.2).2 rfl
    rw [this]; rfl
  · unfold ltOf cmpEl at *
    simp only [decide_eq_true_eq] at *
    have h3 := cmp_trans _ _ _ (Int.le_of_lt h1) (Int.le_of_lt h2)
    rcases Int.lt_or_eq_of_le h3 with h4 | h4
    · exact h4
    · have := (compareI_zero _ _).1 h4
      rw [this] at h1
      have := hneg y.1.2 z.1.2
      omega
  · unfold ltOf cmpEl at *
    simp only [decide_eq_false_iff_not, Int.not_lt] at *
    have h3 := hneg y.1.2 x.1.2
    have h4 := hneg z.1.2 y.1.2
    have h5 := cmp_trans z.1.2 y.1.2 x.1.2 (by have := hneg y.1.2 z.1.2; omega) (by have := hneg x.1.2 y.1.2; omega)
    have := hneg x.1.2 z.1.2
    omega

theorem grownBy_sort {α : Type} [Inhabited α] (enc : α → Value) (w : World) (g n : Nat) (os : Array Obj) (d : Array α) : w.grownBy (sortWorld enc w g 0 n d os) (some g) := by
  refine ⟨rfl, rfl, rfl, by simp [sortWorld], fun k hk hne => ?_⟩
  unfold sortWorld
  rw [heap_grow_old _ _ (by simpa using hk)]
  have : g ≠ k := fun e => hne (by rw [e])
  simp [putRow, mapBlock, Sort.ahead, Array.getElem?_modify, this]

/-- The rows in ascending order. -/
def sortP (ps : List Row) : List Row := ps.mergeSort (fun p q => decide (compareI p.2 q.2 ≤ 0))

end Go.Proofs.Ytgdnlibklopdiaa
