/- A matrix that is dealt. -/
import Derived.Test.YtahffjoehjpfkaaNa
import Derived.Test.YtahffjoehjpfkaaAo
namespace Go.Proofs.Ytahffjoehjpfkaa
open Go.RowKit
set_option linter.unusedVariables false

theorem grown_aft {w w1 : World} {o : Obj} {row : Option Nat} (h : w.grownBy w1 row) : w.grownBy (w1.alloc o) row := grown_trans h (World.grownBy_alloc _ _ _)
/-- The rows of a matrix that is dealt. -/
def DealtM (c : Nat) (ps : List Row) : Prop := ∀ q ∈ ps, q.2.length = c ∧ ∀ x ∈ q.2, -16 ≤ x ∧ x ≤ 16
def MatDeal (r c : Nat) (w0 w : World) (p : Value) (d : Nat) (e : Ending) (w' : World) : Prop := ∃ v ps, e = .returned v ∧ List.length ps = r ∧ DealtM c ps ∧ MatO w' w.heap.size v ps ∧ St w0 w' p d ∧ w.grownBy w' (some d)
theorem one_st {w0 w : World} {p : Value} {d : Nat} (h : St w0 w p d) (n : Int) (h1 : 1 ≤ n) (h2 : n ≤ 4611686018427387904) :
    Calls Try.prog 71 #[p, .int .i64 n] w fun e w' => ∃ y : Bool, e = .returned (.bool y) ∧ St w0 w' p d ∧ w.grownBy w' (some d) :=
  (one_any p d n w h.1 h1 h2).mono fun e w' ⟨y, he, hd, hg⟩ => ⟨y, he, h.deal hd hg, hg⟩
/-- A row under way beside a matrix. -/
def RowBy (w : World) (base : Nat) (v : Value) (xs : List Int) (m : Value) (ps : List Row) : Prop := OwnI w base v xs ∧ ∀ g, v.ownBlock = some g → m.ownBlock ≠ some g ∧ ∀ p ∈ ps, p.1.ownBlock ≠ some g
theorem RowBy.nil (w : World) (base : Nat) (m : Value) (ps : List Row) : RowBy w base (.slice none 0 0) [] m ps := ⟨OwnI.nil _ _, by intro g hg; simp [Value.ownBlock] at hg⟩
theorem RowBy.kept {w w' : World} {base : Nat} {v : Value} {xs : List Int} {m : Value} {ps : List Row} {row : Option Nat} (h : RowBy w base v xs m ps) (g : w.grownBy w' row) (hr : ∀ k, row = some k → k < base) : RowBy w' base v xs m ps := ⟨h.1.kept g hr, h.2⟩
theorem own_lt_of {w : World} {base : Nat} {m : Value} {ps : List Row} (h : MatO w base m ps) {g : Nat} (hg : w.heap.size ≤ g) : m.ownBlock ≠ some g ∧ ∀ p ∈ ps, p.1.ownBlock ≠ some g :=
  ⟨fun e => by have := (h.own.fresh g e).2; omega, fun p hp e => by have := ((h.rows p hp).fresh g e).2; omega⟩
/-- One number more in the row. -/
theorem RowBy.push {w w1 : World} {base : Nat} {v v1 : Value} {xs : List Int} {m : Value} {ps : List Row} {y : Int} (hm : MatO w base m ps) (h : RowBy w base v xs m ps) (ho : w1.ownsRow base 3 1 v1 (xs.length + 1) (xs.map (Value.int .i64) ++ [Value.int .i64 y]))
    (hg : w.grownBy w1 v.ownBlock) {H : Nat} (hb : ∀ g, v1.ownBlock = some g → v.ownBlock = some g ∨ H ≤ g) (hH : w.heap.size = H) : RowBy w1 base v1 (xs ++ [y]) m ps ∧ MatO w1 base m ps := by
  subst hH
  refine ⟨⟨?_, fun g hg1 => ?_⟩, ?_⟩
  · unfold OwnI; simpa using ho
  · rcases hb g hg1 with h1 | h1
    · exact h.2 g h1
    · exact own_lt_of hm h1
  · refine ⟨⟨World.ownsRow.kept hm.own.1 hg ?_, fun q hq => ⟨(hm.own.2 q hq).1.kept hg (fun k hk e => (h.2 k hk).2 q hq e), (hm.own.2 q hq).2⟩⟩, fun q hq => (hm.rows q hq).keptB hg (fun k hk e => (h.2 k hk).2 q hq e), hm.apart⟩
    cases hv : m.ownBlock with
    | none => exact .inl rfl
    | some k => refine .inr (fun e => ?_); exact (h.2 k e.symm).1 hv
theorem rowby_own {w : World} {base : Nat} {v : Value} {xs : List Int} {m : Value} {ps : List Row} (h : RowBy w base v xs m ps) : w.ownsRow base 3 1 v (xs.map (Value.int .i64)).length (xs.map (Value.int .i64)) := by
  have := h.1; unfold OwnI at this; rw [List.length_map]; exact this
theorem ownI_sl' {w : World} {base : Nat} {v : Value} {xs : List Int} (h : OwnI w base v xs) : ∃ a c, v = .slice a xs.length c := by
  rcases h.2 with ⟨rfl, h0⟩ | ⟨g, cap, cur, rfl, hg, hh, hn, hm, hs, ht⟩
  · exact ⟨none, 0, by rw [h0]⟩
  · exact ⟨_, cap, rfl⟩
theorem two_cells {w : World} {B : Nat} {v0 v1 : Value} {e : TypeId} (h : w.heap[B]? = some (.cells #[v0, v1] e (0, 0))) : w.cell? ⟨B, 0, none⟩ = some v0 ∧ w.cell? ⟨B, 1, none⟩ = some v1 :=
  ⟨by unfold World.cell?; dsimp only; rw [h]; rfl, by unfold World.cell?; dsimp only; rw [h]; rfl⟩

end Go.Proofs.Ytahffjoehjpfkaa
