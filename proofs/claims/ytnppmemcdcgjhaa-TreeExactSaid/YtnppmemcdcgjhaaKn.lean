/- Laws 4: what they share. -/
import Derived.Test.YtnppmemcdcgjhaaKm
import Derived.Test.YtnppmemcdcgjhaaGr
namespace Go.Proofs.Ytnppmemcdcgjhaa
open Go.RowKit Tr
set_option linter.unusedVariables false

def TreeDealI (L k : Int) (w0 w : World) (p : Value) (d : Nat) (e : Ending) (w' : World) : Prop := ∃ a c t, e = .returned (.agg #[.int .i64 t.label, .slice a t.kids.length c]) ∧ TrK (fun b => d < b) w' (.slice a t.kids.length c) t ∧ (size t : Int) ≤ k ∧ Lab L t ∧ St w0 w' p d ∧ w.grownBy w' (some d)
theorem tree_stI (L k : Int) (hL1 : 1 ≤ L) (hL2 : L ≤ 1000) (h1 : 1 ≤ k) (h2 : k ≤ 1000) {w0 w : World} {p : Value} {d : Nat} (h : St w0 w p d) :
    Calls Try.prog 32 #[p, .int .i64 L, .int .i64 k] w (TreeDealI L k w0 w p d) := by
  have e : ((k.toNat : Nat) : Int) = k := Int.toNat_of_nonneg (by omega)
  have hd := h.lt
  have := tree_st L hL1 hL2 k.toNat (by omega) (by omega) h
  rw [e] at this
  refine this.mono fun e w' ⟨y, t, he, hk, hs, hl, hst, hg⟩ => ?_
  obtain ⟨a, c, rfl⟩ := hk.slice
  exact ⟨a, c, t, he, hk.weak (fun b hb => by omega), by omega, hl, hst, hg⟩
def BoxT (w : World) (d g : Nat) (x y : Value) : Prop := w.cell? ⟨g, 0, none⟩ = some x ∧ w.cell? ⟨g, 1, none⟩ = some y ∧ d < g
theorem BoxT.step {w w' : World} {d g : Nat} {x y : Value} (h : BoxT w d g x y) (hg : w.grownBy w' none) : BoxT w' d g x y := ⟨hg.cell h.1 (by simp), hg.cell h.2.1 (by simp), h.2.2⟩
theorem BoxT.deal {w w' : World} {d g : Nat} {x y : Value} (h : BoxT w d g x y) (hg : w.grownBy w' (some d)) : BoxT w' d g x y :=
  have hd : d < g := h.2.2
  ⟨hg.cell h.1 (by simp; omega), hg.cell h.2.1 (by simp; omega), hd⟩
theorem BoxT.mk {w : World} {d g : Nat} {x y : Value} {e : TypeId} (h : w.heap[g]? = some (.cells #[x, y] e (0, 0))) (hd : d < g) : BoxT w d g x y := ⟨(cells_of h).1, (cells_of h).2, hd⟩
theorem TrK.deal {w w' : World} {d : Nat} {y : Value} {t : Tr} (h : TrK (fun b => d < b) w y t) (g : w.grownBy w' (some d)) : TrK (fun b => d < b) w' y t := h.kept g (by rintro k ⟨⟩ h; omega)
theorem ok_lab {L : Int} {t : Tr} (hL : L ≤ 16) (hs : (size t : Int) ≤ 12) (h : Lab L t) : OkT t := ⟨by omega, fun u hu => by have := h u hu; omega⟩

end Go.Proofs.Ytnppmemcdcgjhaa
