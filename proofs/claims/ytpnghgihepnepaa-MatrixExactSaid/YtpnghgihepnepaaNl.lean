/- What the laws of stage 10 share. -/
import Derived.Test.YtpnghgihepnepaaNk
import Derived.Test.YtpnghgihepnepaaGt
import Derived.Test.YtpnghgihepnepaaGl
namespace Go.Proofs.Ytpnghgihepnepaa
open Go.RowKit
set_option linter.unusedVariables false

/-- A matrix made behind a deck. -/
def MatD (w : World) (d : Nat) (v : Value) (ps : List Row) : Prop := ∃ base, d < base ∧ MatO w base v ps
theorem MatD.step {w w' : World} {d : Nat} {v : Value} {ps : List Row} (h : MatD w d v ps) (g : w.grownBy w' none) : MatD w' d v ps := by obtain ⟨b, h1, h2⟩ := h; exact ⟨b, h1, h2.same g⟩
theorem MatD.deal {w w' : World} {d : Nat} {v : Value} {ps : List Row} (h : MatD w d v ps) (g : w.grownBy w' (some d)) : MatD w' d v ps := by obtain ⟨b, h1, h2⟩ := h; exact ⟨b, h1, h2.kept g (by rintro j ⟨⟩; exact h1)⟩
theorem MatD.rows {w : World} {d : Nat} {v : Value} {ps : List Row} (h : MatD w d v ps) : RowsP w v ps := by obtain ⟨b, h1, h2⟩ := h; exact h2.rowsP
theorem MatD.mk {w0 w w' : World} {p : Value} {d : Nat} {v : Value} {ps : List Row} (hs : St w0 w p d) (h : MatO w' w.heap.size v ps) : MatD w' d v ps := ⟨_, hs.lt, h⟩
theorem dealt_ok {r c : Nat} {ps : List Row} (hl : ps.length = r) (h : DealtM c ps) (hr1 : 1 ≤ r) (hr : r ≤ 12) (hc1 : 1 ≤ c) (hc : c ≤ 12) (h6 : r ≤ 6 ∨ c ≤ 6) : MatOkP r c ps := ⟨hl, hr1, hr, hc1, hc, h6, h⟩
def lin2 (u v : List Int) : List Int := List.zipWith (fun a b => a - 2 * b) u v
theorem lin2_next {u v : List Int} {k : Nat} (h1 : k < u.length) (h2 : k < v.length) : (lin2 u v).take k ++ [u[k]?.getD 0 - 2 * v[k]?.getD 0] = (lin2 u v).take (k + 1) := by
  rw [List.take_add_one]
  congr 1
  unfold lin2
  rw [List.getElem?_zipWith, List.getElem?_eq_getElem h1, List.getElem?_eq_getElem h2]; rfl
theorem dot_lin : ∀ (r u v : List Int), r.length = u.length → r.length = v.length → dotL r (lin2 u v) = dotL r u - 2 * dotL r v
  | [], _, _, _, _ => by simp [dotL]
  | x :: r, y :: u, z :: v, h1, h2 => by
    have ih := dot_lin r u v (by simpa using h1) (by simpa using h2)
    show x * (y - 2 * z) + dotL r (lin2 u v) = x * y + dotL r u - 2 * (x * z + dotL r v)
    rw [ih, Int.mul_sub, Int.mul_left_comm]
    omega

theorem lin2_bd {u v : List Int} (h1 : ∀ y ∈ u, 0 ≤ y ∧ y ≤ 9) (h2 : ∀ y ∈ v, 0 ≤ y ∧ y ≤ 9) : ∀ y ∈ lin2 u v, -18 ≤ y ∧ y ≤ 9 := by
  intro y hy
  obtain ⟨i, hi, rfl⟩ := List.getElem_of_mem hy
  unfold lin2 at hi ⊢
  rw [List.length_zipWith] at hi
  rw [List.getElem_zipWith]
  have := h1 _ (List.getElem_mem (show i < u.length by omega))
  have := h2 _ (List.getElem_mem (show i < v.length by omega))
  omega
theorem own_res {w : World} {base : Nat} {v : Value} {xs : List Int} {r : Nat} (h : OwnI w base v xs) (hl : xs.length = r) (h1 : 1 ≤ r) : ∃ g c, v = .slice (some ⟨g, 0, none⟩) r c := by
  subst hl
  rcases h.2 with ⟨_, h0⟩ | ⟨g, c, cur, hv, -⟩
  · omega
  · exact ⟨g, c, hv⟩
theorem map_at {ps : List Row} {f : Row → Int} {k : Nat} (hk : k < ps.length) : (ps.map f)[k]?.getD 0 = f ps[k] := by rw [List.getElem?_map, List.getElem?_eq_getElem hk]; rfl

end Go.Proofs.Ytpnghgihepnepaa
