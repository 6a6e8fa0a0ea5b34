/- Texts Ww in one. -/
import Derived.Test.YtoaoheblaidhmaaU27
import Derived.Test.YtoaoheblaidhmaaU20
import Derived.Deep.MidRow
namespace Go.Proofs.Ytoaoheblaidhmaa
open Go.RowKit
set_option linter.unusedVariables false

section
variable {ops : List Oper} {o : Oper} {a : Act} {w : World} {K : Act → World → Prop} {Q : Exit → Act → World → Prop}
theorem eval_some {d : Nat} {b : Bool} (hv : a.eval (.tmp d) = .bool b) : a.tmps[d]? = some (.bool b) := by
  simp only [Act.eval, Array.getD_eq_getD_getElem?] at hv
  cases h : a.tmps[d]? with
  | none => rw [h] at hv; exact absurd hv (by unfold undef; simp)
  | some v => rw [h] at hv; simpa using hv
theorem wanted_of {g d : Nat} {b : Bool} (hgd : o.guard = some (g, b)) (hdst : dstOf ops g = some d) (hv : a.eval (.tmp d) = .bool b) : Region.wanted o (yielded ops.toArray a.tmps) = true := by
  have h1 : (ops.toArray[g]?).bind (·.dst) = some d := by simpa [dstOf] using hdst
  have h2 : yielded ops.toArray a.tmps g = some b := by
    unfold yielded
    rw [h1]
    simp only [Option.bind_some]
    rw [eval_some hv]
  unfold Region.wanted
  rw [hgd]
  simp [h2]
theorem wanted_none (hgd : o.guard = none) : Region.wanted o (yielded ops.toArray a.tmps) = true := by simp [Region.wanted, hgd]
theorem wp_move {x : Operand} {v : Value} (ho : o.op = .move x) (hx : a.eval x = v) (h : K (a.put o.dst v) w) : Oper.wp Try.prog o a w K Q := by
  unfold Oper.wp
  simp only [execOp, ho, hx]
  go_simp
  exact h
theorem wp_load2 {x : Operand} {B : Nat} {v0 v1 : Value} (ho : o.op = .load 26 x) (hx : a.eval x = .pointer (some ⟨B, 0, none⟩)) (h0 : w.cell? ⟨B, 0, none⟩ = some v0) (h1 : w.cell? ⟨B, 1, none⟩ = some v1)
    (h : K (a.put o.dst (.agg #[v0, v1])) w) : Oper.wp Try.prog o a w K Q :=
  wp_load_mid 26 x ho B 0 hx [v0, v1] _ (by
    intro t v ht
    match t, ht with
    | 0, ht => cases ht; exact h0
    | 1, ht => cases ht; exact h1
    | t + 2, ht => simp at ht) Try.underlying26 rfl (by kernel_rfl) h
theorem wp_neq {x y : Operand} {b : Bool} (ho : o.op = .binOp .neq 4 x y 4) (hx : a.eval x = .bool b) (hy : a.eval y = .bool b) (h : K (a.put o.dst (.bool false)) w) : Oper.wp Try.prog o a w K Q := by
  unfold Oper.wp
  simp only [execOp, ho, hx, hy]
  cases b <;> go_simp <;> exact h
theorem wp_pick {c x y : Operand} {v : Value} (ho : o.op = .pick c x y) (hc : a.eval c = .bool false) (hy : a.eval y = v) (h : K (a.put o.dst v) w) : Oper.wp Try.prog o a w K Q := by
  unfold Oper.wp
  simp only [execOp, ho, hc, hy]
  go_simp
  exact h
end

/-- What the operations of the region leave. -/
def HasV (nv : Int) (S0 S1 T0 T1 R X : Value) (bs bt : List Int) (qs qt : List Row) (us : List SetR) (b1 b2 : Bool) (i : Nat) (v : Value) (w : World) : Prop :=
  match i with
  | 0 | 7 | 16 | 22 => v = .int .i64 nv
  | 1 | 8 | 17 | 23 => v = .agg #[S0, S1]
  | 18 | 24 => v = .agg #[T0, T1]
  | 2 | 9 => ∃ G, v = .slice (some ⟨G, 0, none⟩) 1 1 ∧ w.cell? ⟨G, 0, none⟩ = some S0 ∧ w.cell? ⟨G, 1, none⟩ = some S1
  | 3 | 10 => v = R
  | 4 | 11 => SetsX w v (((S0, S1), (bs, qs)) :: us)
  | 5 | 12 | 20 | 26 => v = X
  | 6 | 13 => v = .bool b1
  | 14 | 15 | 28 | 29 => v = .bool false
  | 19 | 25 => SetsX w v [((S0, S1), (bs, qs)), ((T0, T1), (bt, qt))]
  | 21 | 27 => v = .bool b2
  | _ => True
theorem HasV.mono {nv : Int} {S0 S1 T0 T1 R X : Value} {bs bt : List Int} {qs qt : List Row} {us : List SetR} {b1 b2 : Bool} (i : Nat) (v : Value) (w w' : World) (g : w.grownBy w' none)
    (h : HasV nv S0 S1 T0 T1 R X bs bt qs qt us b1 b2 i v w) : HasV nv S0 S1 T0 T1 R X bs bt qs qt us b1 b2 i v w' := by
  unfold HasV at *
  split at h <;> first
    | exact h
    | exact SetsX.same h g
    | (obtain ⟨G, h1, h2, h3⟩ := h; exact ⟨G, h1, g.cell h2 (by simp), g.cell h3 (by simp)⟩)
theorem linV_open {w : World} {v : Value} {b : List Int} {ps : List (List Int)} (h : LinV w v b ps) : ∃ a n c a' n' c', v = .agg #[.slice a n c, .slice a' n' c'] := by
  obtain ⟨vb, vp, qs, rfl, ⟨⟨a, c, hb, -⟩, -⟩, ⟨a', c', hp, -⟩, -⟩ := h
  dsimp only at hb
  subst hb hp
  exact ⟨_, _, _, _, _, _, rfl⟩
end Go.Proofs.Ytoaoheblaidhmaa
