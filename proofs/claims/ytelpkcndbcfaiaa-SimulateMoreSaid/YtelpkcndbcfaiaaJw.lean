/- Rows of arcs, copied and appended in regions that draw their order. -/
import Derived.Test.YtelpkcndbcfaiaaJu
import Derived.Test.YtelpkcndbcfaiaaLt
import Derived.ArgAppend
import Derived.Laws.OwnMore
namespace Go.Proofs.Ytelpkcndbcfaiaa
open Go.RowKit
set_option linter.unusedVariables false
theorem oper_append {a : Act} {w : World} {K : Act → World → Prop} {Q : Exit → Act → World → Prop} (d : Nat) (s x : Operand) (t ty : TypeId) (pos : String) (af : Array Edge) (gd : Option (Nat × Bool)) (vs vx v' : Value) (w' : World)
    (hs : a.eval s = vs) (hx : a.eval x = vx) (hr : (Builtin.append_ #[t, t] ty #[vs, vx]).run Try.prog w = .ok v' w') (k : K (a.put (some d) v') w') :
    Oper.wp Try.prog { dst := some d, op := .call { callee := .builtin .append, args := #[s, x], argTypes := #[t, t] }, type := ty, pos := pos, after := af, guard := gd } a w K Q := by
  unfold Oper.wp execOp
  simp only [resolve, invoke, builtin, Sem.run_bind, Sem.run_pure, Result.andThen_ok, List.map_toArray, List.map_cons, List.map_nil, hs, hx, hr]
  exact k
theorem run_zero {w : World} (b : Nat) (a : Addr) (c : Nat) (ty : TypeId) : (Builtin.append_ #[59, 59] ty #[.slice (some ⟨b, 0, none⟩) 0 0, .slice (some a) 0 c]).run Try.prog w = .ok (.slice (some ⟨b, 0, none⟩) 0 0) w := by
  obtain ⟨i, hi, hz0, hz1, hz2⟩ := info_parts info_arc
  have hf := run_firstCells_some (P := Try.prog) w i.size 0 a 0 c [] (by simp) (fun j u h => by simp at h)
  simp [Builtin.append_, run_underlying Try.underlying59, sizeOf, typeInfo, hi, Builtin.lenOf, hf, storeCells]
theorem flat_cell {w : World} {b off : Nat} {l : List Ar} (hc : ∀ i, i < l.length → w.cell? ⟨b, off + i * 2, none⟩ = (l[i]?.map (fun p => Value.int .i64 p.1)) ∧ w.cell? ⟨b, off + i * 2 + 1, none⟩ = (l[i]?.map (fun p => Value.int .i64 p.2))) {j : Nat} {u : Value} (hu : (flatA l)[j]? = some u) : w.cell? ((⟨b, off, none⟩ : Addr).add j) = some u := by
  have e : (⟨b, off, none⟩ : Addr).add j = ⟨b, off + j, none⟩ := by unfold Addr.add; split <;> simp_all
  rw [e]
  have hl : (flatA l).length = l.length * 2 := by
    clear hu hc
    induction l with
    | nil => rfl
    | cons p l ih =>
      show ([Value.int .i64 p.1, .int .i64 p.2] ++ flatA l).length = _
      rw [List.length_append, ih, List.length_cons]
      simp
      omega
  have hj : j < l.length * 2 := by rw [← hl]; exact (List.getElem?_eq_some_iff.1 hu).1
  obtain ⟨i, hi | hi⟩ : ∃ i, j = i * 2 ∨ j = i * 2 + 1 := ⟨j / 2, by omega⟩
  · subst hi
    rw [(hc i (by omega)).1, ← (flatA_at l i).1]
    exact hu
  · subst hi
    rw [show off + (i * 2 + 1) = off + i * 2 + 1 by omega, (hc i (by omega)).2, ← (flatA_at l i).2]
    exact hu
theorem flat_len : ∀ l : List Ar, (flatA l).length = l.length * 2
  | [] => rfl
  | p :: l => by
    show ([Value.int .i64 p.1, .int .i64 p.2] ++ flatA l).length = _
    rw [List.length_append, flat_len l, List.length_cons]
    simp
    omega
/-- append([]Arc{}, l...): a row of its own. -/
theorem arcs_copy {w : World} {bs : Nat → Prop} {zb E : Nat} {lv : Value} {l : List Ar} (ty : TypeId) (hE : w.heap[E]? = some (.cells #[] 61 (0, 0))) (hz : zb ≤ E) (hl : OwnA w 0 lv l) (hlen : l.length ≤ 1000) (hbE : ¬ bs E) (hbl : ∀ g, bs g → g < w.heap.size) :
    ∃ v' w', (Builtin.append_ #[59, 59] ty #[.slice (some ⟨E, 0, none⟩) 0 0, lv]).run Try.prog w = .ok v' w' ∧ OwnA w' zb v' l ∧ w.grownBy w' none ∧ ∀ g, v'.ownBlock = some g → ¬ bs g := by
  obtain ⟨i, hi, hz0, hz1, hz2⟩ := info_parts info_arc
  have hEs : E < w.heap.size := (Array.getElem?_eq_some_iff.1 hE).1
  have hown : ∀ b, b ≤ E → w.ownsRow b 61 2 (.slice (some ⟨E, 0, none⟩) 0 0) 0 [] := fun b hb => ⟨by simp, .inr ⟨E, 0, #[], rfl, hb, hE, Nat.le_refl _, by unfold maxLen; omega, rfl, rfl⟩⟩
  rcases hl.2 with ⟨rfl, h0⟩ | ⟨g, cap, cur, rfl, h1, h2, h3, h4, h5, h6⟩
  · obtain rfl := List.eq_nil_of_length_eq_zero h0
    exact ⟨_, w, run_append_owned_none (P := Try.prog) (w := w) zb 59 ty 61 i 2 Try.underlying59 hi _ 0 [] (hown zb hz), hown zb hz, grown_refl _ _, by rintro g ⟨⟩; exact hbE⟩
  · cases hl0 : l with
    | nil =>
      subst hl0
      exact ⟨_, w, run_zero E ⟨g, 0, none⟩ cap ty, hown zb hz, grown_refl _ _, by rintro g ⟨⟩; exact hbE⟩
    | cons p l2 =>
      rw [← hl0]
      have hpos : 0 < l.length := by rw [hl0]; simp
      obtain ⟨a3, c3, he, -, hc⟩ := hl.arcs
      simp only [Value.slice.injEq] at he
      obtain ⟨rfl, -, rfl⟩ := he
      rcases hc with hc | ⟨b, off, he2, hc⟩
      · rw [hc] at hpos; simp at hpos
      · obtain ⟨rfl, rfl⟩ : g = b ∧ 0 = off := by simpa using he2
        obtain ⟨v', w', hr, ho, hg⟩ := run_append_arg_grows (P := Try.prog) w 59 ty 61 i _ 2 16 Try.underlying59 hi hz0 hz1 hz2 rfl (by decide) ⟨E, 0, none⟩ 0 0 [] rfl (by simp) ⟨g, 0, none⟩ l.length cap (flatA l) (flat_len l) (fun j u hu => flat_cell hc hu) (by omega) (by unfold maxLen; omega) (by omega)
        have ho2 : w'.ownsRow w.heap.size 61 2 v' l.length (flatA l) := by simpa using ho
        refine ⟨v', w', hr, ?_, hg, fun g hg2 hb => by have h7 := (ho2.lt g hg2).1; have h8 := hbl g hb; omega⟩
        exact own_base ho2 (by omega)
theorem run_arow {w : World} {zb zr g n : Nat} {v rv : Value} {vals : List Value} {l : List Ar} (ty : TypeId) (h : w.ownsRow zb 59 1 v n vals) (hg : w.heap[g]? = some (.cells #[rv] 59 (0, 0))) (hr : OwnA w zr rv l) (hn : n ≤ 1000) (hz : zb ≤ w.heap.size) :
    ∃ v' w', (Builtin.append_ #[23, 23] ty #[v, .slice (some ⟨g, 0, none⟩) 1 1]).run Try.prog w = .ok v' w' ∧ w'.ownsRow zb 59 1 v' (n + 1) (vals ++ [rv]) ∧ w.grownBy w' v.ownBlock := by
  obtain ⟨i, hi, hz0, hz1, hz2⟩ := info_parts info_arow
  obtain ⟨a, c, hv⟩ := own_slice hr
  obtain ⟨v', w', h1, h2, h3, -⟩ := run_append_own (P := Try.prog) w zb 23 ty 59 i _ 1 24 Try.underlying23 hi hz0 hz1 hz2 rfl (by decide) v n vals h ⟨g, 0, none⟩ 1 1 [rv] rfl (fun j u hu => by
    cases j with
    | zero =>
      simp at hu; subst hu
      have e : (⟨g, 0, none⟩ : Addr).add 0 = ⟨g, 0, none⟩ := by simp [Addr.add]
      rw [e]
      unfold World.cell?
      dsimp only
      rw [hg]
      rfl
    | succ j => simp at hu) (fun u hu => by simp at hu; subst hu; rw [hv]; rfl) (by unfold maxLen; omega) (by omega) hz
  exact ⟨v', w', h1, h2, h3⟩
end Go.Proofs.Ytelpkcndbcfaiaa
