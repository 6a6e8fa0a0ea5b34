/- Appends, where they lie. -/
import Derived.Test.YtgcfafjgaifmiaaEs
namespace Go.Proofs.Ytgcfafjgaifmiaa
open Go.RowKit
set_option linter.unusedVariables false

/-- One more row; where the new slice lies. -/
theorem app_row_at {ops : Array Oper} {rest : List Oper} {o : Oper} {a : Act} {w : World} {Q : Exit → Act → World → Prop} (hgd : o.guard = none) (s x : Operand)
    (ho : o.op = .call { callee := .builtin .append, args := #[s, x], argTypes := #[23, 23] }) (base : Nat) (v : Value) (ps : List Row) (hs : a.eval s = v)
    (hown : OwnP w base v ps) (b : Nat) (p : Row) (hx : a.eval x = .slice (some ⟨b, 0, none⟩) 1 1) (hnew : w.cell? ⟨b, 0, none⟩ = some p.1) (hp : RowOk w p) (hd : ∀ g, p.1.ownBlock = some g → v.ownBlock ≠ some g)
    (hlen : ps.length ≤ 1000000000000) (hbase : base ≤ w.heap.size)
    (h : ∀ a' n' c' w', n' = (ps ++ [p]).length → OwnP w' base (.slice a' n' c') (ps ++ [p]) → w.grownBy w' v.ownBlock → (∀ g, Value.ownBlock (.slice a' n' c') = some g → v.ownBlock = some g ∨ g = w.heap.size) → wpList Try.prog ops Q rest (a.put o.dst (.slice a' n' c')) w') : wpList Try.prog ops Q (o :: rest) a w := by
  obtain ⟨i, hi, hz0, hz1, hz2⟩ := info_parts info_row
  refine wpList_plain hgd fun K hK => wp_append_lies w s x 23 ho base 22 i (.slice none 0 0) 1 24 Try.underlying23 hi hz0 hz1 hz2 rfl (by decide) v ps.length (ps.map Prod.fst) hs hown.1 ⟨b, 0, none⟩ 1 1 [p.1] hx rfl ?_ ?_ (by decide) ?_ ?_ hbase w.heap.size rfl ?_
  · intro j u hu
    cases j with
    | zero => simp at hu; subst hu; simpa [Addr.add] using hnew
    | succ j => simp at hu
  · intro u hu; simp at hu; subst hu; exact slice_one hp
  · unfold maxLen; omega
  · omega
  · intro g cap w' h1 h2 h3 _
    have hlen' : (ps ++ [p]).length = ps.length + 1 := by simp
    have key := h (some ⟨g, 0, none⟩) (ps.length + 1) cap w' hlen'.symm (by
      refine ⟨by simpa using h1, ?_⟩
      intro q hq
      have hq' : RowOk w q ∧ ∀ g, q.1.ownBlock = some g → v.ownBlock ≠ some g := by
        rcases List.mem_append.1 hq with hq | hq
        · exact hown.2 q hq
        · rw [List.mem_singleton.1 hq]; exact ⟨hp, hd⟩
      refine ⟨hq'.1.kept h2 (fun k hk e => hq'.2 k e hk), fun g' hg e => ?_⟩
      simp only [Value.ownBlock, Option.some.injEq] at e
      subst e
      rcases h3 with h3 | h3
      · exact hq'.2 _ hg h3
      · have := hq'.1.2.2 _ hg; omega) h2 (by intro g' hg'; simp only [Value.ownBlock, Option.some.injEq] at hg'; subst hg'; exact h3)
    exact hK _ _ key
theorem RowsP.keptR {w w' : World} {v : Value} {ps : List Row} {row : Option Nat} (h : RowsP w v ps) (g : w.grownBy w' row) (hv : ∀ k, row = some k → v.ownBlock ≠ some k) (hr : ∀ k, row = some k → ∀ p ∈ ps, p.1.ownBlock ≠ some k) : RowsP w' v ps := by
  obtain ⟨a, cap, rfl, hl, hc, hp⟩ := h
  refine ⟨a, cap, rfl, hl, ?_, fun p hp' => (hp p hp').kept g (fun k hk => hr k hk p hp')⟩
  rcases hc with hc | ⟨b, off, rfl, hc⟩
  · exact .inl hc
  · exact .inr ⟨b, off, rfl, fun i hi => g.cell (hc i hi) (by intro e; exact hv b e.symm rfl)⟩


end Go.Proofs.Ytgcfafjgaifmiaa
