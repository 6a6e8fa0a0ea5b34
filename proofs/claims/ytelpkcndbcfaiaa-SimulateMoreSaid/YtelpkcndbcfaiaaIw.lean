/- The queue of Trace: a slice that loses its front and grows at its end. -/
import Derived.Test.YtelpkcndbcfaiaaIv
import Derived.Test.YtelpkcndbcfaiaaIt
import Derived.ArgAppend
namespace Go.Proofs.Ytelpkcndbcfaiaa
open Go.RowKit
set_option linter.unusedVariables false
abbrev Qe := Value × Nd
def wdC (q : Qe) : List Value := [q.1, .int .u64 (q.2.a : Int), .int .u64 0, .int .u64 (q.2.b : Int), .int .u64 0]
def flatW (qs : List Qe) : List Value := qs.flatMap wdC
theorem flatW_len : ∀ qs : List Qe, (flatW qs).length = qs.length * 5
  | [] => rfl
  | q :: qs => by
    show ((wdC q) ++ flatW qs).length = _
    rw [List.length_append, flatW_len qs, List.length_cons]
    show 5 + _ = _
    omega
theorem flatW_app (a b : List Qe) : flatW (a ++ b) = flatW a ++ flatW b := by simp [flatW]
theorem flatW_cons (q : Qe) (qs : List Qe) : flatW (q :: qs) = wdC q ++ flatW qs := rfl
theorem info_word : (Try.prog.info? 90).map (fun i => (i.zero, i.size, i.bytes)) = some (some (.agg #[.slice none 0 0, .int .u64 0, .int .u64 0, .int .u64 0, .int .u64 0]), 5, 56) := by kernel_rfl
theorem heap_setCellsW (b : Nat) : ∀ (vs : List Value) (o : Nat) (w : World) (cur : Array Value) (e : TypeId) (fr : Nat × Nat), w.heap[b]? = some (.cells cur e fr) → o + vs.length ≤ cur.size →
    ∃ cur', (w.setCells b o vs).heap[b]? = some (.cells cur' e fr) ∧ cur'.size = cur.size ∧ (∀ i, i < o ∨ o + vs.length ≤ i → cur'[i]? = cur[i]?) ∧ ∀ j, j < vs.length → cur'[o + j]? = vs[j]?
  | [], o, w, cur, e, fr, h, _ => ⟨cur, h, rfl, fun _ _ => rfl, fun j hj => by simp at hj⟩
  | v :: vs, o, w, cur, e, fr, h, hl => by
    have hl2 : o + 1 + vs.length ≤ (cur.setIfInBounds o v).size := by simp at hl ⊢; omega
    obtain ⟨cur', h1, h2, h3, h4⟩ := heap_setCellsW b vs (o + 1) (w.setCell ⟨b, o, none⟩ v) (cur.setIfInBounds o v) e fr (heap_set h v) hl2
    refine ⟨cur', h1, by rw [h2]; simp, fun i hi => ?_, fun j hj => ?_⟩
    · rw [h3 i (by simp at hi; omega), Array.getElem?_setIfInBounds, if_neg (by simp at hi; omega)]
    · cases j with
      | zero =>
        rw [Nat.add_zero, h3 o (by omega), Array.getElem?_setIfInBounds, if_pos rfl, if_pos (by simp at hl; omega)]
        rfl
      | succ j =>
        have := h4 j (by simpa using hj)
        rw [show o + (j + 1) = o + 1 + j by omega, this]
        rfl
theorem grown_setCells (b : Nat) : ∀ (vs : List Value) (o : Nat) (w : World), w.grownBy (w.setCells b o vs) (some b)
  | [], o, w => grown_refl _ _
  | v :: vs, o, w => grown_trans (grown_set w ⟨b, o, none⟩ v) (grown_setCells b vs (o + 1) _)
/-- v is a slice of words. -/
def QRow (w : World) (base : Nat) (v : Value) (qs : List Qe) : Prop := ∃ b off cap cur, v = .slice (some ⟨b, off, none⟩) qs.length cap ∧ base ≤ b ∧ w.heap[b]? = some (.cells cur 90 (0, 0)) ∧ qs.length ≤ cap ∧ cap ≤ maxLen ∧ off + cap * 5 ≤ cur.size ∧ ∀ (j : Nat) (u : Value), (flatW qs)[j]? = some u → cur[off + j]? = some u
theorem QRow.kept {w w' : World} {base : Nat} {v : Value} {qs : List Qe} {row : Option Nat} (h : QRow w base v qs) (g : w.grownBy w' row) (hr : v.ownBlock ≠ row) : QRow w' base v qs := by
  obtain ⟨b, off, cap, cur, rfl, h1, h2, h3⟩ := h
  exact ⟨b, off, cap, cur, rfl, h1, by rw [g.block b (Array.getElem?_eq_some_iff.1 h2).1 hr]; exact h2, h3⟩
theorem QRow.same {w w' : World} {base : Nat} {v : Value} {qs : List Qe} (h : QRow w base v qs) (g : w.grownBy w' none) : QRow w' base v qs := h.kept g (by
  obtain ⟨b, off, cap, cur, rfl, _⟩ := h
  simp [Value.ownBlock])
theorem QRow.front {w : World} {base : Nat} {v : Value} {q : Qe} {qs : List Qe} (h : QRow w base v (q :: qs)) :
    ∃ b off cap, v = .slice (some ⟨b, off, none⟩) (qs.length + 1) cap ∧ qs.length + 1 ≤ cap ∧ w.cell? ⟨b, off, none⟩ = some q.1 ∧ w.cell? ⟨b, off + 1, none⟩ = some (.int .u64 (q.2.a : Int)) ∧ w.cell? ⟨b, off + 2, none⟩ = some (.int .u64 0) ∧ w.cell? ⟨b, off + 3, none⟩ = some (.int .u64 (q.2.b : Int)) ∧ w.cell? ⟨b, off + 4, none⟩ = some (.int .u64 0) ∧
      QRow w base (.slice (some (if cap = 1 then ⟨b, off, none⟩ else ⟨b, off + 5, none⟩)) qs.length (cap - 1)) qs := by
  obtain ⟨b, off, cap, cur, rfl, h1, h2, h3, h4, h5, h6⟩ := h
  have hc : ∀ j u, (flatW (q :: qs))[j]? = some u → w.cell? ⟨b, off + j, none⟩ = some u := fun j u hu => by
    unfold World.cell?
    dsimp only
    rw [h2]
    exact h6 j u hu
  simp only [List.length_cons] at h3 ⊢
  refine ⟨b, off, cap, rfl, h3, hc 0 _ rfl, hc 1 _ rfl, hc 2 _ rfl, hc 3 _ rfl, hc 4 _ rfl, ?_⟩
  by_cases e : cap = 1
  · have hq : qs = [] := List.eq_nil_of_length_eq_zero (by omega)
    subst hq
    rw [if_pos e]
    exact ⟨b, off, cap - 1, cur, rfl, h1, h2, by simp, by unfold maxLen at *; omega, by omega, fun j u hu => by simp [flatW] at hu⟩
  · rw [if_neg e]
    refine ⟨b, off + 5, cap - 1, cur, rfl, h1, h2, by omega, by unfold maxLen at *; omega, by omega, fun j u hu => ?_⟩
    rw [show off + 5 + j = off + (5 + j) by omega]
    refine h6 (5 + j) u ?_
    rw [flatW_cons, List.getElem?_append_right (by show 5 ≤ _; omega)]
    rw [show 5 + j - (wdC q).length = j by show 5 + j - 5 = j; omega]
    exact hu
theorem app_word {ops : Array Oper} {rest : List Oper} {o : Oper} {a : Act} {w : World} {Q : Exit → Act → World → Prop} (hgd : o.guard = none) (s x : Operand)
    (ho : o.op = .call { callee := .builtin .append, args := #[s, x], argTypes := #[91, 91] }) (base : Nat) (v : Value) (qs : List Qe) (hs : a.eval s = v) (hq : QRow w base v qs)
    (bn : Nat) (q : Qe) (hx : a.eval x = .slice (some ⟨bn, 0, none⟩) 1 1) (hnew : w.heap[bn]? = some (.cells #[q.1, .int .u64 (q.2.a : Int), .int .u64 0, .int .u64 (q.2.b : Int), .int .u64 0] 90 (0, 0))) (hone : q.1.oneCell' = true) (hlen : qs.length ≤ 1000000) (hbase : base ≤ w.heap.size)
    (h : ∀ v' w', QRow w' base v' (qs ++ [q]) → w.grownBy w' v.ownBlock → (v'.ownBlock = v.ownBlock ∨ ∀ g, v'.ownBlock = some g → w.heap.size ≤ g) → wpList Try.prog ops Q rest (a.put o.dst v') w') : wpList Try.prog ops Q (o :: rest) a w := by
  obtain ⟨i, hi, hz0, hz1, hz2⟩ := info_parts info_word
  obtain ⟨b, off, cap, cur, rfl, h1, h2, h3, h4, h5, h6⟩ := hq
  have hfl := flatW_len qs
  have hfull : ∀ k, k < cap * 5 → ∃ u, w.cell? ⟨b, off + k, none⟩ = some u := fun k hk => by
    refine ⟨cur[off + k]'(by omega), ?_⟩
    unfold World.cell?
    dsimp only
    rw [h2]
    simp [show off + k < cur.size by omega]
  refine wpList_append_arg w hgd s x 91 ho 90 i _ 5 56 Try.underlying91 hi hz0 hz1 hz2 rfl (by decide) b off qs.length cap (flatW qs) hs hfl ?_ ⟨bn, 0, none⟩ 1 1 (wdC q) hx rfl ?_ ?_ ?_ (by unfold maxLen; omega) (by omega) ?_ ?_
  · intro j u hu
    unfold World.cell?
    dsimp only
    rw [h2]
    exact h6 j u hu
  · intro j u hu
    have e : (⟨bn, 0, none⟩ : Addr).add j = ⟨bn, j, none⟩ := by simp [Addr.add]; omega
    rw [e]
    unfold World.cell?
    dsimp only
    rw [hnew]
    simpa [wdC] using hu
  · intro u hu
    simp only [wdC, List.mem_cons, List.not_mem_nil, or_false] at hu
    rcases hu with rfl | rfl | rfl | rfl | rfl
    · exact hone
    all_goals rfl
  · intro hr j hj
    have hj5 : j < 5 := hj
    obtain ⟨u, hu⟩ := hfull (qs.length * 5 + j) (by omega)
    refine ⟨by rw [show off + qs.length * 5 + j = off + (qs.length * 5 + j) by omega, hu]; rfl, ?_⟩
    unfold World.frozen?
    dsimp only
    rw [h2]
    simp
  · intro hr
    obtain ⟨cur', c1, c2, c3, c4⟩ := heap_setCellsW b (wdC q) (off + qs.length * 5) w cur _ _ h2 (by show _ + 5 ≤ _; omega)
    refine h _ _ ⟨b, off, cap, cur', by rw [List.length_append]; rfl, h1, c1, by rw [List.length_append]; exact hr, h4, by rw [c2]; exact h5, fun j u hu => ?_⟩ (grown_setCells b (wdC q) _ w) (.inl rfl)
    rw [flatW_app] at hu
    by_cases hj : j < qs.length * 5
    · rw [List.getElem?_append_left (by omega)] at hu
      rw [c3 (off + j) (.inl (by omega))]
      exact h6 j u hu
    · rw [List.getElem?_append_right (by omega), hfl] at hu
      have hu2 : (wdC q)[j - qs.length * 5]? = some u := by simpa [flatW] using hu
      have hj5 : j - qs.length * 5 < (wdC q).length := (List.getElem?_eq_some_iff.1 hu2).1
      have := c4 (j - qs.length * 5) hj5
      rw [show off + qs.length * 5 + (j - qs.length * 5) = off + j by omega] at this
      rw [this]
      exact hu2
  · intro hr v' w' ho' hg'
    rcases ho'.2 with ⟨-, h0⟩ | ⟨g, cap', cur', rfl, hb, hh, hn, hm, hsz, ht⟩
    · omega
    · refine h _ w' ⟨g, 0, cap', cur', by rw [List.length_append]; rfl, Nat.le_trans hbase hb, hh, by rw [List.length_append]; exact hn, hm, by omega, fun j u hu => ?_⟩ (grown_weak3 hg' _) (.inr (fun g2 hg2 => by cases hg2; exact hb))
      have hfl2 : (flatW (qs ++ [q])).length = (qs.length + 1) * 5 := by rw [flatW_len, List.length_append]; rfl
      have hj : j < (qs.length + 1) * 5 := by rw [← hfl2]; exact (List.getElem?_eq_some_iff.1 hu).1
      have e2 : (cur'.toList.take ((qs.length + 1) * 5))[j]? = some u := by
        rw [ht]
        rw [flatW_app] at hu
        simpa [flatW] using hu
      rw [List.getElem?_take, if_pos hj] at e2
      rw [Nat.zero_add]
      simpa using e2
theorem QRow.made {w : World} {base b : Nat} {q : Qe} (hb : base ≤ b) (h : w.heap[b]? = some (.cells #[q.1, .int .u64 (q.2.a : Int), .int .u64 0, .int .u64 (q.2.b : Int), .int .u64 0] 90 (0, 0))) : QRow w base (.slice (some ⟨b, 0, none⟩) 1 1) [q] :=
  ⟨b, 0, 1, _, rfl, hb, h, Nat.le_refl _, by unfold maxLen; omega, by simp, fun j u hu => by
    have : (wdC q)[j]? = some u := by simpa [flatW] using hu
    rw [Nat.zero_add]
    simpa [wdC] using this⟩
end Go.Proofs.Ytelpkcndbcfaiaa
