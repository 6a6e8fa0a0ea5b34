/- The reference's Match: the mathematics, and an append that tells its block. -/
import Derived.Test.YtnppmemcdcgjhaaLf
namespace Go.Proofs.Ytnppmemcdcgjhaa
open Go.RowKit
set_option linter.unusedVariables false

theorem app_int_blk {ops : Array Oper} {rest : List Oper} {o : Oper} {a : Act} {w : World} {Q : Exit → Act → World → Prop} (hgd : o.guard = none) (s x : Operand)
    (ho : o.op = .call { callee := .builtin .append, args := #[s, x], argTypes := #[22, 22] }) (base : Nat) (v : Value) (xs : List Int) (hs : a.eval s = v)
    (hown : OwnI w base v xs) (b : Nat) (y : Int) (hx : a.eval x = .slice (some ⟨b, 0, none⟩) 1 1) (hnew : w.cell? ⟨b, 0, none⟩ = some (.int .i64 y))
    (hlen : xs.length ≤ 1000000000000) (hbase : base ≤ w.heap.size)
    (h : ∀ v' w', OwnI w' base v' (xs ++ [y]) → w.grownBy w' v.ownBlock → (∀ g, v'.ownBlock = some g → v.ownBlock = some g ∨ w.heap.size ≤ g) → wpList Try.prog ops Q rest (a.put o.dst v') w') : wpList Try.prog ops Q (o :: rest) a w := by
  obtain ⟨i, hi, hz0, hz1, hz2⟩ := info_parts info_int
  refine wpList_plain hgd fun K hK => wp_append_lies w s x 22 ho base 3 i (.int .i64 0) 1 8 Try.underlying22 hi hz0 hz1 hz2 rfl (by decide) v xs.length (xs.map (Value.int .i64)) hs hown ⟨b, 0, none⟩ 1 1 [.int .i64 y] hx rfl ?_ ?_ (by decide) ?_ ?_ hbase w.heap.size rfl ?_
  · intro j u hu
    cases j with
    | zero => simp at hu; subst hu; simpa [Addr.add] using hnew
    | succ j => simp at hu
  · intro u hu; simp at hu; subst hu; rfl
  · unfold maxLen; omega
  · omega
  · intro g cap w' h1 h2 h3 _
    refine hK _ _ (h _ w' (by unfold OwnI; simpa using h1) h2 (fun g' hg' => by
      simp only [Value.ownBlock, Option.some.injEq] at hg'
      subst hg'
      rcases h3 with h3 | h3
      · exact .inl h3
      · exact .inr (by omega)))
/-- The matchings that begin with m are those of W, and m is least so far. -/
structure RMI (T W : List (List Bool)) (m : List Nat) : Prop where
  len : W.length = T.length
  pm : ∀ M, PM W M ↔ PM T M ∧ M.take m.length = m
  ex : ∃ M, PM W M
  low : ∀ i, i < m.length → ∀ M, PM T M → M.take i = m.take i → cl m i ≤ cl M i
theorem RMI.start {T : List (List Bool)} (h : ∃ M, PM T M) : RMI T T [] := ⟨rfl, fun M => by simp, h, fun i hi => by simp at hi⟩
theorem RMI.fixed {T W W' : List (List Bool)} {m : List Nat} {c : Nat} (h : RMI T W m) (hl : m.length < T.length) (hW : W'.length = W.length) (htb : ∀ x, x < W.length → ∀ j, tb W' x j = (tb W x j && fx m.length c x j)) (M : List Nat) : PM W' M ↔ PM T M ∧ M.take (m ++ [c]).length = m ++ [c] := by
  have hlW : m.length < W.length := by rw [h.len]; exact hl
  have h1 : PM W' M ↔ PM W M ∧ cl M m.length = c := by
    constructor
    · intro hM
      have hlen : M.length = W.length := by rw [hM.len, hW]
      have he : ∀ i, i < M.length → tb W i (cl M i) = true ∧ fx m.length c i (cl M i) = true := fun i hi => by
        have := hM.edge i hi
        rw [htb i (by omega), Bool.and_eq_true] at this
        exact this
      refine ⟨⟨hlen, fun i hi => (he i hi).1, hM.nd⟩, ?_⟩
      have := (he m.length (by omega)).2
      unfold fx at this
      simpa using this
    · rintro ⟨hM, hc⟩
      refine ⟨by rw [hM.len, hW], fun i hi => ?_, hM.nd⟩
      have hlen := hM.len
      rw [htb i (by omega), hM.edge i hi, Bool.true_and]
      unfold fx
      by_cases e : i = m.length
      · subst e; simp [hc]
      · have : cl M i ≠ c := fun e2 => e (cl_inj hM.nd hi (by omega) (by rw [e2, hc]))
        simp [e, this]
  rw [h1, h.pm, and_assoc]
  refine and_congr_right fun hM => ?_
  have hk : m.length < M.length := by rw [hM.len]; exact hl
  rw [List.length_append, List.length_singleton, take_cons_at hk]
  constructor
  · rintro ⟨h2, h3⟩; rw [h2, h3]
  · intro h2
    have := List.append_inj' h2 rfl
    exact ⟨this.1, by simpa using this.2⟩
theorem RMI.next {T W W' : List (List Bool)} {m : List Nat} {c : Nat} (h : RMI T W m) (hlen : W'.length = T.length) (hpm : ∀ M, PM W' M ↔ PM T M ∧ M.take (m ++ [c]).length = m ++ [c]) (hex : ∃ M, PM W' M) (hlow : ∀ M, PM T M → M.take m.length = m → c ≤ cl M m.length) : RMI T W' (m ++ [c]) := by
  refine ⟨hlen, hpm, hex, fun i hi M hM ht => ?_⟩
  rw [List.length_append, List.length_singleton] at hi
  by_cases e : i < m.length
  · rw [cl_app1 e]
    refine h.low i e M hM ?_
    rw [ht, List.take_append_of_le_length (by omega)]
  · obtain rfl : i = m.length := by omega
    rw [cl_app2 (Nat.le_refl _), Nat.sub_self]
    rw [List.take_left] at ht
    exact hlow M hM ht
theorem RMI.done {T W : List (List Bool)} {m : List Nat} (h : RMI T W m) (hl : m.length = T.length) : PM T m ∧ ∀ m', PM T m' → LexLe m m' := by
  refine ⟨?_, fun m' hm' => ?_⟩
  · obtain ⟨M, hM⟩ := h.ex
    obtain ⟨h1, h2⟩ := (h.pm M).1 hM
    rw [List.take_of_length_le (by rw [h1.len, hl]; exact Nat.le_refl _)] at h2
    rw [← h2]; exact h1
  · have key : ∀ k, k ≤ m.length → m'.take k = m.take k ∨ LexLe m m' := by
      intro k
      induction k with
      | zero => intro _; exact .inl rfl
      | succ k ih =>
        intro hk
        rcases ih (by omega) with h1 | h1
        · have h2 := h.low k (by omega) m' hm' h1
          have hk' : k < m'.length := by rw [hm'.len, ← hl]; omega
          by_cases e : cl m k = cl m' k
          · refine .inl ?_
            rw [take_cons_at (show k < m.length by omega), take_cons_at hk', h1, e]
          · exact .inr (.inr ⟨k, by omega, hk', h1.symm, by omega⟩)
        · exact .inr h1
    rcases key m.length (Nat.le_refl _) with h1 | h1
    · rw [List.take_length, List.take_of_length_le (by rw [hm'.len, hl]; exact Nat.le_refl _)] at h1
      exact .inl h1.symm
    · exact h1

end Go.Proofs.Ytnppmemcdcgjhaa
