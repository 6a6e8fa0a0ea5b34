/- Matchings of tables that differ a little. -/
import Derived.Test.YtnppmemcdcgjhaaHm
namespace Go.Proofs.Ytnppmemcdcgjhaa
open Go.RowKit
set_option linter.unusedVariables false

theorem app_bools {ops : Array Oper} {rest : List Oper} {o : Oper} {a : Act} {w : World} {Q : Exit → Act → World → Prop} (hgd : o.guard = none) (s x : Operand)
    (ho : o.op = .call { callee := .builtin .append, args := #[s, x], argTypes := #[26, 26] }) (base : Nat) (v : Value) (xs : List Bool) (hs : a.eval s = v)
    (hown : OwnB w base v xs) (u : Value) (ys : List Bool) (hx : a.eval x = u) (hu : Bools w u ys) (hgu : Good u) (hlen : xs.length + ys.length ≤ 1000000000000) (hbase : base ≤ w.heap.size)
    (h : ∀ v' w', OwnB w' base v' (xs ++ ys) → w.grownBy w' v.ownBlock → wpList Try.prog ops Q rest (a.put o.dst v') w') : wpList Try.prog ops Q (o :: rest) a w := by
  obtain ⟨i, hi, hz0, hz1, hz2⟩ := info_parts info_bool
  obtain ⟨au, cu, rfl, hm, hc⟩ := hu
  have one : ∀ z : Value, (∃ y, z = .bool y) → z.oneCell' = true := by rintro _ ⟨y, rfl⟩; rfl
  cases au with
  | none =>
    obtain ⟨h0, rfl⟩ := hgu.1 _ _ rfl
    have : ys = [] := List.eq_nil_of_length_eq_zero h0
    subst this
    refine wpList_append_own_none hgd s x 26 ho base 4 i 1 Try.underlying26 hi v xs.length (xs.map (Value.bool)) hs hown hx ?_
    exact h v w (by rw [List.append_nil]; exact hown) (grown_refl _ _)
  | some ad =>
    refine wpList_append_own (w := w) hgd s x 26 ho base 4 i (.bool false) 1 1 Try.underlying26 hi hz0 hz1 hz2 rfl (by decide) v xs.length (xs.map (Value.bool)) hs hown ad ys.length cu (ys.map (Value.bool)) hx (by simp) ?_ ?_ ?_ ?_ hbase ?_
    · intro j z hz
      rcases hc with rfl | ⟨b, off, hab, hc⟩
      · simp at hz
      · have hj : j < ys.length := by
          rcases Nat.lt_or_ge j ys.length with h1 | h1
          · exact h1
          · rw [List.getElem?_eq_none (by simpa using h1)] at hz; cases hz
        simp only [Option.some.injEq] at hab
        subst hab
        rw [show (Addr.mk b off none).add j = ⟨b, off + j, none⟩ by unfold Addr.add; split <;> simp_all, hc j hj, ← hz]
        simp [hj]
    · intro z hz
      obtain ⟨y, -, rfl⟩ := List.mem_map.1 hz
      exact one _ ⟨y, rfl⟩
    · unfold maxLen; omega
    · omega
    · intro v' w' h1 h2 _
      refine h v' w' ?_ h2
      unfold OwnB
      simpa using h1


theorem nu_mono {T T' : List (List Bool)} {n m : Nat} (h : ∀ r j, tb T r j = true → tb T' r j = true) (a : Nu T n) (b : Nu T' m) : n ≤ m := by
  obtain ⟨⟨M, hM, rfl⟩, -⟩ := a
  exact b.2 M ⟨fun p hp => h _ _ (hM.edge p hp), hM.fst, hM.snd⟩
theorem nodup_map_filter {α β : Type} (f : α → β) (p : α → Bool) {l : List α} (h : (l.map f).Nodup) : ((l.filter p).map f).Nodup := List.Pairwise.sublist (List.Sublist.map f List.filter_sublist) h
theorem nu_one {T T' : List (List Bool)} {n m c0 : Nat} (h : ∀ r j, tb T' r j = true → tb T r j = true ∨ j = c0) (a : Nu T n) (b : Nu T' m) : m ≤ n + 1 := by
  obtain ⟨⟨M, hM, rfl⟩, -⟩ := b
  have h1 := a.2 (M.filter (fun p => !(p.2 == c0))) ⟨fun p hp => by
    obtain ⟨hp1, hp2⟩ := List.mem_filter.1 hp
    rcases h _ _ (hM.edge p hp1) with h | h
    · exact h
    · rw [h] at hp2; simp at hp2, nodup_map_filter _ _ hM.fst, nodup_map_filter _ _ hM.snd⟩
  have h2 := filter_split (fun p : Nat × Nat => p.2 == c0) M
  have h3 := len_le_of_sub (nodup_map_filter Prod.snd (fun p : Nat × Nat => p.2 == c0) hM.snd) (k := [c0]) (fun x hx => by
    obtain ⟨p, hp, rfl⟩ := List.mem_map.1 hx
    have := (List.mem_filter.1 hp).2
    simp at this
    rw [this]; simp)
  rw [List.length_map] at h3
  simp only [List.length_cons, List.length_nil] at h3
  omega
theorem nu_cols {T : List (List Bool)} {n c : Nat} (h : ∀ r j, tb T r j = true → j < c) (a : Nu T n) : n ≤ c := by
  obtain ⟨⟨M, hM, rfl⟩, -⟩ := a
  have := len_le_of_sub hM.snd (k := List.range c) (fun x hx => by
    obtain ⟨p, hp, rfl⟩ := List.mem_map.1 hx
    rw [List.mem_range]
    exact h _ _ (hM.edge p hp))
  simpa using this
theorem nu_map {T T' : List (List Bool)} {n m : Nat} (f : Nat × Nat → Nat × Nat) (h : ∀ p : Nat × Nat, tb T p.1 p.2 = true → tb T' (f p).1 (f p).2 = true)
    (h1 : ∀ p q : Nat × Nat, tb T p.1 p.2 = true → tb T q.1 q.2 = true → (f p).1 = (f q).1 → p.1 = q.1 ∨ p.2 = q.2) (h2 : ∀ p q : Nat × Nat, tb T p.1 p.2 = true → tb T q.1 q.2 = true → (f p).2 = (f q).2 → p.1 = q.1 ∨ p.2 = q.2) (a : Nu T n) (b : Nu T' m) : n ≤ m := by
  obtain ⟨⟨M, hM, rfl⟩, -⟩ := a
  have key : ∀ p ∈ M, ∀ q ∈ M, p.1 = q.1 ∨ p.2 = q.2 → p = q := fun p hp q hq e => by
    rcases e with e | e
    · exact inj_of_nodup hM.fst p hp q hq e
    · exact inj_of_nodup hM.snd p hp q hq e
  have := b.2 (M.map f) ⟨fun p hp => by
    obtain ⟨q, hq, rfl⟩ := List.mem_map.1 hp
    exact h q (hM.edge q hq), by
    rw [List.map_map]
    exact nodup_map_on (nodup_of_map hM.fst) (fun p hp q hq e => key p hp q hq (h1 p q (hM.edge p hp) (hM.edge q hq) e)), by
    rw [List.map_map]
    exact nodup_map_on (nodup_of_map hM.fst) (fun p hp q hq e => key p hp q hq (h2 p q (hM.edge p hp) (hM.edge q hq) e))⟩
  simpa using this
theorem nu_turn {T T' : List (List Bool)} {n m : Nat} (h : ∀ r j, tb T' j r = tb T r j) (a : Nu T n) (b : Nu T' m) : n = m := by
  have e1 := nu_map (fun p => (p.2, p.1)) (fun p hp => by rw [h]; exact hp) (fun p q _ _ e => .inr e) (fun p q _ _ e => .inl e) a b
  have e2 := nu_map (fun p => (p.2, p.1)) (fun p hp => by rw [← h]; exact hp) (fun p q _ _ e => .inr e) (fun p q _ _ e => .inl e) b a
  omega
theorem nu_back {T T' : List (List Bool)} {n m R : Nat} (hT : T.length = R) (hT' : T'.length = R) (h : ∀ r, r < R → ∀ j, tb T' r j = tb T (R - 1 - r) j) (a : Nu T n) (b : Nu T' m) : n = m := by
  have e1 := nu_map (fun p => (R - 1 - p.1, p.2)) (fun p hp => by
    have := tb_lt0 hp
    rw [hT] at this
    rw [h _ (by omega), show R - 1 - (R - 1 - p.1) = p.1 by omega]; exact hp) (fun p q hp hq e => by
    have := tb_lt0 hp; have := tb_lt0 hq
    simp only at e
    left; omega) (fun p q _ _ e => .inr e) a b
  have e2 := nu_map (fun p => (R - 1 - p.1, p.2)) (fun p hp => by
    have := tb_lt0 hp
    rw [hT'] at this
    rw [h _ this] at hp; exact hp) (fun p q hp hq e => by
    have := tb_lt0 hp; have := tb_lt0 hq
    simp only at e
    left; omega) (fun p q _ _ e => .inr e) b a
  omega

end Go.Proofs.Ytnppmemcdcgjhaa
