/- Rows that grow, and which block they lie in. -/
import Derived.Test.YtnppmemcdcgjhaaHn
import Derived.Laws.AppendOwn
import Derived.Deep.DeepAppendRoom
namespace Go.Proofs.Ytnppmemcdcgjhaa
open Go.RowKit
set_option linter.unusedVariables false

theorem run_app_bblk (w : World) (base : Nat) (ty : TypeId) (v : Value) (xs : List Bool) (hown : OwnB w base v xs) (b : Nat) (y : Bool) (hnew : w.cell? ⟨b, 0, none⟩ = some (.bool y)) (hlen : xs.length ≤ 1000000000000) (hbase : base ≤ w.heap.size) :
    ∃ v' w', (Builtin.append_ #[26, 26] ty #[v, .slice (some ⟨b, 0, none⟩) 1 1]).run Try.prog w = .ok v' w' ∧ OwnB w' base v' (xs ++ [y]) ∧ w.grownBy w' v.ownBlock ∧ ∀ g, v'.ownBlock = some g → v.ownBlock = some g ∨ w.heap.size ≤ g := by
  obtain ⟨i, hi, hz0, hz1, hz2⟩ := info_parts info_bool
  have hn : ∀ (j : Nat) u, [Value.bool y][j]? = some u → w.cell? ((⟨b, 0, none⟩ : Addr).add j) = some u := by
    intro j u hu
    cases j with
    | zero => simp at hu; subst hu; simpa [Addr.add] using hnew
    | succ j => simp at hu
  have h1 : ∀ u ∈ [Value.bool y], u.oneCell' = true := by intro u hu; simp at hu; subst hu; rfl
  obtain ⟨v', w', hr, h2, h3, -⟩ := run_append_own (P := Try.prog) w base 26 ty 4 i (.bool false) 1 1 Try.underlying26 hi hz0 hz1 hz2 rfl (by decide) v xs.length (xs.map (Value.bool)) hown ⟨b, 0, none⟩ 1 1 [.bool y] rfl hn h1 (by unfold maxLen; omega) (by omega) hbase
  refine ⟨v', w', hr, by unfold OwnB; simpa using h2, h3, ?_⟩
  rcases hown.2 with ⟨rfl, h0⟩ | ⟨g, cap, cur, rfl, hbg, hg, hnc, hcm, hcs, htake⟩
  · obtain ⟨v2, w2, hr2, h22, -⟩ := run_append_own (P := Try.prog) w w.heap.size 26 ty 4 i (.bool false) 1 1 Try.underlying26 hi hz0 hz1 hz2 rfl (by decide) (.slice none 0 0) xs.length (xs.map (Value.bool)) ⟨hown.1, .inl ⟨rfl, h0⟩⟩ ⟨b, 0, none⟩ 1 1 [.bool y] rfl hn h1 (by unfold maxLen; omega) (by omega) (Nat.le_refl _)
    rw [hr] at hr2
    cases hr2
    exact fun g hg => .inr (World.ownsRow.lt h22 g hg).1
  · by_cases hroom : xs.length + 1 ≤ cap
    · obtain ⟨w2, hr2, -, -⟩ := run_append_own_spare (P := Try.prog) w base 26 ty 4 i 1 Try.underlying26 hi hz1 g xs.length cap (xs.map (Value.bool)) hown ⟨b, 0, none⟩ 1 1 [.bool y] rfl hn h1 hroom
      rw [hr] at hr2
      cases hr2
      exact fun k hk => .inl hk
    · have holds : ∀ (j : Nat) u, (xs.map (Value.bool))[j]? = some u → w.cell? ((⟨g, 0, none⟩ : Addr).add j) = some u := hown.cells (g := g) rfl
      have hr2 := run_append_grow (P := Try.prog) w 26 ty 4 i (.bool false) Try.underlying26 hi hz0 ⟨g, 0, none⟩ xs.length cap (xs.map (Value.bool)) (by rw [hz1]; simp) holds ⟨b, 0, none⟩ 1 1 [.bool y] (by rw [hz1]; rfl) hn (by omega) (by omega) (growslice_fits (by omega) (by rw [hz2]; omega))
      rw [hr] at hr2
      cases hr2
      intro k hk
      simp only [Value.ownBlock, Option.some.injEq] at hk
      exact .inr (by omega)

/-- The step, inside a region that draws its order. -/
theorem step_app_bblk {ops : Array Oper} {o : Oper} {a : Act} {w : World} {K : Act → World → Prop} {Q : Exit → Act → World → Prop} {E : Prop} (hgd : o.guard = none) (s x : Operand)
    (ho : o.op = .call { callee := .builtin .append, args := #[s, x], argTypes := #[26, 26] }) (base : Nat) (v : Value) (xs : List Bool) (hs : a.eval s = v)
    (hown : OwnB w base v xs) (b : Nat) (y : Bool) (hx : a.eval x = .slice (some ⟨b, 0, none⟩) 1 1) (hnew : w.cell? ⟨b, 0, none⟩ = some (.bool y))
    (hlen : xs.length ≤ 1000000000000) (hbase : base ≤ w.heap.size)
    (h : ∀ v' w', OwnB w' base v' (xs ++ [y]) → w.grownBy w' v.ownBlock → (∀ g, v'.ownBlock = some g → v.ownBlock = some g ∨ w.heap.size ≤ g) → K (a.put o.dst v') w') : if Region.wanted o (yielded ops a.tmps) = true then Oper.wp Try.prog o a w K Q else E := by
  have hw : Region.wanted o (yielded ops a.tmps) = true := by simp [Region.wanted, hgd]
  rw [if_pos hw]
  obtain ⟨v', w', hr, h2, h3, h4⟩ := run_app_bblk w base o.type v xs hown b y hnew hlen hbase
  unfold Oper.wp execOp
  simp only [ho, resolve, invoke, builtin, Sem.run_bind, Sem.run_pure, Result.andThen_ok, List.map_toArray, List.map_cons, List.map_nil, hs, hx, hr]
  exact h v' w' h2 h3 h4

theorem app_brow_blk {ops : Array Oper} {rest : List Oper} {o : Oper} {a : Act} {w : World} {Q : Exit → Act → World → Prop} (hgd : o.guard = none) (s x : Operand)
    (ho : o.op = .call { callee := .builtin .append, args := #[s, x], argTypes := #[23, 23] }) (base : Nat) (v : Value) (ps : List BRow) (hs : a.eval s = v)
    (hown : OwnBP w base v ps) (b : Nat) (p : BRow) (hx : a.eval x = .slice (some ⟨b, 0, none⟩) 1 1) (hnew : w.cell? ⟨b, 0, none⟩ = some p.1) (hp : BOk w p) (hd : ∀ g, p.1.ownBlock = some g → v.ownBlock ≠ some g)
    (hlen : ps.length ≤ 1000000000000) (hbase : base ≤ w.heap.size)
    (h : ∀ v' w', OwnBP w' base v' (ps ++ [p]) → w.grownBy w' v.ownBlock → (∀ g, v'.ownBlock = some g → v.ownBlock = some g ∨ w.heap.size ≤ g) → wpList Try.prog ops Q rest (a.put o.dst v') w') : wpList Try.prog ops Q (o :: rest) a w := by
  obtain ⟨i, hi, hz0, hz1, hz2⟩ := info_parts info_brow
  refine wpList_plain hgd fun K hK => wp_append_lies w s x 23 ho base 26 i (.slice none 0 0) 1 24 Try.underlying23 hi hz0 hz1 hz2 rfl (by decide) v ps.length (ps.map Prod.fst) hs hown.1 ⟨b, 0, none⟩ 1 1 [p.1] hx rfl ?_ ?_ (by decide) ?_ ?_ hbase w.heap.size rfl ?_
  · intro j u hu
    cases j with
    | zero => simp at hu; subst hu; simpa [Addr.add] using hnew
    | succ j => simp at hu
  · intro u hu; simp at hu; subst hu; exact bslice_one hp
  · unfold maxLen; omega
  · omega
  · intro g cap w' h1 h2 h3 _
    refine hK _ _ (h _ w' ⟨by simpa using h1, ?_⟩ h2 (fun g' hg' => by
      simp only [Value.ownBlock, Option.some.injEq] at hg'
      subst hg'
      rcases h3 with h3 | h3
      · exact .inl h3
      · exact .inr (by omega)))
    intro q hq
    have hq' : BOk w q ∧ ∀ g, q.1.ownBlock = some g → v.ownBlock ≠ some g := by
      rcases List.mem_append.1 hq with hq | hq
      · exact hown.2 q hq
      · rw [List.mem_singleton.1 hq]; exact ⟨hp, hd⟩
    refine ⟨hq'.1.kept h2 (fun k hk e => hq'.2 k e hk), fun g' hg e => ?_⟩
    simp only [Value.ownBlock, Option.some.injEq] at e
    subst e
    rcases h3 with h3 | h3
    · exact hq'.2 _ hg h3
    · have := hq'.1.2.2 _ hg; omega

/-- A further element of a row of an own table. -/
theorem push_row {w w1 W : World} {M n cap k : Nat} {vk v' : Value} {xs : List Bool} {y : Bool} {qs : List BRow} (h : OwnT w M (.slice (some ⟨M, 0, none⟩) n cap) qs) (hk : k < qs.length) (hq : qs[k] = (vk, xs)) (g1 : w.grownBy w1 none) (ho : OwnB W M v' (xs ++ [y])) (hg : w1.grownBy W vk.ownBlock)
    (hb : ∀ g, v'.ownBlock = some g → vk.ownBlock = some g ∨ w1.heap.size ≤ g) : OwnT (W.setCell ⟨M, k, none⟩ v') M (.slice (some ⟨M, 0, none⟩) n cap) (qs.set k (v', xs ++ [y])) := by
  obtain ⟨h1, h2, h3⟩ := h
  have hmk := List.getElem_mem hk
  have hsz := g1.size
  have hML : M < w.heap.size := (h1.fresh M rfl).2
  have hkM : vk.ownBlock ≠ some M := fun e => (h1.2 _ hmk).2 M (by rw [hq]; exact e) rfl
  have hvM : v'.ownBlock ≠ some M := fun e => by
    rcases hb M e with e | e
    · exact hkM e
    · omega
  have hs : W.grownBy (W.setCell ⟨M, k, none⟩ v') (some M) := grown_set W _ _
  have hne : ∀ i (hi : i < qs.length), i ≠ k → ∀ g, (qs[i]).1.ownBlock = some g → vk.ownBlock ≠ some g := fun i hi hik g e e' => by
    rcases Nat.lt_or_gt_of_ne hik with hlt | hgt
    · exact List.pairwise_iff_getElem.1 h3 i k hi hk hlt g e (by rw [hq]; exact e')
    · exact List.pairwise_iff_getElem.1 h3 k i hk hi hgt g (by rw [hq]; exact e') e
  have hne' : ∀ i (hi : i < qs.length), i ≠ k → ∀ g, (qs[i]).1.ownBlock = some g → v'.ownBlock ≠ some g := fun i hi hik g e e' => by
    rcases hb g e' with e2 | e2
    · exact hne i hi hik g e e2
    · have := ((h2 _ (List.getElem_mem hi)).fresh g e).2; omega
  have hB : ∀ q ∈ qs.set k (v', xs ++ [y]), OwnB (W.setCell ⟨M, k, none⟩ v') M q.1 q.2 ∧ ∀ g, q.1.ownBlock = some g → (Value.slice (some ⟨M, 0, none⟩) n cap).ownBlock ≠ some g := fun q hq' => by
    obtain ⟨i, hi, rfl⟩ := List.getElem_of_mem hq'
    rw [List.length_set] at hi
    rw [List.getElem_set]
    by_cases e : k = i
    · subst e
      rw [if_pos rfl]
      refine ⟨World.ownsRow.kept ho hs (.inr hvM), fun g e => ?_⟩
      simp only [Value.ownBlock, ne_eq, Option.some.injEq]
      rintro rfl
      exact hvM e
    · rw [if_neg e]
      have hO := h2 _ (List.getElem_mem hi)
      refine ⟨World.ownsRow.kept (World.ownsRow.kept (World.ownsRow.kept hO g1 ?_) hg ?_) hs ?_, fun g e' => (h1.2 _ (List.getElem_mem hi)).2 g e'⟩
      · cases (qs[i]).1.ownBlock
        · exact .inl rfl
        · exact .inr (by simp)
      · cases hv : (qs[i]).1.ownBlock with
        | none => exact .inl rfl
        | some g => exact .inr (fun e2 => hne i hi (Ne.symm e) g hv e2.symm)
      · refine .inr (fun e2 => ?_)
        exact (h1.2 _ (List.getElem_mem hi)).2 M e2 rfl
  have hout : (W.setCell ⟨M, k, none⟩ v').ownsRow M 26 1 (.slice (some ⟨M, 0, none⟩) n cap) (qs.set k (v', xs ++ [y])).length ((qs.set k (v', xs ++ [y])).map Prod.fst) := by
    have e1 : W.ownsRow M 26 1 (.slice (some ⟨M, 0, none⟩) n cap) qs.length (qs.map Prod.fst) := World.ownsRow.kept (World.ownsRow.kept h1.1 g1 (.inr (by simp [Value.ownBlock]))) hg (.inr (fun e => hkM e.symm))
    have e2 : qs.length = n := by
      rcases h1.1.2 with ⟨h', _⟩ | ⟨g', cap', cur, h', _⟩
      · simp at h'
      · simp only [Value.slice.injEq] at h'
        exact h'.2.1.symm
    have e3 := (World.ownsRow.stored (e2 ▸ e1 : W.ownsRow M 26 1 (.slice (some ⟨M, 0, none⟩) n cap) n (qs.map Prod.fst)) k v').1
    rw [List.length_set, List.map_set, e2]
    exact e3
  refine ⟨⟨hout, fun q hq' => ⟨(hB q hq').1.row, (hB q hq').2⟩⟩, fun q hq' => (hB q hq').1, ?_⟩
  rw [List.pairwise_iff_getElem]
  intro i j hi hj hij g e e'
  rw [List.length_set] at hi hj
  rw [List.getElem_set] at e e'
  by_cases ei : k = i
  · subst ei
    rw [if_pos rfl] at e
    rw [if_neg (by omega)] at e'
    exact hne' j hj (by omega) g e' e
  · rw [if_neg ei] at e
    by_cases ej : k = j
    · subst ej
      rw [if_pos rfl] at e'
      exact hne' i hi (by omega) g e e'
    · rw [if_neg ej] at e'
      exact List.pairwise_iff_getElem.1 h3 i j hi hj hij g e e'
/-- A column of a table's first rows. -/
def colT (T : List (List Bool)) (k i : Nat) : List Bool := (List.range i).map (fun r => tb T r k)
theorem colT_next (T : List (List Bool)) (k i : Nat) : colT T k (i + 1) = colT T k i ++ [tb T i k] := by
  unfold colT
  rw [List.range_succ, List.map_append]; rfl
theorem tb_turn {T : List (List Bool)} {qs : List BRow} {c : Nat} (hl : qs.length = c) (hq : ∀ k (h : k < qs.length), (qs[k]).2 = colT T k T.length) (hc : ∀ r j, tb T r j = true → j < c) (r j : Nat) : tb (qs.map Prod.snd) j r = tb T r j := by
  by_cases hj : j < qs.length
  · rw [tb_row (by rw [List.length_map]; exact hj), List.getElem_map, hq j hj]
    unfold colT
    by_cases hr : r < T.length
    · simp [hr]
    · rw [List.getElem?_eq_none (by simpa using hr)]
      cases e : tb T r j
      · rfl
      · exact absurd (tb_lt0 e) hr
  · cases e : tb T r j
    · cases e2 : tb (qs.map Prod.snd) j r
      · rfl
      · have := tb_lt0 e2; rw [List.length_map] at this; omega
    · have := hc r j e; omega

end Go.Proofs.Ytnppmemcdcgjhaa
