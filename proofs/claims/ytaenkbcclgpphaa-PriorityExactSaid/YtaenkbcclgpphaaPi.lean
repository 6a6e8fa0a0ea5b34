/- Contracts of package priority: Falling. -/
import Derived.Test.YtaenkbcclgpphaaPh
import Derived.Test.YtaenkbcclgpphaaWi
namespace Go.Proofs.Ytaenkbcclgpphaa
open Go.RowKit
set_option linter.unusedVariables false

/-- One more row; where the new slice lies. -/
theorem app_row_at {ops : Array Oper} {rest : List Oper} {o : Oper} {a : Act} {w : World} {Q : Exit → Act → World → Prop} (hgd : o.guard = none) (s x : Operand)
    (ho : o.op = .call { callee := .builtin .append, args := #[s, x], argTypes := #[35, 35] }) (base : Nat) (v : Value) (ps : List Row) (hs : a.eval s = v)
    (hown : OwnP w base v ps) (b : Nat) (p : Row) (hx : a.eval x = .slice (some ⟨b, 0, none⟩) 1 1) (hnew : w.cell? ⟨b, 0, none⟩ = some p.1) (hp : RowOk w p) (hd : ∀ g, p.1.ownBlock = some g → v.ownBlock ≠ some g)
    (hlen : ps.length ≤ 1000000000000) (hbase : base ≤ w.heap.size)
    (h : ∀ a' n' c' w', n' = (ps ++ [p]).length → OwnP w' base (.slice a' n' c') (ps ++ [p]) → w.grownBy w' v.ownBlock → (∀ g, Value.ownBlock (.slice a' n' c') = some g → v.ownBlock = some g ∨ g = w.heap.size) → wpList Try.prog ops Q rest (a.put o.dst (.slice a' n' c')) w') : wpList Try.prog ops Q (o :: rest) a w := by
  obtain ⟨i, hi, hz0, hz1, hz2⟩ := info_parts info_row
  refine wpList_plain hgd fun K hK => wp_append_lies w s x 35 ho base 22 i (.slice none 0 0) 1 24 Try.underlying35 hi hz0 hz1 hz2 rfl (by decide) v ps.length (ps.map Prod.fst) hs hown.1 ⟨b, 0, none⟩ 1 1 [p.1] hx rfl ?_ ?_ (by decide) ?_ ?_ hbase w.heap.size rfl ?_
  · intro j u hu
    cases j with
    | zero => simp at hu; subst hu; simpa [Addr.add] using hnew
    | succ j => simp at hu
  · intro u hu; simp at hu; subst hu; exact slice_one hp
  · unfold maxLen; omega
  · omega
  · intro g cap w' h1 h2 h3 _
    have hlen' : (ps ++ [p]).length = ps.length + 1 := by simp
    have key := h (some ⟨g, 0, none⟩) (ps.length + 1) cap w' hlen'.symm (by
      refine ⟨by simpa using h1, ?_⟩
      intro q hq
      have hq' : RowOk w q ∧ ∀ g, q.1.ownBlock = some g → v.ownBlock ≠ some g := by
        rcases List.mem_append.1 hq with hq | hq
        · exact hown.2 q hq
        · rw [List.mem_singleton.1 hq]; exact ⟨hp, hd⟩
      refine ⟨hq'.1.kept h2 (fun k hk e => hq'.2 k e hk), fun g' hg e => ?_⟩
      simp only [Value.ownBlock, Option.some.injEq] at e
      subst e
      rcases h3 with h3 | h3
      · exact hq'.2 _ hg h3
      · have := hq'.1.2.2 _ hg; omega) h2 (by intro g' hg'; simp only [Value.ownBlock, Option.some.injEq] at hg'; subst hg'; exact h3)
    exact hK _ _ key
theorem RowsP.keptR {w w' : World} {v : Value} {ps : List Row} {row : Option Nat} (h : RowsP w v ps) (g : w.grownBy w' row) (hv : ∀ k, row = some k → v.ownBlock ≠ some k) (hr : ∀ k, row = some k → ∀ p ∈ ps, p.1.ownBlock ≠ some k) : RowsP w' v ps := by
  obtain ⟨a, cap, rfl, hl, hc, hp⟩ := h
  refine ⟨a, cap, rfl, hl, ?_, fun p hp' => (hp p hp').kept g (fun k hk => hr k hk p hp')⟩
  rcases hc with hc | ⟨b, off, rfl, hc⟩
  · exact .inl hc
  · exact .inr ⟨b, off, rfl, fun i hi => g.cell (hc i hi) (by intro e; exact hv b e.symm rfl)⟩

/-- What begins with a letter: it alone, and before words that go on. -/
def fallX (rs : List Int) (m : Int) (F : Int → List (List Int)) (x : Nat) : List (List Int) :=
  if m < rs[x]?.getD 0 then [] else [(x : Int)] :: (F (rs[x]?.getD 0 - 1)).map (fun u => (x : Int) :: u)
def fallA (rs : List Int) : Nat → Int → List (List Int)
  | 0, _ => []
  | f + 1, m => ascL ((List.range rs.length).flatMap (fallX rs m (fallA rs f)))
def rawK (rs : List Int) (f : Nat) (m : Int) (k : Nat) : List (List Int) := (List.range k).flatMap (fallX rs m (fallA rs f))
theorem rawK_step (rs : List Int) (f : Nat) (m : Int) (k : Nat) : rawK rs f m (k + 1) = rawK rs f m k ++ fallX rs m (fallA rs f) k := by
  unfold rawK; rw [List.range_succ, List.flatMap_append]; simp
def fallB : Nat → Nat
  | 0 => 0
  | f + 1 => 6 * (fallB f + 1)
theorem fallB_le {f : Nat} (h : f ≤ 6) : fallB f ≤ 55986 := by
  match f, h with
  | 0, _ => decide
  | 1, _ => decide
  | 2, _ => decide
  | 3, _ => decide
  | 4, _ => decide
  | 5, _ => decide
  | 6, _ => decide
theorem fallA_len (rs : List Int) (h6 : rs.length ≤ 6) : ∀ (f : Nat) (m : Int), (fallA rs f m).length ≤ fallB f
  | 0, m => by simp [fallA]
  | f + 1, m => by
    unfold fallA fallB
    refine Nat.le_trans (ascL_len _) ?_
    have key : ∀ k, ((List.range k).flatMap (fallX rs m (fallA rs f))).length ≤ k * (fallB f + 1) := by
      intro k
      induction k with
      | zero => simp
      | succ k ih =>
        rw [List.range_succ, List.flatMap_append, List.length_append]
        have h1 : ([k].flatMap (fallX rs m (fallA rs f))).length ≤ fallB f + 1 := by
          simp only [List.flatMap_cons, List.flatMap_nil, List.append_nil]
          unfold fallX
          split
          · simp
          · simp only [List.length_cons, List.length_map]
            have := fallA_len rs h6 f (rs[k]?.getD 0 - 1)
            omega
        rw [Nat.succ_mul]; omega
    exact Nat.le_trans (key _) (Nat.mul_le_mul_right _ h6)
theorem rawK_len (rs : List Int) (h6 : rs.length ≤ 6) (f : Nat) (m : Int) (k : Nat) (hk : k ≤ rs.length) (hf : f ≤ 6) : (rawK rs f m k).length ≤ 400000 := by
  have key : ∀ k, (rawK rs f m k).length ≤ k * (fallB f + 1) := by
    intro k
    induction k with
    | zero => simp [rawK]
    | succ k ih =>
      rw [rawK_step, List.length_append, Nat.succ_mul]
      have : (fallX rs m (fallA rs f) k).length ≤ fallB f + 1 := by
        unfold fallX
        split
        · simp
        · simp only [List.length_cons, List.length_map]
          have := fallA_len rs h6 f (rs[k]?.getD 0 - 1)
          omega
      omega
  have h1 := key k
  have h2 := fallB_le hf
  have h3 : k * (fallB f + 1) ≤ 6 * 55987 := Nat.mul_le_mul (by omega) (by omega)
  omega
theorem fallA_el (rs : List Int) : ∀ (f : Nat) (m : Int), ∀ u ∈ fallA rs f m, u ≠ [] ∧ u.length ≤ f ∧ ∀ x ∈ u, 0 ≤ x ∧ x < rs.length
  | 0, m, u, hu => by simp [fallA] at hu
  | f + 1, m, u, hu => by
    unfold fallA at hu
    rw [ascL_mem, List.mem_flatMap] at hu
    obtain ⟨x, hx, hu⟩ := hu
    rw [List.mem_range] at hx
    unfold fallX at hu
    split at hu
    · simp at hu
    · rcases List.mem_cons.1 hu with rfl | hu
      · exact ⟨by simp, by simp, by simp; omega⟩
      · obtain ⟨v, hv, rfl⟩ := List.mem_map.1 hu
        obtain ⟨h1, h2, h3⟩ := fallA_el rs f _ v hv
        refine ⟨by simp, by simp; omega, fun z hz => ?_⟩
        rcases List.mem_cons.1 hz with rfl | hz
        · omega
        · exact h3 z hz
theorem fallA_asc (rs : List Int) : ∀ (f : Nat) (m : Int), Asc (fallA rs f m)
  | 0, _ => List.Pairwise.nil
  | f + 1, m => by unfold fallA; exact ascL_asc _
theorem asc_nodup {l : List (List Int)} (h : Asc l) : l.Nodup := h.imp (fun {a b} hc e => by subst e; rw [(compareI_zero a a).2 rfl] at hc; omega)
theorem rawK_nodup (rs : List Int) (f : Nat) (m : Int) (k : Nat) : (rawK rs f m k).Nodup := by
  induction k with
  | zero => simp [rawK]
  | succ k ih =>
    rw [rawK_step, List.nodup_append]
    refine ⟨ih, ?_, ?_⟩
    · unfold fallX
      split
      · simp
      · rw [List.nodup_cons]
        refine ⟨?_, ?_⟩
        · intro h
          obtain ⟨v, hv, e⟩ := List.mem_map.1 h
          simp only [List.cons.injEq, true_and] at e
          exact (fallA_el rs f _ v hv).1 e
        · refine List.Pairwise.map _ (fun a b h => ?_) (asc_nodup (fallA_asc rs f _))
          intro e
          simp only [List.cons.injEq, true_and] at e
          exact h e
    · intro a ha b hb e
      subst e
      have h1 : ∃ x : Nat, x < k ∧ a.head? = some (x : Int) := by
        unfold rawK at ha
        obtain ⟨x, hx, hu⟩ := List.mem_flatMap.1 ha
        refine ⟨x, List.mem_range.1 hx, ?_⟩
        unfold fallX at hu
        split at hu
        · simp at hu
        · rcases List.mem_cons.1 hu with rfl | hu
          · rfl
          · obtain ⟨v, _, rfl⟩ := List.mem_map.1 hu; rfl
      have h2 : a.head? = some (k : Int) := by
        unfold fallX at hb
        split at hb
        · simp at hb
        · rcases List.mem_cons.1 hb with rfl | hu
          · rfl
          · obtain ⟨v, _, rfl⟩ := List.mem_map.1 hu; rfl
      obtain ⟨x, hx, h3⟩ := h1
      rw [h2] at h3
      simp only [Option.some.injEq] at h3
      omega
/-- Sorted without doubles. -/
theorem sorted_asc {ps ps' : List Row} (hp : ps'.Perm ps) (hs : ps'.Pairwise (fun p q => compareI p.2 q.2 ≤ 0)) (hn : (ps.map Prod.snd).Nodup) : ps'.map Prod.snd = ascL (ps.map Prod.snd) := by
  have hn' : (ps'.map Prod.snd).Nodup := (hp.map Prod.snd).nodup_iff.2 hn
  refine asc_unique _ _ ?_ (ascL_asc _) (fun x => by rw [ascL_mem]; exact (hp.map Prod.snd).mem_iff)
  unfold Asc
  rw [List.pairwise_map]
  have h2 : ps'.Pairwise (fun p q => p.2 ≠ q.2) := by
    have := hn'
    unfold List.Nodup at this
    rwa [List.pairwise_map] at this
  refine (hs.and h2).imp ?_
  rintro p q ⟨h3, h4⟩
  rcases Int.lt_or_eq_of_le h3 with h5 | h5
  · exact h5
  · exact absurd ((compareI_zero _ _).1 h5) h4

def FallP (rs : List (List Int)) (w : World) (e : Ending) (w' : World) : Prop :=
  ∃ v qs, e = .returned (.tuple #[v, .int .i64 0]) ∧ OwnP w' w.heap.size v qs ∧ qs.map Prod.snd = rs ∧ w.grownBy w' none ∧ ∀ p ∈ qs, ∀ g, p.1.ownBlock = some g → w.heap.size ≤ g

end Go.Proofs.Ytaenkbcclgpphaa
