/- Matrices of the call's own: rows that can be written. -/
import Derived.Test.YtahffjoehjpfkaaRw
import Derived.Test.YtahffjoehjpfkaaGs
import Derived.Test.YtahffjoehjpfkaaGt
namespace Go.Proofs.Ytahffjoehjpfkaa
open Go.RowKit
set_option linter.unusedVariables false

theorem OwnI.keptB {w w' : World} {base : Nat} {v : Value} {xs : List Int} {row : Option Nat} (h : OwnI w base v xs) (g : w.grownBy w' row) (hr : ∀ k, row = some k → v.ownBlock ≠ some k) : OwnI w' base v xs :=
  World.ownsRow.kept h g (by
    cases hv : v.ownBlock with
    | none => exact .inl rfl
    | some k => refine .inr (fun e => ?_); exact hr k e.symm hv)
/-- make of slices of integers: all of them nil. -/
theorem make_rows {ops : Array Oper} {rest : List Oper} {o : Oper} {a : Act} {w : World} {Q : Exit → Act → World → Prop} (hgd : o.guard = none) (l c : Operand)
    (hop : o.op = Op.makeSlice 28 l c) (n : Nat) (hl : a.eval l = .int .i64 (n : Int)) (hc : a.eval c = .int .i64 (n : Int)) (hn : n ≤ 1000000000000)
    (h : ∀ w', OwnP w' w.heap.size (.slice (some ⟨w.heap.size, 0, none⟩) n n) (List.replicate n (.slice none 0 0, [])) → w.grownBy w' none → wpList Try.prog ops Q rest (a.put o.dst (.slice (some ⟨w.heap.size, 0, none⟩) n n)) w') :
    wpList Try.prog ops Q (o :: rest) a w := by
  obtain ⟨i, hi, hz0, hz1, hz2⟩ := info_parts info_row
  refine wpList_make_full w hgd l c 28 hop w.heap.size 22 i (.slice none 0 0) 1 Try.underlying28 hi hz0 hz1 .i64 .i64 n n n hl hc rfl rfl (by rw [hz2]; omega) (by unfold maxLen; omega) (Nat.le_refl _) ?_
  intro w' h1 h2
  refine h w' ⟨?_, ?_⟩ h2
  · rw [List.length_replicate, List.map_replicate]
    rw [Nat.mul_one] at h1
    simpa [Value.cells, toList_madeCells_one] using h1
  · intro p hp
    rw [List.eq_of_mem_replicate hp]
    exact ⟨⟨⟨none, 0, rfl, Nat.zero_le _, by simp, .inl rfl⟩, Good.nil, by intro g hg; simp [Value.ownBlock] at hg⟩, by intro g hg; simp [Value.ownBlock] at hg⟩
theorem OwnP.stored {w : World} {base g n cap : Nat} {ps : List Row} (h : OwnP w base (.slice (some ⟨g, 0, none⟩) n cap) ps) (k : Nat) (p : Row) (hp : RowOk w p) (hd : ∀ j, p.1.ownBlock = some j → j ≠ g) :
    OwnP (w.setCell ⟨g, k, none⟩ p.1) base (.slice (some ⟨g, 0, none⟩) n cap) (ps.set k p) := by
  have hn : ps.length = n := by
    rcases h.1.2 with ⟨h', _⟩ | ⟨g', cap', cur, h', _⟩
    · simp at h'
    · simp only [Value.slice.injEq] at h'
      exact h'.2.1.symm
  subst hn
  have h1 := (World.ownsRow.stored h.1 k p.1).1
  refine ⟨by rw [List.length_set, List.map_set]; exact h1, fun q hq => ?_⟩
  have hgr : w.grownBy (w.setCell ⟨g, k, none⟩ p.1) (some g) := grown_set w _ _
  rcases List.mem_or_eq_of_mem_set hq with hq | rfl
  · obtain ⟨h2, h3⟩ := h.2 q hq
    exact ⟨h2.kept hgr (by rintro j ⟨⟩ e; exact h3 _ e rfl), h3⟩
  · exact ⟨hp.kept hgr (by rintro j ⟨⟩ e; exact hd _ e rfl), fun j hj e => by simp only [Value.ownBlock, Option.some.injEq] at e; exact hd j hj e.symm⟩
theorem OwnP.cell {w : World} {base g n cap : Nat} {ps : List Row} (h : OwnP w base (.slice (some ⟨g, 0, none⟩) n cap) ps) (k : Nat) (hk : k < ps.length) :
    w.cell? ⟨g, k, none⟩ = some (ps[k]).1 ∧ w.frozen? ⟨g, k, none⟩ = false := by
  have hn : ps.length = n := by
    rcases h.1.2 with ⟨h', _⟩ | ⟨g', cap', cur, h', _⟩
    · simp at h'
    · simp only [Value.slice.injEq] at h'
      exact h'.2.1.symm
  subst hn
  refine ⟨?_, World.ownsRow.frozenAt h.1 k⟩
  rw [World.ownsRow.cellAt h.1 k (by omega)]
  simp [hk]
/-- A matrix of the call's own: each row in a block of its own. -/
structure MatO (w : World) (base : Nat) (v : Value) (ps : List Row) : Prop where
  own : OwnP w base v ps
  rows : ∀ q ∈ ps, OwnI w base q.1 q.2
  apart : ∀ i j (hi : i < ps.length) (hj : j < ps.length), i ≠ j → ∀ g, ps[i].1.ownBlock = some g → ps[j].1.ownBlock ≠ some g
theorem MatO.nil (w : World) (base : Nat) : MatO w base (.slice none 0 0) [] := ⟨OwnP.nil _ _, by simp, by intro i j hi; simp at hi⟩
theorem MatO.mono {w : World} {base base' : Nat} {v : Value} {ps : List Row} (h : MatO w base v ps) (hb : base' ≤ base) : MatO w base' v ps := ⟨h.own.mono hb, fun q hq => (h.rows q hq).mono hb, h.apart⟩
theorem MatO.kept {w w' : World} {base : Nat} {v : Value} {ps : List Row} {row : Option Nat} (h : MatO w base v ps) (g : w.grownBy w' row) (hr : ∀ k, row = some k → k < base) : MatO w' base v ps := by
  refine ⟨⟨World.ownsRow.kept h.own.1 g ?_, fun q hq => ⟨(h.own.2 q hq).1.kept g (fun k hk e => ?_), (h.own.2 q hq).2⟩⟩, fun q hq => (h.rows q hq).kept g hr, h.apart⟩
  · cases hv : v.ownBlock with
    | none => exact .inl rfl
    | some k => refine .inr (fun e => ?_); have := hr k e.symm; have := (h.own.fresh k hv).1; omega
  · have := hr k hk; have := ((h.rows q hq).fresh k e).1; omega
theorem MatO.same {w w' : World} {base : Nat} {v : Value} {ps : List Row} (h : MatO w base v ps) (g : w.grownBy w' none) : MatO w' base v ps := h.kept g (by simp)
theorem MatO.slice {w : World} {base : Nat} {v : Value} {ps : List Row} (h : MatO w base v ps) : ∃ a cap, v = .slice a ps.length cap := h.own.slice
theorem MatO.rowsP {w : World} {base : Nat} {v : Value} {ps : List Row} (h : MatO w base v ps) : RowsP w v ps := h.own.rows
theorem MatO.head {w : World} {base : Nat} {v : Value} {ps : List Row} (h : MatO w base v ps) (h1 : 1 ≤ ps.length) : ∃ g c, v = .slice (some ⟨g, 0, none⟩) ps.length c ∧ base ≤ g := by
  rcases h.own.1.2 with ⟨rfl, h0⟩ | ⟨g, cap, cur, rfl, hb, _⟩
  · omega
  · exact ⟨g, cap, rfl, hb⟩
/-- A row of at least one element. -/
theorem MatO.row {w : World} {base : Nat} {v : Value} {ps : List Row} (h : MatO w base v ps) {i : Nat} (hi : i < ps.length) (h1 : 1 ≤ ps[i].2.length) : ∃ b c, ps[i].1 = .slice (some ⟨b, 0, none⟩) ps[i].2.length c ∧ base ≤ b := by
  rcases (h.rows _ (List.getElem_mem hi)).2 with ⟨_, h0⟩ | ⟨g, cap, cur, hv, hb, _⟩
  · omega
  · exact ⟨g, cap, hv, hb⟩
/-- A number is put into a row. -/
theorem MatO.set {w : World} {base : Nat} {v : Value} {ps : List Row} (h : MatO w base v ps) {i : Nat} (hi : i < ps.length) {b c n : Nat} (hv : ps[i].1 = .slice (some ⟨b, 0, none⟩) n c) (k : Nat) (z : Int) (hz : -9223372036854775808 ≤ z ∧ z ≤ 9223372036854775807) :
    MatO (w.setCell ⟨b, k, none⟩ (.int .i64 z)) base v (ps.set i (ps[i].1, ps[i].2.set k z)) := by
  have hgr : w.grownBy (w.setCell ⟨b, k, none⟩ (.int .i64 z)) (some b) := grown_set w _ _
  have hob : ps[i].1.ownBlock = some b := by rw [hv]; rfl
  have hri := h.rows _ (List.getElem_mem hi)
  have hnew : OwnI (w.setCell ⟨b, k, none⟩ (.int .i64 z)) base ps[i].1 (ps[i].2.set k z) := by rw [hv]; rw [hv] at hri; exact hri.stored k z
  have hok := (h.own.2 _ (List.getElem_mem hi))
  have hvb : v.ownBlock ≠ some b := hok.2 b hob
  have hbd : ∀ x ∈ ps[i].2.set k z, -9223372036854775808 ≤ x ∧ x ≤ 9223372036854775807 := fun x hx => by
    rcases List.mem_or_eq_of_mem_set hx with hx | rfl
    · obtain ⟨_, _, _, _, hb, _⟩ := hok.1.1
      exact hb x hx
    · exact hz
  have hmap : (ps.set i (ps[i].1, ps[i].2.set k z)).map Prod.fst = ps.map Prod.fst := by
    rw [List.map_set]
    apply List.ext_getElem (by simp)
    intro j h1 h2
    rw [List.getElem_set]
    split
    · rename_i e; subst e; simp
    · rfl
  have key : ∀ j (hj : j < (ps.set i (ps[i].1, ps[i].2.set k z)).length), (ps.set i (ps[i].1, ps[i].2.set k z))[j].1 = (ps[j]'(by simpa using hj)).1 := fun j hj => by
    rw [List.getElem_set]
    split
    · rename_i e; subst e; rfl
    · rfl
  have other : ∀ j (hj : j < ps.length), j ≠ i → ps[j].1.ownBlock ≠ some b := fun j hj hji e => h.apart j i hj hi hji b e hob
  have rowj : ∀ q ∈ ps.set i (ps[i].1, ps[i].2.set k z), OwnI (w.setCell ⟨b, k, none⟩ (.int .i64 z)) base q.1 q.2 ∧ RowOk (w.setCell ⟨b, k, none⟩ (.int .i64 z)) q ∧ ∀ g, q.1.ownBlock = some g → v.ownBlock ≠ some g := by
    intro q hq
    obtain ⟨j, hj, rfl⟩ := List.getElem_of_mem hq
    have hj' : j < ps.length := by simpa using hj
    by_cases e : j = i
    · subst e
      rw [List.getElem_set_self]
      exact ⟨hnew, hnew.row hbd, hok.2⟩
    · have e2 : (ps.set i (ps[i].1, ps[i].2.set k z))[j] = ps[j] := List.getElem_set_ne (fun h => e h.symm) _
      rw [e2]
      have hq2 := h.own.2 _ (List.getElem_mem hj')
      exact ⟨(h.rows _ (List.getElem_mem hj')).keptB hgr (by rintro k ⟨⟩ e3; exact other j hj' e e3), hq2.1.kept hgr (by rintro k ⟨⟩ e3; exact other j hj' e e3), hq2.2⟩
  refine ⟨⟨?_, fun q hq => (rowj q hq).2⟩, fun q hq => (rowj q hq).1, fun i' j' hi' hj' hij g e => ?_⟩
  · rw [List.length_set, hmap]
    refine World.ownsRow.kept h.own.1 hgr ?_
    cases hv2 : v.ownBlock with
    | none => exact .inl rfl
    | some k => refine .inr (fun e => ?_); rw [hv2] at hvb; exact hvb e
  · rw [key] at e ⊢
    exact h.apart i' j' (by simpa using hi') (by simpa using hj') hij g e
/-- The cells of a row. -/
theorem MatO.cell {w : World} {base : Nat} {v : Value} {ps : List Row} (h : MatO w base v ps) {i : Nat} (hi : i < ps.length) {b c n : Nat} (hv : ps[i].1 = .slice (some ⟨b, 0, none⟩) n c) {k : Nat} (hk : k < ps[i].2.length) :
    w.cell? ⟨b, k, none⟩ = some (.int .i64 (ps[i].2[k]?.getD 0)) ∧ w.frozen? ⟨b, k, none⟩ = false := by
  have hri := h.rows _ (List.getElem_mem hi)
  rw [hv] at hri
  exact hri.cell k hk
/-- A new row in the place of one that is empty. -/
theorem MatO.fill {w : World} {base g n cap : Nat} {ps : List Row} (h : MatO w base (.slice (some ⟨g, 0, none⟩) n cap) ps) {k : Nat} (hk : k < ps.length) (q : Row) (hq : OwnI w base q.1 q.2) (hb : ∀ x ∈ q.2, -9223372036854775808 ≤ x ∧ x ≤ 9223372036854775807)
    (hd : ∀ j, q.1.ownBlock = some j → j ≠ g ∧ ∀ i (hi : i < ps.length), i ≠ k → ps[i].1.ownBlock ≠ some j) : MatO (w.setCell ⟨g, k, none⟩ q.1) base (.slice (some ⟨g, 0, none⟩) n cap) (ps.set k q) := by
  have hgr : w.grownBy (w.setCell ⟨g, k, none⟩ q.1) (some g) := grown_set w _ _
  refine ⟨h.own.stored k q (hq.row hb) (fun j hj => (hd j hj).1), fun p hp => ?_, fun i' j' hi' hj' hij j e => ?_⟩
  · rcases List.mem_or_eq_of_mem_set hp with hp | rfl
    · exact (h.rows p hp).keptB hgr (by rintro j ⟨⟩ e; exact (h.own.2 p hp).2 _ e rfl)
    · exact hq.keptB hgr (by rintro j ⟨⟩ e; exact (hd _ e).1 rfl)
  · rw [List.getElem_set] at e ⊢
    have hi2 : i' < ps.length := by simpa using hi'
    have hj2 : j' < ps.length := by simpa using hj'
    split at e
    · rename_i e1
      rw [if_neg (fun e2 => hij (e1.symm.trans e2))]
      exact (hd j e).2 j' hj2 (fun e2 => hij (e1.symm.trans e2.symm))
    · rename_i e1
      split
      · rename_i e2
        intro e3
        exact (hd j e3).2 i' hi2 (fun e4 => e1 e4.symm) e
      · exact h.apart i' j' hi2 hj2 hij j e
/-- One more row. -/
theorem MatO.push {w w1 : World} {base : Nat} {v v' : Value} {ps : List Row} {q : Row} (h : MatO w base v ps) (hq : OwnI w base q.1 q.2) (hd : ∀ g, q.1.ownBlock = some g → v.ownBlock ≠ some g ∧ ∀ p ∈ ps, p.1.ownBlock ≠ some g)
    (ho : OwnP w1 base v' (ps ++ [q])) (hg : w.grownBy w1 v.ownBlock) : MatO w1 base v' (ps ++ [q]) := by
  refine ⟨ho, fun p hp => ?_, fun i j hi hj hij g e => ?_⟩
  · rcases List.mem_append.1 hp with hp | hp
    · exact (h.rows p hp).keptB hg (fun k hk e => (h.own.2 p hp).2 k e hk)
    · rw [List.mem_singleton.1 hp]; exact hq.keptB hg (fun k hk e => (hd k e).1 hk)
  · rw [List.getElem_append] at e ⊢
    rw [List.length_append, List.length_singleton] at hi hj
    by_cases h1 : i < ps.length
    · rw [dif_pos h1] at e
      by_cases h2 : j < ps.length
      · rw [dif_pos h2]; exact h.apart i j h1 h2 hij g e
      · rw [dif_neg h2]
        intro e3
        have e4 : ([q][j - ps.length]'(by simp; omega)) = q := by simp
        rw [e4] at e3
        exact (hd g e3).2 _ (List.getElem_mem h1) e
    · rw [dif_neg h1] at e
      have e4 : ([q][i - ps.length]'(by simp; omega)) = q := by simp
      rw [e4] at e
      have h2 : j < ps.length := by omega
      rw [dif_pos h2]
      exact (hd g e).2 _ (List.getElem_mem h2)

end Go.Proofs.Ytahffjoehjpfkaa
