/- Slices of bools, and slices of such slices. -/
import Derived.Test.YtnppmemcdcgjhaaRows
import Derived.Test.YtnppmemcdcgjhaaGo
import Derived.Test.YtnppmemcdcgjhaaRw
import Derived.Test.YtnppmemcdcgjhaaXc
namespace Go.Proofs.Ytnppmemcdcgjhaa
open Go.RowKit
set_option linter.unusedVariables false

/-- The slice value v reads as the bools xs in the world w. -/
def Bools (w : World) (v : Value) (xs : List Bool) : Prop :=
  ∃ a cap, v = .slice a xs.length cap ∧ xs.length ≤ maxLen ∧ (xs = [] ∨ ∃ b off, a = some ⟨b, off, none⟩ ∧ ∀ i, i < xs.length → w.cell? ⟨b, off + i, none⟩ = some (.bool (xs[i]?.getD false)))
theorem Bools.kept {w w' : World} {v : Value} {xs : List Bool} {row : Option Nat} (h : Bools w v xs) (g : w.grownBy w' row) (hr : ∀ k, row = some k → v.ownBlock ≠ some k) : Bools w' v xs := by
  obtain ⟨a, cap, rfl, hl, hc⟩ := h
  refine ⟨a, cap, rfl, hl, ?_⟩
  rcases hc with hc | ⟨b, off, rfl, hc⟩
  · exact .inl hc
  · refine .inr ⟨b, off, rfl, fun i hi => ?_⟩
    exact g.cell (hc i hi) (by intro e; exact hr b e.symm rfl)
theorem Bools.same {w w' : World} {v : Value} {xs : List Bool} (h : Bools w v xs) (g : w.grownBy w' none) : Bools w' v xs := h.kept g (by simp)
theorem Bools.at {w : World} {a : Option Addr} {xs : List Bool} {k : Nat}
    (hc : xs = [] ∨ ∃ b off, a = some ⟨b, off, none⟩ ∧ ∀ i, i < xs.length → w.cell? ⟨b, off + i, none⟩ = some (.bool (xs[i]?.getD false))) (h : k < xs.length) :
    ∃ b off, a = some ⟨b, off, none⟩ ∧ w.cell? ⟨b, off + k, none⟩ = some (.bool (xs[k]?.getD false)) := by
  rcases hc with rfl | ⟨b, off, rfl, hc⟩
  · simp at h
  · exact ⟨b, off, rfl, hc k h⟩

theorem info_bool : (Try.prog.info? 4).map (fun i => (i.zero, i.size, i.bytes)) = some (some (.bool false), 1, 1) := by kernel_rfl

/-- v is a slice of bools of the call's own. -/

def OwnB (w : World) (base : Nat) (v : Value) (xs : List Bool) : Prop := w.ownsRow base 4 1 v xs.length (xs.map (Value.bool))

theorem OwnB.bools {w : World} {base : Nat} {v : Value} {xs : List Bool} (h : OwnB w base v xs) : Bools w v xs := by
  rcases h.2 with ⟨rfl, h0⟩ | ⟨g, cap, cur, rfl, hg, hh, hn, hm, hs, ht⟩
  · have : xs = [] := List.eq_nil_of_length_eq_zero h0
    subst this
    exact ⟨none, 0, rfl, Nat.zero_le _, .inl rfl⟩
  · refine ⟨_, cap, rfl, Nat.le_trans hn hm, .inr ⟨g, 0, rfl, fun i hi => ?_⟩⟩
    have := World.ownsRow.cellAt h i (by omega)
    rw [Nat.zero_add, this]
    simp [hi]

theorem OwnB.fresh {w : World} {base : Nat} {v : Value} {xs : List Bool} (h : OwnB w base v xs) : ∀ g, v.ownBlock = some g → base ≤ g ∧ g < w.heap.size := World.ownsRow.lt h

theorem OwnB.nil (w : World) (base : Nat) : OwnB w base (.slice none 0 0) [] := World.ownsRow_nil w base _ _

theorem OwnB.kept {w w' : World} {base : Nat} {v : Value} {xs : List Bool} {row : Option Nat} (h : OwnB w base v xs) (g : w.grownBy w' row) (hr : ∀ k, row = some k → k < base) : OwnB w' base v xs := by
  refine World.ownsRow.kept h g ?_
  cases hv : v.ownBlock with
  | none => exact .inl rfl
  | some k =>
    refine .inr ?_
    intro e
    have := hr k e.symm
    have := (h.fresh k hv).1
    omega

theorem app_bool {ops : Array Oper} {rest : List Oper} {o : Oper} {a : Act} {w : World} {Q : Exit → Act → World → Prop} (hgd : o.guard = none) (s x : Operand)
    (ho : o.op = .call { callee := .builtin .append, args := #[s, x], argTypes := #[26, 26] }) (base : Nat) (v : Value) (xs : List Bool) (hs : a.eval s = v)
    (hown : OwnB w base v xs) (b : Nat) (y : Bool) (hx : a.eval x = .slice (some ⟨b, 0, none⟩) 1 1) (hnew : w.cell? ⟨b, 0, none⟩ = some (.bool y))
    (hlen : xs.length ≤ 1000000000000) (hbase : base ≤ w.heap.size)
    (h : ∀ v' w', OwnB w' base v' (xs ++ [y]) → w.grownBy w' v.ownBlock → wpList Try.prog ops Q rest (a.put o.dst v') w') : wpList Try.prog ops Q (o :: rest) a w := by
  obtain ⟨i, hi, hz0, hz1, hz2⟩ := info_parts info_bool
  refine wpList_append_own (w := w) hgd s x 26 ho base 4 i (.bool false) 1 1 Try.underlying26 hi hz0 hz1 hz2 rfl (by decide) v xs.length (xs.map (Value.bool)) hs hown ⟨b, 0, none⟩ 1 1 [.bool y] hx rfl ?_ ?_ ?_ ?_ hbase ?_
  · intro j u hu
    cases j with
    | zero => simp at hu; subst hu; simpa [Addr.add] using hnew
    | succ j => simp at hu
  · intro u hu; simp at hu; subst hu; rfl
  · unfold maxLen; omega
  · omega
  · intro v' w' h1 h2 _
    refine h v' w' ?_ h2
    unfold OwnB
    simpa using h1

theorem make_bool {ops : Array Oper} {rest : List Oper} {o : Oper} {a : Act} {w : World} {Q : Exit → Act → World → Prop} (hgd : o.guard = none) (l c : Operand)
    (hop : o.op = Op.makeSlice 26 l c) (n : Nat) (hl : a.eval l = .int .i64 (n : Int)) (hc : a.eval c = .int .i64 (n : Int)) (hn : n ≤ 1000000000000)
    (h : ∀ w', OwnB w' w.heap.size (.slice (some ⟨w.heap.size, 0, none⟩) n n) (List.replicate n false) → w.grownBy w' none → wpList Try.prog ops Q rest (a.put o.dst (.slice (some ⟨w.heap.size, 0, none⟩) n n)) w') :
    wpList Try.prog ops Q (o :: rest) a w := by
  obtain ⟨i, hi, hz0, hz1, hz2⟩ := info_parts info_bool
  refine wpList_make_full w hgd l c 26 hop w.heap.size 4 i (.bool false) 1 Try.underlying26 hi hz0 hz1 .i64 .i64 n n n hl hc rfl rfl (by rw [hz2]; omega) (by unfold maxLen; omega) (Nat.le_refl _) ?_
  intro w' h1 h2
  refine h w' ?_ h2
  unfold OwnB
  rw [List.length_replicate, List.map_replicate]
  rw [Nat.mul_one] at h1
  simpa [Value.cells, toList_madeCells_one] using h1

theorem OwnB.stored {w : World} {base g n cap : Nat} {xs : List Bool} (h : OwnB w base (.slice (some ⟨g, 0, none⟩) n cap) xs) (k : Nat) (z : Bool) :
    OwnB (w.setCell ⟨g, k, none⟩ (.bool z)) base (.slice (some ⟨g, 0, none⟩) n cap) (xs.set k z) := by
  have hn : xs.length = n := by
    rcases h.2 with ⟨h', _⟩ | ⟨g', cap', cur, h', _⟩
    · simp at h'
    · simp only [Value.slice.injEq] at h'
      exact h'.2.1.symm
  subst hn
  have := (World.ownsRow.stored h k (.bool z)).1
  unfold OwnB
  rw [List.length_set, List.map_set]
  exact this

theorem OwnB.cell {w : World} {base g n cap : Nat} {xs : List Bool} (h : OwnB w base (.slice (some ⟨g, 0, none⟩) n cap) xs) (k : Nat) (hk : k < xs.length) :
    w.cell? ⟨g, k, none⟩ = some (.bool (xs[k]?.getD false)) ∧ w.frozen? ⟨g, k, none⟩ = false := by
  have hn : xs.length = n := by
    rcases h.2 with ⟨h', _⟩ | ⟨g', cap', cur, h', _⟩
    · simp at h'
    · simp only [Value.slice.injEq] at h'
      exact h'.2.1.symm
  subst hn
  refine ⟨?_, World.ownsRow.frozenAt h k⟩
  rw [World.ownsRow.cellAt h k (by omega)]
  simp [hk]

theorem OwnB.good {w : World} {base : Nat} {v : Value} {xs : List Bool} (h : OwnB w base v xs) : Good v := by
  rcases h.2 with ⟨rfl, h0⟩ | ⟨g, cap, cur, rfl, _, _, hn, _⟩
  · exact Good.nil
  · exact Good.some _ hn

/-- A slice of bools, with what it reads as. -/
abbrev BRow := Value × List Bool

def BOk (w : World) (p : BRow) : Prop := Bools w p.1 p.2 ∧ Good p.1 ∧ ∀ g, p.1.ownBlock = some g → g < w.heap.size

theorem BOk.kept {w w' : World} {p : BRow} {row : Option Nat} (h : BOk w p) (g : w.grownBy w' row) (hr : ∀ k, row = some k → p.1.ownBlock ≠ some k) : BOk w' p :=
  ⟨h.1.kept g hr, h.2.1, fun k hk => Nat.lt_of_lt_of_le (h.2.2 k hk) g.size⟩

theorem BOk.same {w w' : World} {p : BRow} (h : BOk w p) (g : w.grownBy w' none) : BOk w' p := h.kept g (by simp)

theorem OwnB.row {w : World} {base : Nat} {v : Value} {xs : List Bool} (h : OwnB w base v xs) : BOk w (v, xs) :=
  ⟨h.bools, h.good, fun g hg => (h.fresh g hg).2⟩

def BRowsP (w : World) (v : Value) (ps : List BRow) : Prop :=
  ∃ a cap, v = .slice a ps.length cap ∧ ps.length ≤ maxLen ∧ (ps = [] ∨ ∃ b off, a = some ⟨b, off, none⟩ ∧ ∀ i, i < ps.length → w.cell? ⟨b, off + i, none⟩ = some (ps[i]?.map Prod.fst |>.getD (.slice none 0 0))) ∧ ∀ p ∈ ps, BOk w p

theorem BRowsP.same {w w' : World} {v : Value} {ps : List BRow} (h : BRowsP w v ps) (g : w.grownBy w' none) : BRowsP w' v ps := by
  obtain ⟨a, cap, hv, hl, hc, hp⟩ := h
  refine ⟨a, cap, hv, hl, ?_, fun p hp' => (hp p hp').same g⟩
  rcases hc with hc | ⟨b, off, ha, hc⟩
  · exact .inl hc
  · exact .inr ⟨b, off, ha, fun i hi => g.cell (hc i hi) (by simp)⟩

theorem BRowsP.at {w : World} {a : Option Addr} {ps : List BRow} {k : Nat}
    (hc : ps = [] ∨ ∃ b off, a = some ⟨b, off, none⟩ ∧ ∀ i, i < ps.length → w.cell? ⟨b, off + i, none⟩ = some (ps[i]?.map Prod.fst |>.getD (.slice none 0 0))) (h : k < ps.length) :
    ∃ b off, a = some ⟨b, off, none⟩ ∧ w.cell? ⟨b, off + k, none⟩ = some (ps[k]).1 := by
  rcases hc with rfl | ⟨b, off, rfl, hc⟩
  · simp at h
  · exact ⟨b, off, rfl, by rw [hc k h]; simp [h]⟩

theorem brows_blk {w : World} {g : Nat} {cs : Array Value} {e : TypeId} {f : Nat × Nat} (ps : List BRow) (n cap : Nat) (h : w.heap[g]? = some (.cells cs e f)) (hn : ps.length = n) (hm : n ≤ maxLen)
    (hc : cs.toList.take n = ps.map Prod.fst) (hp : ∀ p ∈ ps, BOk w p) : BRowsP w (.slice (some ⟨g, 0, none⟩) n cap) ps := by
  subst hn
  refine ⟨_, cap, rfl, hm, .inr ⟨g, 0, rfl, fun i hi => ?_⟩, hp⟩
  simp only [World.cell?, h, Nat.zero_add]
  have h1 : (cs.toList.take ps.length)[i]? = (ps.map Prod.fst)[i]? := by rw [hc]
  rw [List.getElem?_take, if_pos hi] at h1
  simp only [Array.getElem?_toList] at h1
  simp only [Option.isSome_none, Bool.false_eq_true, if_false]
  rw [h1]
  simp [hi]

def OwnBP (w : World) (base : Nat) (v : Value) (ps : List BRow) : Prop :=
  w.ownsRow base 26 1 v ps.length (ps.map Prod.fst) ∧ ∀ p ∈ ps, BOk w p ∧ ∀ g, p.1.ownBlock = some g → v.ownBlock ≠ some g

theorem OwnBP.nil (w : World) (base : Nat) : OwnBP w base (.slice none 0 0) [] := ⟨World.ownsRow_nil w base _ _, by simp⟩

theorem OwnBP.fresh {w : World} {base : Nat} {v : Value} {ps : List BRow} (h : OwnBP w base v ps) : ∀ g, v.ownBlock = some g → base ≤ g ∧ g < w.heap.size := World.ownsRow.lt h.1

theorem OwnBP.same {w w' : World} {base : Nat} {v : Value} {ps : List BRow} (h : OwnBP w base v ps) (g : w.grownBy w' none) : OwnBP w' base v ps := by
  refine ⟨World.ownsRow.kept h.1 g ?_, fun p hp => ⟨(h.2 p hp).1.same g, (h.2 p hp).2⟩⟩
  cases v.ownBlock
  · exact .inl rfl
  · exact .inr (by simp)

theorem OwnBP.mono {w : World} {base base' : Nat} {v : Value} {ps : List BRow} (h : OwnBP w base v ps) (hb : base' ≤ base) : OwnBP w base' v ps := by
  refine ⟨⟨h.1.1, ?_⟩, h.2⟩
  rcases h.1.2 with h1 | ⟨g, cap, cur, h1, h2, h3⟩
  · exact .inl h1
  · exact .inr ⟨g, cap, cur, h1, Nat.le_trans hb h2, h3⟩

theorem OwnB.mono {w : World} {base base' : Nat} {v : Value} {xs : List Bool} (h : OwnB w base v xs) (hb : base' ≤ base) : OwnB w base' v xs := by
  refine ⟨h.1, ?_⟩
  rcases h.2 with h1 | ⟨g, cap, cur, h1, h2, h3⟩
  · exact .inl h1
  · exact .inr ⟨g, cap, cur, h1, Nat.le_trans hb h2, h3⟩

theorem OwnBP.rows {w : World} {base : Nat} {v : Value} {ps : List BRow} (h : OwnBP w base v ps) : BRowsP w v ps := by
  rcases h.1.2 with ⟨rfl, h0⟩ | ⟨g, cap, cur, rfl, hg, hh, hn, hm, hs, ht⟩
  · have : ps = [] := List.eq_nil_of_length_eq_zero h0
    subst this
    exact ⟨none, 0, rfl, Nat.zero_le _, .inl rfl, by simp⟩
  · refine ⟨_, cap, rfl, Nat.le_trans hn hm, .inr ⟨g, 0, rfl, fun i hi => ?_⟩, fun p hp => (h.2 p hp).1⟩
    have := World.ownsRow.cellAt h.1 i (by omega)
    rw [Nat.zero_add, this]
    simp [hi]

theorem OwnBP.slice {w : World} {base : Nat} {v : Value} {ps : List BRow} (h : OwnBP w base v ps) : ∃ a cap, v = .slice a ps.length cap := by
  rcases h.1.2 with ⟨rfl, h0⟩ | ⟨g, cap, cur, rfl, _⟩
  · exact ⟨none, 0, by rw [h0]⟩
  · exact ⟨_, cap, rfl⟩

theorem info_brow : (Try.prog.info? 26).map (fun i => (i.zero, i.size, i.bytes)) = some (some (.slice none 0 0), 1, 24) := by kernel_rfl

theorem bslice_one {w : World} {p : BRow} (h : BOk w p) : p.1.oneCell' = true := by
  obtain ⟨⟨a, cap, hv, -⟩, -⟩ := h
  rw [hv]; rfl

theorem ownB_open {w : World} {base : Nat} {v : Value} {xs : List Bool} (h : OwnB w base v xs) : ∃ a c, v = .slice a xs.length c := by
  rcases h.2 with ⟨hv, h0⟩ | ⟨g, cap, cur, hv, _⟩
  · exact ⟨none, 0, by rw [hv, h0]⟩
  · exact ⟨_, cap, hv⟩

/-- make of slices of bools: all of them nil. -/
theorem make_brows {ops : Array Oper} {rest : List Oper} {o : Oper} {a : Act} {w : World} {Q : Exit → Act → World → Prop} (hgd : o.guard = none) (l c : Operand)
    (hop : o.op = Op.makeSlice 23 l c) (n : Nat) (hl : a.eval l = .int .i64 (n : Int)) (hc : a.eval c = .int .i64 (n : Int)) (hn : n ≤ 1000000000000)
    (h : ∀ w', OwnBP w' w.heap.size (.slice (some ⟨w.heap.size, 0, none⟩) n n) (List.replicate n (.slice none 0 0, [])) → w.grownBy w' none → wpList Try.prog ops Q rest (a.put o.dst (.slice (some ⟨w.heap.size, 0, none⟩) n n)) w') :
    wpList Try.prog ops Q (o :: rest) a w := by
  obtain ⟨i, hi, hz0, hz1, hz2⟩ := info_parts info_brow
  refine wpList_make_full w hgd l c 23 hop w.heap.size 26 i (.slice none 0 0) 1 Try.underlying23 hi hz0 hz1 .i64 .i64 n n n hl hc rfl rfl (by rw [hz2]; omega) (by unfold maxLen; omega) (Nat.le_refl _) ?_
  intro w' h1 h2
  refine h w' ⟨?_, ?_⟩ h2
  · rw [List.length_replicate, List.map_replicate]
    rw [Nat.mul_one] at h1
    simpa [Value.cells, toList_madeCells_one] using h1
  · intro p hp
    rw [List.eq_of_mem_replicate hp]
    exact ⟨⟨⟨none, 0, rfl, Nat.zero_le _, .inl rfl⟩, Good.nil, by intro g hg; simp [Value.ownBlock] at hg⟩, by intro g hg; simp [Value.ownBlock] at hg⟩
/-- A row is put into a slice of slices. -/
theorem OwnBP.stored {w : World} {base g n cap : Nat} {ps : List BRow} (h : OwnBP w base (.slice (some ⟨g, 0, none⟩) n cap) ps) (k : Nat) (p : BRow) (hp : BOk w p) (hd : ∀ j, p.1.ownBlock = some j → j ≠ g) :
    OwnBP (w.setCell ⟨g, k, none⟩ p.1) base (.slice (some ⟨g, 0, none⟩) n cap) (ps.set k p) := by
  have hn : ps.length = n := by
    rcases h.1.2 with ⟨h', _⟩ | ⟨g', cap', cur, h', _⟩
    · simp at h'
    · simp only [Value.slice.injEq] at h'
      exact h'.2.1.symm
  subst hn
  have h1 := (World.ownsRow.stored h.1 k p.1).1
  refine ⟨by rw [List.length_set, List.map_set]; exact h1, fun q hq => ?_⟩
  have hgr : w.grownBy (w.setCell ⟨g, k, none⟩ p.1) (some g) := grown_set w _ _
  rcases List.mem_or_eq_of_mem_set hq with hq | rfl
  · obtain ⟨h2, h3⟩ := h.2 q hq
    exact ⟨h2.kept hgr (by rintro j ⟨⟩ e; exact h3 _ e rfl), h3⟩
  · exact ⟨hp.kept hgr (by rintro j ⟨⟩ e; exact hd _ e rfl), fun j hj e => by simp only [Value.ownBlock, Option.some.injEq] at e; exact hd j hj e.symm⟩
theorem OwnBP.cell {w : World} {base g n cap : Nat} {ps : List BRow} (h : OwnBP w base (.slice (some ⟨g, 0, none⟩) n cap) ps) (k : Nat) (hk : k < ps.length) :
    w.cell? ⟨g, k, none⟩ = some (ps[k]).1 ∧ w.frozen? ⟨g, k, none⟩ = false := by
  have hn : ps.length = n := by
    rcases h.1.2 with ⟨h', _⟩ | ⟨g', cap', cur, h', _⟩
    · simp at h'
    · simp only [Value.slice.injEq] at h'
      exact h'.2.1.symm
  subst hn
  refine ⟨?_, World.ownsRow.frozenAt h.1 k⟩
  rw [World.ownsRow.cellAt h.1 k (by omega)]
  simp [hk]

end Go.Proofs.Ytnppmemcdcgjhaa
