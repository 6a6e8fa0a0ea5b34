/- Slices of slices of integers. -/
import Derived.Test.YtelpkcndbcfaiaaRows
import Derived.Test.YtelpkcndbcfaiaaGo
import Derived.Test.YtelpkcndbcfaiaaSh
import Derived.Deep.AppendLies
import Derived.Laws.AppendOwnNone
namespace Go.Proofs.Ytelpkcndbcfaiaa
open Go.RowKit
set_option linter.unusedVariables false

/-- A slice value without an array has no room. -/
def Good (v : Value) : Prop := (∀ n c, v = .slice none n c → n = 0 ∧ c = 0) ∧ ∀ a n c, v = .slice a n c → n ≤ c
theorem Good.some (a : Addr) {n c : Nat} (h : n ≤ c) : Good (.slice (some a) n c) := ⟨(by intro _ _ h; cases h), by intro _ _ _ e; cases e; exact h⟩
theorem Good.nil : Good (.slice none 0 0) := ⟨by intro _ _ h; cases h; exact ⟨rfl, rfl⟩, by intro _ _ _ e; cases e; exact Nat.le_refl _⟩
theorem OwnI.good {w : World} {base : Nat} {v : Value} {xs : List Int} (h : OwnI w base v xs) : Good v := by
  rcases h.2 with ⟨rfl, h0⟩ | ⟨g, cap, cur, rfl, _, _, hn, _⟩
  · exact Good.nil
  · exact Good.some _ hn

/-- A slice value, with the integers that it reads as. -/
abbrev Row := Value × List Int
/-- What is told of a row beside others. -/
def RowOk (w : World) (p : Row) : Prop := Ints w p.1 p.2 ∧ Good p.1 ∧ ∀ g, p.1.ownBlock = some g → g < w.heap.size
theorem RowOk.kept {w w' : World} {p : Row} {row : Option Nat} (h : RowOk w p) (g : w.grownBy w' row) (hr : ∀ k, row = some k → p.1.ownBlock ≠ some k) : RowOk w' p :=
  ⟨h.1.kept g hr, h.2.1, fun k hk => Nat.lt_of_lt_of_le (h.2.2 k hk) g.size⟩
theorem RowOk.same {w w' : World} {p : Row} (h : RowOk w p) (g : w.grownBy w' none) : RowOk w' p := h.kept g (by simp)
theorem OwnI.row {w : World} {base : Nat} {v : Value} {xs : List Int} (h : OwnI w base v xs) (hb : ∀ x ∈ xs, -9223372036854775808 ≤ x ∧ x ≤ 9223372036854775807) : RowOk w (v, xs) :=
  ⟨h.ints hb, h.good, fun g hg => (h.fresh g hg).2⟩

/-- v reads as a slice of slices. -/
def RowsP (w : World) (v : Value) (ps : List Row) : Prop :=
  ∃ a cap, v = .slice a ps.length cap ∧ ps.length ≤ maxLen ∧ (ps = [] ∨ ∃ b off, a = some ⟨b, off, none⟩ ∧ ∀ i, i < ps.length → w.cell? ⟨b, off + i, none⟩ = some (ps[i]?.map Prod.fst |>.getD (.slice none 0 0))) ∧ ∀ p ∈ ps, RowOk w p
theorem RowsP.same {w w' : World} {v : Value} {ps : List Row} (h : RowsP w v ps) (g : w.grownBy w' none) : RowsP w' v ps := by
  obtain ⟨a, cap, hv, hl, hc, hp⟩ := h
  refine ⟨a, cap, hv, hl, ?_, fun p hp' => (hp p hp').same g⟩
  rcases hc with hc | ⟨b, off, ha, hc⟩
  · exact .inl hc
  · exact .inr ⟨b, off, ha, fun i hi => g.cell (hc i hi) (by simp)⟩
theorem RowsP.at {w : World} {a : Option Addr} {ps : List Row} {k : Nat}
    (hc : ps = [] ∨ ∃ b off, a = some ⟨b, off, none⟩ ∧ ∀ i, i < ps.length → w.cell? ⟨b, off + i, none⟩ = some (ps[i]?.map Prod.fst |>.getD (.slice none 0 0))) (h : k < ps.length) :
    ∃ b off, a = some ⟨b, off, none⟩ ∧ w.cell? ⟨b, off + k, none⟩ = some (ps[k]).1 := by
  rcases hc with rfl | ⟨b, off, rfl, hc⟩
  · simp at h
  · exact ⟨b, off, rfl, by rw [hc k h]; simp [h]⟩
theorem rows_blk {w : World} {g : Nat} {cs : Array Value} {e : TypeId} {f : Nat × Nat} (ps : List Row) (n cap : Nat) (h : w.heap[g]? = some (.cells cs e f)) (hn : ps.length = n) (hm : n ≤ maxLen)
    (hc : cs.toList.take n = ps.map Prod.fst) (hp : ∀ p ∈ ps, RowOk w p) : RowsP w (.slice (some ⟨g, 0, none⟩) n cap) ps := by
  subst hn
  refine ⟨_, cap, rfl, hm, .inr ⟨g, 0, rfl, fun i hi => ?_⟩, hp⟩
  simp only [World.cell?, h, Nat.zero_add]
  have h1 : (cs.toList.take ps.length)[i]? = (ps.map Prod.fst)[i]? := by rw [hc]
  rw [List.getElem?_take, if_pos hi] at h1
  simp only [Array.getElem?_toList] at h1
  simp only [Option.isSome_none, Bool.false_eq_true, if_false]
  rw [h1]
  simp [hi]

/-- A slice of slices of the call's own. -/
def OwnP (w : World) (base : Nat) (v : Value) (ps : List Row) : Prop :=
  w.ownsRow base 30 1 v ps.length (ps.map Prod.fst) ∧ ∀ p ∈ ps, RowOk w p ∧ ∀ g, p.1.ownBlock = some g → v.ownBlock ≠ some g
theorem OwnP.nil (w : World) (base : Nat) : OwnP w base (.slice none 0 0) [] := ⟨World.ownsRow_nil w base _ _, by simp⟩
theorem OwnP.fresh {w : World} {base : Nat} {v : Value} {ps : List Row} (h : OwnP w base v ps) : ∀ g, v.ownBlock = some g → base ≤ g ∧ g < w.heap.size := World.ownsRow.lt h.1
theorem OwnP.same {w w' : World} {base : Nat} {v : Value} {ps : List Row} (h : OwnP w base v ps) (g : w.grownBy w' none) : OwnP w' base v ps := by
  refine ⟨World.ownsRow.kept h.1 g ?_, fun p hp => ⟨(h.2 p hp).1.same g, (h.2 p hp).2⟩⟩
  cases v.ownBlock
  · exact .inl rfl
  · exact .inr (by simp)
theorem OwnP.mono {w : World} {base base' : Nat} {v : Value} {ps : List Row} (h : OwnP w base v ps) (hb : base' ≤ base) : OwnP w base' v ps := by
  refine ⟨⟨h.1.1, ?_⟩, h.2⟩
  rcases h.1.2 with h1 | ⟨g, cap, cur, h1, h2, h3⟩
  · exact .inl h1
  · exact .inr ⟨g, cap, cur, h1, Nat.le_trans hb h2, h3⟩
theorem OwnI.mono {w : World} {base base' : Nat} {v : Value} {xs : List Int} (h : OwnI w base v xs) (hb : base' ≤ base) : OwnI w base' v xs := by
  refine ⟨h.1, ?_⟩
  rcases h.2 with h1 | ⟨g, cap, cur, h1, h2, h3⟩
  · exact .inl h1
  · exact .inr ⟨g, cap, cur, h1, Nat.le_trans hb h2, h3⟩
theorem OwnP.rows {w : World} {base : Nat} {v : Value} {ps : List Row} (h : OwnP w base v ps) : RowsP w v ps := by
  rcases h.1.2 with ⟨rfl, h0⟩ | ⟨g, cap, cur, rfl, hg, hh, hn, hm, hs, ht⟩
  · have : ps = [] := List.eq_nil_of_length_eq_zero h0
    subst this
    exact ⟨none, 0, rfl, Nat.zero_le _, .inl rfl, by simp⟩
  · refine ⟨_, cap, rfl, Nat.le_trans hn hm, .inr ⟨g, 0, rfl, fun i hi => ?_⟩, fun p hp => (h.2 p hp).1⟩
    have := World.ownsRow.cellAt h.1 i (by omega)
    rw [Nat.zero_add, this]
    simp [hi]
theorem OwnP.slice {w : World} {base : Nat} {v : Value} {ps : List Row} (h : OwnP w base v ps) : ∃ a cap, v = .slice a ps.length cap := by
  rcases h.1.2 with ⟨rfl, h0⟩ | ⟨g, cap, cur, rfl, _⟩
  · exact ⟨none, 0, by rw [h0]⟩
  · exact ⟨_, cap, rfl⟩

/-- A vector that a call makes. -/
def Made (xs : List Int) (w : World) (e : Ending) (w' : World) : Prop := ∃ v, e = .returned v ∧ OwnI w' w.heap.size v xs ∧ w.grownBy w' none

theorem info_row : (Try.prog.info? 30).map (fun i => (i.zero, i.size, i.bytes)) = some (some (.slice none 0 0), 1, 24) := by kernel_rfl

theorem slice_one {w : World} {p : Row} (h : RowOk w p) : p.1.oneCell' = true := by
  obtain ⟨⟨a, cap, hv, -⟩, -⟩ := h
  rw [hv]; rfl

/-- One more row. -/
theorem app_row {ops : Array Oper} {rest : List Oper} {o : Oper} {a : Act} {w : World} {Q : Exit → Act → World → Prop} (hgd : o.guard = none) (s x : Operand)
    (ho : o.op = .call { callee := .builtin .append, args := #[s, x], argTypes := #[44, 44] }) (base : Nat) (v : Value) (ps : List Row) (hs : a.eval s = v)
    (hown : OwnP w base v ps) (b : Nat) (p : Row) (hx : a.eval x = .slice (some ⟨b, 0, none⟩) 1 1) (hnew : w.cell? ⟨b, 0, none⟩ = some p.1) (hp : RowOk w p) (hd : ∀ g, p.1.ownBlock = some g → v.ownBlock ≠ some g)
    (hlen : ps.length ≤ 1000000000000) (hbase : base ≤ w.heap.size)
    (h : ∀ v' w', OwnP w' base v' (ps ++ [p]) → w.grownBy w' v.ownBlock → wpList Try.prog ops Q rest (a.put o.dst v') w') : wpList Try.prog ops Q (o :: rest) a w := by
  obtain ⟨i, hi, hz0, hz1, hz2⟩ := info_parts info_row
  refine wpList_plain hgd fun K hK => wp_append_lies w s x 44 ho base 30 i (.slice none 0 0) 1 24 Try.underlying44 hi hz0 hz1 hz2 rfl (by decide) v ps.length (ps.map Prod.fst) hs hown.1 ⟨b, 0, none⟩ 1 1 [p.1] hx rfl ?_ ?_ (by decide) ?_ ?_ hbase w.heap.size rfl ?_
  · intro j u hu
    cases j with
    | zero => simp at hu; subst hu; simpa [Addr.add] using hnew
    | succ j => simp at hu
  · intro u hu; simp at hu; subst hu; exact slice_one hp
  · unfold maxLen; omega
  · omega
  · intro g cap w' h1 h2 h3 _
    refine hK _ _ (h _ w' ⟨by simpa using h1, ?_⟩ h2)
    intro q hq
    have hq' : RowOk w q ∧ ∀ g, q.1.ownBlock = some g → v.ownBlock ≠ some g := by
      rcases List.mem_append.1 hq with hq | hq
      · exact hown.2 q hq
      · rw [List.mem_singleton.1 hq]; exact ⟨hp, hd⟩
    refine ⟨hq'.1.kept h2 (fun k hk e => hq'.2 k e hk), fun g' hg e => ?_⟩
    simp only [Value.ownBlock, Option.some.injEq] at e
    subst e
    rcases h3 with h3 | h3
    · exact hq'.2 _ hg h3
    · have := hq'.1.2.2 _ hg; omega

/-- All of a row behind a row of the call's own. -/
theorem app_ints {ops : Array Oper} {rest : List Oper} {o : Oper} {a : Act} {w : World} {Q : Exit → Act → World → Prop} (hgd : o.guard = none) (s x : Operand)
    (ho : o.op = .call { callee := .builtin .append, args := #[s, x], argTypes := #[30, 30] }) (base : Nat) (v : Value) (xs : List Int) (hs : a.eval s = v)
    (hown : OwnI w base v xs) (u : Value) (ys : List Int) (hx : a.eval x = u) (hu : Ints w u ys) (hgu : Good u) (hlen : xs.length + ys.length ≤ 1000000000000) (hbase : base ≤ w.heap.size)
    (h : ∀ v' w', OwnI w' base v' (xs ++ ys) → w.grownBy w' v.ownBlock → wpList Try.prog ops Q rest (a.put o.dst v') w') : wpList Try.prog ops Q (o :: rest) a w := by
  obtain ⟨i, hi, hz0, hz1, hz2⟩ := info_parts info_int
  obtain ⟨au, cu, rfl, hm, hb, hc⟩ := hu
  have one : ∀ z : Value, (∃ y, z = .int .i64 y) → z.oneCell' = true := by rintro _ ⟨y, rfl⟩; rfl
  cases au with
  | none =>
    obtain ⟨h0, rfl⟩ := hgu.1 _ _ rfl
    have : ys = [] := List.eq_nil_of_length_eq_zero h0
    subst this
    refine wpList_append_own_none hgd s x 30 ho base 3 i 1 Try.underlying30 hi v xs.length (xs.map (Value.int .i64)) hs hown hx ?_
    exact h v w (by rw [List.append_nil]; exact hown) (grown_refl _ _)
  | some ad =>
    refine wpList_append_own (w := w) hgd s x 30 ho base 3 i (.int .i64 0) 1 8 Try.underlying30 hi hz0 hz1 hz2 rfl (by decide) v xs.length (xs.map (Value.int .i64)) hs hown ad ys.length cu (ys.map (Value.int .i64)) hx (by simp) ?_ ?_ ?_ ?_ hbase ?_
    · intro j z hz
      rcases hc with rfl | ⟨b, off, hab, hc⟩
      · simp at hz
      · have hj : j < ys.length := by
          rcases Nat.lt_or_ge j ys.length with h1 | h1
          · exact h1
          · rw [List.getElem?_eq_none (by simpa using h1)] at hz; cases hz
        simp only [Option.some.injEq] at hab
        subst hab
        rw [show (Addr.mk b off none).add j = ⟨b, off + j, none⟩ by unfold Addr.add; split <;> simp_all, hc j hj, ← hz]
        simp [hj]
    · intro z hz
      obtain ⟨y, -, rfl⟩ := List.mem_map.1 hz
      exact one _ ⟨y, rfl⟩
    · unfold maxLen; omega
    · omega
    · intro v' w' h1 h2 _
      refine h v' w' ?_ h2
      unfold OwnI
      simpa using h1

/-- slices.Grow of nothing. -/
theorem grow_nil (n : Nat) (w : World) (hn : n ≤ 1000000000000) :
    Calls Try.prog 66 #[.slice none 0 0, .int .i64 (n : Int)] w (Made [] w) := by
  obtain ⟨i, hi, hz0, hz1, hz2⟩ := info_parts info_int
  rcases Nat.eq_zero_or_pos n with rfl | hpos
  · refine (Any8.slices_Grow_room Try.grow66 none 0 0 0 w (by omega) (by omega) (by omega) (by omega)).mono ?_
    rintro e w' ⟨rfl, rfl⟩
    exact ⟨_, rfl, OwnI.nil _ _, grown_refl _ _⟩
  · refine (Any8.slices_Grow_grow Try.grow66 i (.int .i64 0) hi hz0 (by rw [hz1]; decide) none 0 0 n [] w (by omega) (by omega) (by rw [hz2]; omega) (by omega) (by simp) (fun _ => rfl) (by intro a h; cases h)).mono ?_
    rintro e w' ⟨rfl, rfl⟩
    refine ⟨_, rfl, ?_, grown_trans (grown_drew _ _) (World.grownBy_alloc _ _ _)⟩
    refine World.ownsRow_made (w := w.drew) (base := w.heap.size) _ _ (Nat.le_refl _) ?_ ?_
    · exact grownCap_le_maxLen _ _ _ _ (by unfold maxLen; omega)
    · have := grownCap_ge w n 0 (Try.grow66_ren.t 25)
      simp [size_zeroCells, Value.cells]
      omega

end Go.Proofs.Ytelpkcndbcfaiaa
