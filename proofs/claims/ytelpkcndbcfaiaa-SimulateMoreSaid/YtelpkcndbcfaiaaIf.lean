/- Arcs, rows of arcs and configurations, appended; rows of arcs of the call's own. -/
import Derived.Test.YtelpkcndbcfaiaaIc
import Derived.Test.YtelpkcndbcfaiaaIe
namespace Go.Proofs.Ytelpkcndbcfaiaa
open Go.RowKit
set_option linter.unusedVariables false
theorem info_arc : (Try.prog.info? 61).map (fun i => (i.zero, i.size, i.bytes)) = some (some (.agg #[.int .i64 0, .int .i64 0]), 2, 16) := by kernel_rfl
theorem app_arc {ops : Array Oper} {rest : List Oper} {o : Oper} {a : Act} {w : World} {Q : Exit → Act → World → Prop} (hgd : o.guard = none) (s x : Operand)
    (ho : o.op = .call { callee := .builtin .append, args := #[s, x], argTypes := #[59, 59] }) (base : Nat) (v : Value) (n : Nat) (xs : List Value) (hs : a.eval s = v)
    (hown : w.ownsRow base 61 2 v n xs) (b : Nat) (cs : List Value) (hcs : cs.length = 2) (hone : ∀ u ∈ cs, u.oneCell' = true) (hx : a.eval x = .slice (some ⟨b, 0, none⟩) 1 1) (hnew : w.heap[b]? = some (.cells cs.toArray 61 (0, 0)))
    (hlen : n ≤ 1000000) (hbase : base ≤ w.heap.size)
    (h : ∀ a' cap' w', w'.ownsRow base 61 2 (.slice a' (n + 1) cap') (n + 1) (xs ++ cs) → w.grownBy w' v.ownBlock → wpList Try.prog ops Q rest (a.put o.dst (.slice a' (n + 1) cap')) w') : wpList Try.prog ops Q (o :: rest) a w := by
  obtain ⟨i, hi, hz0, hz1, hz2⟩ := info_parts info_arc
  refine wpList_append_own (w := w) hgd s x 59 ho base 61 i _ 2 16 Try.underlying59 hi hz0 hz1 hz2 rfl (by decide) v n xs hs hown ⟨b, 0, none⟩ 1 1 cs hx (by rw [hcs]) ?_ hone ?_ ?_ hbase ?_
  · intro j u hu
    have e : (⟨b, 0, none⟩ : Addr).add j = ⟨b, j, none⟩ := by simp [Addr.add]; omega
    rw [e]
    unfold World.cell?
    dsimp only
    rw [hnew]
    simpa using hu
  · unfold maxLen; omega
  · omega
  · intro v' w' h1 h2 _
    rcases h1.2 with ⟨_, h3⟩ | ⟨g, cap, cur, rfl, _⟩
    · omega
    · exact h _ cap w' h1 h2
theorem info_arow : (Try.prog.info? 59).map (fun i => (i.zero, i.size, i.bytes)) = some (some (.slice none 0 0), 1, 24) := by kernel_rfl
theorem app_arow {ops : Array Oper} {rest : List Oper} {o : Oper} {a : Act} {w : World} {Q : Exit → Act → World → Prop} (hgd : o.guard = none) (s x : Operand)
    (ho : o.op = .call { callee := .builtin .append, args := #[s, x], argTypes := #[23, 23] }) (base : Nat) (v : Value) (n : Nat) (xs : List Value) (hs : a.eval s = v)
    (hown : w.ownsRow base 59 1 v n xs) (b : Nat) (cs : List Value) (hcs : cs.length = 1) (hone : ∀ u ∈ cs, u.oneCell' = true) (hx : a.eval x = .slice (some ⟨b, 0, none⟩) 1 1) (hnew : w.heap[b]? = some (.cells cs.toArray 59 (0, 0)))
    (hlen : n ≤ 1000000) (hbase : base ≤ w.heap.size)
    (h : ∀ a' cap' w', w'.ownsRow base 59 1 (.slice a' (n + 1) cap') (n + 1) (xs ++ cs) → w.grownBy w' v.ownBlock → wpList Try.prog ops Q rest (a.put o.dst (.slice a' (n + 1) cap')) w') : wpList Try.prog ops Q (o :: rest) a w := by
  obtain ⟨i, hi, hz0, hz1, hz2⟩ := info_parts info_arow
  refine wpList_append_own (w := w) hgd s x 23 ho base 59 i _ 1 24 Try.underlying23 hi hz0 hz1 hz2 rfl (by decide) v n xs hs hown ⟨b, 0, none⟩ 1 1 cs hx (by rw [hcs]) ?_ hone ?_ ?_ hbase ?_
  · intro j u hu
    have e : (⟨b, 0, none⟩ : Addr).add j = ⟨b, j, none⟩ := by simp [Addr.add]; omega
    rw [e]
    unfold World.cell?
    dsimp only
    rw [hnew]
    simpa using hu
  · unfold maxLen; omega
  · omega
  · intro v' w' h1 h2 _
    rcases h1.2 with ⟨_, h3⟩ | ⟨g, cap, cur, rfl, _⟩
    · omega
    · exact h _ cap w' h1 h2
theorem info_cfg : (Try.prog.info? 65).map (fun i => (i.zero, i.size, i.bytes)) = some (some (.agg #[.int .i64 0, .slice none 0 0]), 2, 32) := by kernel_rfl
theorem app_cfg {ops : Array Oper} {rest : List Oper} {o : Oper} {a : Act} {w : World} {Q : Exit → Act → World → Prop} (hgd : o.guard = none) (s x : Operand)
    (ho : o.op = .call { callee := .builtin .append, args := #[s, x], argTypes := #[26, 26] }) (base : Nat) (v : Value) (n : Nat) (xs : List Value) (hs : a.eval s = v)
    (hown : w.ownsRow base 65 2 v n xs) (b : Nat) (cs : List Value) (hcs : cs.length = 2) (hone : ∀ u ∈ cs, u.oneCell' = true) (hx : a.eval x = .slice (some ⟨b, 0, none⟩) 1 1) (hnew : w.heap[b]? = some (.cells cs.toArray 65 (0, 0)))
    (hlen : n ≤ 1000000) (hbase : base ≤ w.heap.size)
    (h : ∀ a' cap' w', w'.ownsRow base 65 2 (.slice a' (n + 1) cap') (n + 1) (xs ++ cs) → w.grownBy w' v.ownBlock → wpList Try.prog ops Q rest (a.put o.dst (.slice a' (n + 1) cap')) w') : wpList Try.prog ops Q (o :: rest) a w := by
  obtain ⟨i, hi, hz0, hz1, hz2⟩ := info_parts info_cfg
  refine wpList_append_own (w := w) hgd s x 26 ho base 65 i _ 2 32 Try.underlying26 hi hz0 hz1 hz2 rfl (by decide) v n xs hs hown ⟨b, 0, none⟩ 1 1 cs hx (by rw [hcs]) ?_ hone ?_ ?_ hbase ?_
  · intro j u hu
    have e : (⟨b, 0, none⟩ : Addr).add j = ⟨b, j, none⟩ := by simp [Addr.add]; omega
    rw [e]
    unfold World.cell?
    dsimp only
    rw [hnew]
    simpa using hu
  · unfold maxLen; omega
  · omega
  · intro v' w' h1 h2 _
    rcases h1.2 with ⟨_, h3⟩ | ⟨g, cap, cur, rfl, _⟩
    · omega
    · exact h _ cap w' h1 h2
def flatA (l : List Ar) : List Value := l.flatMap (fun p => [.int .i64 p.1, .int .i64 p.2])
theorem flatA_app (a b : List Ar) : flatA (a ++ b) = flatA a ++ flatA b := by simp [flatA]
theorem flatA_at : ∀ (l : List Ar) (i : Nat), (flatA l)[i * 2]? = (l[i]?.map (fun p => Value.int .i64 p.1)) ∧ (flatA l)[i * 2 + 1]? = (l[i]?.map (fun p => Value.int .i64 p.2))
  | [], i => by simp [flatA]
  | t :: l, 0 => by simp [flatA]
  | t :: l, i + 1 => by
    have h := flatA_at l i
    have e : ∀ k, (flatA (t :: l))[k + 2]? = (flatA l)[k]? := fun k => by
      show ([.int .i64 t.1, .int .i64 t.2] ++ flatA l)[k + 2]? = _
      rw [List.getElem?_append_right (by simp)]
      simp
    rw [show (i + 1) * 2 = i * 2 + 2 by omega, show i * 2 + 2 + 1 = i * 2 + 1 + 2 by omega, e, e]
    simpa using h
/-- v is a list of arcs of the call's own. -/
def OwnA (w : World) (base : Nat) (v : Value) (l : List Ar) : Prop := w.ownsRow base 61 2 v l.length (flatA l)
theorem OwnA.nil (w : World) (base : Nat) : OwnA w base (.slice none 0 0) [] := World.ownsRow_nil w base _ _
theorem OwnA.kept {w w' : World} {base : Nat} {v : Value} {l : List Ar} {row : Option Nat} (h : OwnA w base v l) (g : w.grownBy w' row) (hr : ∀ k, row = some k → v.ownBlock ≠ some k) : OwnA w' base v l := by
  refine World.ownsRow.kept h g ?_
  cases hv : v.ownBlock with
  | none => exact .inl rfl
  | some k => exact .inr (fun e => hr k e.symm hv)
theorem OwnA.arcs {w : World} {base : Nat} {v : Value} {l : List Ar} (h : OwnA w base v l) : ArcsR w v l := by
  rcases h.2 with ⟨rfl, h0⟩ | ⟨g, cap, cur, rfl, hg, hh, hn, hm, hs, ht⟩
  · have : l = [] := List.eq_nil_of_length_eq_zero h0
    subst this
    exact ⟨none, 0, rfl, Nat.zero_le _, .inl rfl⟩
  · refine ⟨_, cap, rfl, Nat.le_trans hn hm, .inr ⟨g, 0, rfl, fun i hi => ?_⟩⟩
    have h3 := flatA_at l i
    rw [Nat.zero_add, World.ownsRow.cellAt h _ (by omega), World.ownsRow.cellAt h _ (by omega)]
    exact h3
theorem OwnA.slice {w : World} {base : Nat} {v : Value} {l : List Ar} (h : OwnA w base v l) : ∃ a cap, v = .slice a l.length cap := by
  obtain ⟨a, cap, e, -⟩ := h.arcs
  exact ⟨a, cap, e⟩
theorem OwnA.fresh {w : World} {base : Nat} {v : Value} {l : List Ar} (h : OwnA w base v l) : ∀ g, v.ownBlock = some g → base ≤ g ∧ g < w.heap.size := World.ownsRow.lt h
theorem own_slice {w : World} {base n sz : Nat} {e : TypeId} {v : Value} {xs : List Value} (h : w.ownsRow base e sz v n xs) : ∃ a cap, v = .slice a n cap := by
  rcases h.2 with ⟨rfl, h0⟩ | ⟨g, cap, cur, rfl, _⟩
  · exact ⟨none, 0, by rw [h0]⟩
  · exact ⟨_, cap, rfl⟩
/-- Rows of other elements lie in other blocks. -/
theorem own_ne {w : World} {base base' n n' sz sz' : Nat} {e e' : TypeId} {v v' : Value} {xs xs' : List Value} (h : w.ownsRow base e sz v n xs) (h' : w.ownsRow base' e' sz' v' n' xs') (hne : e ≠ e') : v.ownBlock = none ∨ v.ownBlock ≠ v'.ownBlock := by
  cases hb : v.ownBlock with
  | none => exact .inl rfl
  | some b =>
    refine .inr (fun eq => hne ?_)
    rcases h.2 with ⟨rfl, _⟩ | ⟨g, cap, cur, rfl, _, hh, _⟩
    · simp [Value.ownBlock] at hb
    · simp only [Value.ownBlock, Option.some.injEq] at hb
      subst hb
      rcases h'.2 with ⟨rfl, _⟩ | ⟨g', cap', cur', rfl, _, hh', _⟩
      · simp [Value.ownBlock] at eq
      · simp only [Value.ownBlock, Option.some.injEq] at eq
        subst eq
        rw [hh] at hh'
        simp only [Option.some.injEq, Obj.cells.injEq] at hh'
        exact hh'.2.1
theorem own_base {w : World} {base base' n sz : Nat} {e : TypeId} {v : Value} {xs : List Value} (h : w.ownsRow base e sz v n xs) (hb : base' ≤ base) : w.ownsRow base' e sz v n xs := by
  refine ⟨h.1, ?_⟩
  rcases h.2 with h0 | ⟨g, cap, cur, rfl, h1, h2⟩
  · exact .inl h0
  · exact .inr ⟨g, cap, cur, rfl, Nat.le_trans hb h1, h2⟩
/-- What Graph holds between two of its steps: its boxes are the blocks H and H + 1. -/
structure GrI (wr : World) (d H : Nat) (cv av : Value) (nC : Nat) (ls : List ArcP) : Prop where
  lt : d < H
  sz : H + 2 ≤ wr.heap.size
  r : wr.heap[H]? = some (.cells #[.slice none 0 0, .slice none 0 0] 28 (0, 0))
  g : wr.heap[H + 1]? = some (.cells #[cv, av] 28 (0, 0))
  c : ∃ cs, wr.ownsRow (H + 2) 65 2 cv nC cs
  a : wr.ownsRow (H + 2) 59 1 av ls.length (ls.map Prod.fst)
  rows : ∀ q ∈ ls, OwnA wr (H + 2) q.1 q.2
theorem GrI.keep {wr w' : World} {d H : Nat} {cv av : Value} {nC : Nat} {ls : List ArcP} {row : Option Nat} (h : GrI wr d H cv av nC ls) (g : wr.grownBy w' row) (h0 : row ≠ some H) (h1 : row ≠ some (H + 1)) (hc : cv.ownBlock = none ∨ cv.ownBlock ≠ row) (ha : av.ownBlock = none ∨ av.ownBlock ≠ row) (hr : ∀ q ∈ ls, q.1.ownBlock = none ∨ q.1.ownBlock ≠ row) : GrI w' d H cv av nC ls := by
  have hsz := h.sz
  obtain ⟨cs, h2⟩ := h.c
  exact ⟨h.lt, Nat.le_trans hsz g.size, by rw [g.block H (by omega) (fun e => h0 e.symm)]; exact h.r, by rw [g.block (H + 1) (by omega) (fun e => h1 e.symm)]; exact h.g, ⟨cs, h2.kept g hc⟩, h.a.kept g ha, fun q hq => World.ownsRow.kept (h.rows q hq) g (hr q hq)⟩
theorem GrI.kept {wr w' : World} {d H : Nat} {cv av : Value} {nC : Nat} {ls : List ArcP} {row : Option Nat} (h : GrI wr d H cv av nC ls) (g : wr.grownBy w' row) (hr : ∀ k, row = some k → k = d ∨ wr.heap.size ≤ k) : GrI w' d H cv av nC ls := by
  have hlt := h.lt; have hsz := h.sz
  have no : ∀ v : Value, (∀ k, v.ownBlock = some k → H + 2 ≤ k ∧ k < wr.heap.size) → v.ownBlock = none ∨ v.ownBlock ≠ row := fun v hv => by
    cases hb : v.ownBlock with
    | none => exact .inl rfl
    | some k => have := hv k hb; exact .inr (fun e => by rcases hr k e.symm with h3 | h3 <;> omega)
  obtain ⟨cs, hc⟩ := h.c
  exact h.keep g (fun e => by rcases hr _ e with h3 | h3 <;> omega) (fun e => by rcases hr _ e with h3 | h3 <;> omega) (no _ hc.lt) (no _ h.a.lt) (fun q hq => no _ (h.rows q hq).fresh)
theorem own_high {w : World} {H n sz : Nat} {e : TypeId} {v : Value} {xs : List Value} (h : w.ownsRow (H + 2) e sz v n xs) (k : Nat) (hk : k ≤ H + 1) : v.ownBlock = none ∨ v.ownBlock ≠ some k := by
  cases hb : v.ownBlock with
  | none => exact .inl rfl
  | some b => exact .inr (fun e => by cases e; have := (h.lt _ hb).1; omega)
theorem own_high' {w : World} {H n sz : Nat} {e : TypeId} {v : Value} {xs : List Value} (h : w.ownsRow (H + 2) e sz v n xs) (k : Nat) (hk : k ≤ H + 1) : v.ownBlock ≠ some k := fun e => by have := (h.lt _ e).1; omega
theorem GrI.boxes {wr w' : World} {d H : Nat} {cv av : Value} {nC : Nat} {ls : List ArcP} {row : Option Nat} (h : GrI wr d H cv av nC ls) (g : wr.grownBy w' row) (h0 : row ≠ some H) (h1 : row ≠ some (H + 1)) :
    w'.heap[H]? = some (.cells #[.slice none 0 0, .slice none 0 0] 28 (0, 0)) ∧ w'.heap[H + 1]? = some (.cells #[cv, av] 28 (0, 0)) ∧ H + 2 ≤ w'.heap.size := by
  have hsz := h.sz
  exact ⟨by rw [g.block H (by omega) (fun e => h0 e.symm)]; exact h.r, by rw [g.block (H + 1) (by omega) (fun e => h1 e.symm)]; exact h.g, Nat.le_trans hsz g.size⟩
/-- A store into the box of the graph. -/
theorem gri_put {W : World} {d H o nC : Nat} {cv av cv' av' x : Value} {ls : List ArcP} {cs : List Value} (hlt : d < H) (hb : W.heap[H]? = some (.cells #[.slice none 0 0, .slice none 0 0] 28 (0, 0)) ∧ W.heap[H + 1]? = some (.cells #[cv, av] 28 (0, 0)) ∧ H + 2 ≤ W.heap.size)
    (hx : (#[cv, av] : Array Value).setIfInBounds o x = #[cv', av']) (hc : W.ownsRow (H + 2) 65 2 cv' nC cs) (ha : W.ownsRow (H + 2) 59 1 av' ls.length (ls.map Prod.fst)) (hr : ∀ q ∈ ls, OwnA W (H + 2) q.1 q.2) :
    GrI (W.setCell ⟨H + 1, o, none⟩ x) d H cv' av' nC ls := by
  have g := grown_set W ⟨H + 1, o, none⟩ x
  refine ⟨hlt, Nat.le_trans hb.2.2 g.size, ?_, ?_, ⟨cs, hc.kept g (own_high hc _ (Nat.le_refl _))⟩, ha.kept g (own_high ha _ (Nat.le_refl _)), fun q hq => World.ownsRow.kept (hr q hq) g (own_high (hr q hq) _ (Nat.le_refl _))⟩
  · rw [g.block H (by omega) (by simp)]; exact hb.1
  · rw [heap_set hb.2.1, hx]
/-- A configuration more. -/
theorem GrI.cfg {wr wb W6 : World} {d H : Nat} {cv cv' av : Value} {nC : Nat} {ls : List ArcP} {cs' : List Value} (h : GrI wr d H cv av nC ls) (g0 : wr.grownBy wb none) (g6 : wb.grownBy W6 cv.ownBlock) (ho : W6.ownsRow (H + 2) 65 2 cv' (nC + 1) cs') :
    GrI (W6.setCell ⟨H + 1, 0, none⟩ cv') d H cv' av (nC + 1) ls ∧ W6.heap[H + 1]? = some (.cells #[cv, av] 28 (0, 0)) := by
  have h1 := h.kept g0 (by simp)
  obtain ⟨cs, hc⟩ := h1.c
  have hb := h1.boxes g6 (own_high' hc H (by omega)) (own_high' hc (H + 1) (by omega))
  exact ⟨gri_put h.lt hb rfl ho (h1.a.kept g6 (own_ne h1.a hc (by decide))) (fun q hq => World.ownsRow.kept (h1.rows q hq) g6 (own_ne (h1.rows q hq) hc (by decide))), hb.2.1⟩
/-- A row of arcs more. -/
theorem GrI.arow {wr wb W6 : World} {d H B : Nat} {cv av av' lv : Value} {nC : Nat} {ls : List ArcP} {l : List Ar} (h : GrI wr d H cv av nC ls) (hB : H + 2 ≤ B) (hl : OwnA wr B lv l) (g0 : wr.grownBy wb none) (g6 : wb.grownBy W6 av.ownBlock) (ho : W6.ownsRow (H + 2) 59 1 av' (ls.length + 1) (ls.map Prod.fst ++ [lv])) :
    GrI (W6.setCell ⟨H + 1, 1, none⟩ av') d H cv av' nC (ls ++ [(lv, l)]) ∧ W6.heap[H + 1]? = some (.cells #[cv, av] 28 (0, 0)) := by
  have h1 := h.kept g0 (by simp)
  have hl1 : OwnA wb (H + 2) lv l := own_base (hl.kept g0 (by simp)) hB
  obtain ⟨cs, hc⟩ := h1.c
  have hb := h1.boxes g6 (own_high' h1.a H (by omega)) (own_high' h1.a (H + 1) (by omega))
  refine ⟨gri_put h.lt hb rfl (hc.kept g6 (own_ne hc h1.a (by decide))) ?_ (fun q hq => ?_), hb.2.1⟩
  · rw [List.length_append, List.map_append]
    exact ho
  · rcases List.mem_append.1 hq with hq | hq
    · exact World.ownsRow.kept (h1.rows q hq) g6 (own_ne (h1.rows q hq) h1.a (by decide))
    · rw [List.mem_singleton.1 hq]
      exact World.ownsRow.kept hl1 g6 (own_ne hl1 h1.a (by decide))
/-- All blocks that a law's call writes lie behind its start, or are the dice's. -/
theorem gri_grow {w wr W' : World} {d H : Nat} {row : Option Nat} (h : w.grownBy wr (some d)) (g : wr.grownBy W' row) (hr : ∀ k, row = some k → w.heap.size ≤ k) : w.grownBy W' (some d) := grown_then h g (fun k hk => .inl (hr k hk))
/-- A system of the call's own. -/
def SysB (base : Nat) (w : World) (v : Value) (ls : List ArcP) : Prop := w.ownsRow base 59 1 v ls.length (ls.map Prod.fst) ∧ ∀ q ∈ ls, OwnA w base q.1 q.2
theorem own_low {w : World} {base n sz : Nat} {e : TypeId} {v : Value} {xs : List Value} {row : Option Nat} (h : w.ownsRow base e sz v n xs) (hr : ∀ k, row = some k → k < base) : v.ownBlock = none ∨ v.ownBlock ≠ row := by
  cases hb : v.ownBlock with
  | none => exact .inl rfl
  | some b => exact .inr (fun e => by have h1 := (h.lt _ hb).1; have h2 := hr b e.symm; omega)
theorem SysB.kept {base : Nat} {w w' : World} {v : Value} {ls : List ArcP} {row : Option Nat} (h : SysB base w v ls) (g : w.grownBy w' row) (hr : ∀ k, row = some k → k < base) : SysB base w' v ls :=
  ⟨h.1.kept g (own_low h.1 hr), fun q hq => World.ownsRow.kept (h.2 q hq) g (own_low (h.2 q hq) hr)⟩
theorem SysB.same {base : Nat} {w w' : World} {v : Value} {ls : List ArcP} (h : SysB base w v ls) (g : w.grownBy w' none) : SysB base w' v ls := h.kept g (by simp)
theorem SysB.low {base base' : Nat} {w : World} {v : Value} {ls : List ArcP} (h : SysB base w v ls) (hb : base' ≤ base) : SysB base' w v ls := ⟨own_base h.1 hb, fun q hq => own_base (h.2 q hq) hb⟩
theorem SysB.sys {base : Nat} {w : World} {v : Value} {ls : List ArcP} (h : SysB base w v ls) : SysL w v ls := by
  obtain ⟨ha, hr⟩ := h
  rcases ha.2 with ⟨rfl, h0⟩ | ⟨g, cap, cur, rfl, hg, hh, hn, hm, hs, ht⟩
  · have : ls = [] := List.eq_nil_of_length_eq_zero h0
    subst this
    exact ⟨none, 0, rfl, Nat.zero_le _, .inl rfl, by simp⟩
  · refine ⟨_, cap, rfl, Nat.le_trans hn hm, .inr ⟨g, 0, rfl, fun i hi => ?_⟩, fun q hq => OwnA.arcs (hr q hq)⟩
    rw [Nat.zero_add, World.ownsRow.cellAt ha _ (by omega)]
    simp
end Go.Proofs.Ytelpkcndbcfaiaa
