/- Tables of Bools that a law builds. -/
import Derived.Test.YtelpkcndbcfaiaaJt
namespace Go.Proofs.Ytelpkcndbcfaiaa
open Go.RowKit
set_option linter.unusedVariables false
def OwnB (w : World) (base : Nat) (v : Value) (r : List Bool) : Prop := w.ownsRow base 4 1 v r.length (r.map Value.bool)
theorem OwnB.nil (w : World) (base : Nat) : OwnB w base (.slice none 0 0) [] := World.ownsRow_nil w base _ _
theorem OwnB.lo {w w' : World} {base : Nat} {v : Value} {r : List Bool} {row : Option Nat} (h : OwnB w base v r) (g : w.grownBy w' row) (hr : ∀ k, row = some k → k < base) : OwnB w' base v r := by
  refine World.ownsRow.kept h g ?_
  cases hv : v.ownBlock with
  | none => exact .inl rfl
  | some k =>
    refine .inr (fun e => ?_)
    have := hr k e.symm
    have := (World.ownsRow.lt h k hv).1
    omega
theorem OwnB.bools {w : World} {base : Nat} {v : Value} {r : List Bool} (h : OwnB w base v r) (hl : r.length ≤ 1000000) : BoolsR w v r := by
  rcases h.2 with ⟨rfl, h0⟩ | ⟨g, cap, cur, rfl, h1, h2, h3, h4, h5, h6⟩
  · obtain rfl := List.eq_nil_of_length_eq_zero h0
    exact ⟨none, 0, rfl, Nat.zero_le _, .inl rfl⟩
  · refine ⟨_, cap, rfl, by unfold maxLen; omega, .inr ⟨g, 0, rfl, fun i hi => ?_⟩⟩
    have := World.ownsRow.cellAt h i (by omega)
    rw [Nat.zero_add, this]
    simp
theorem app_bool {ops : Array Oper} {rest : List Oper} {o : Oper} {a : Act} {w : World} {Q : Exit → Act → World → Prop} (hgd : o.guard = none) (s x : Operand)
    (ho : o.op = .call { callee := .builtin .append, args := #[s, x], argTypes := #[51, 51] }) (base : Nat) (v : Value) (r : List Bool) (hs : a.eval s = v)
    (hown : OwnB w base v r) (b : Nat) (y : Bool) (hx : a.eval x = .slice (some ⟨b, 0, none⟩) 1 1) (hnew : w.heap[b]? = some (.cells #[.bool y] 4 (0, 0)))
    (hlen : r.length ≤ 1000000) (hbase : base ≤ w.heap.size)
    (h : ∀ v' w', OwnB w' base v' (r ++ [y]) → w.grownBy w' v.ownBlock → wpList Try.prog ops Q rest (a.put o.dst v') w') : wpList Try.prog ops Q (o :: rest) a w := by
  obtain ⟨i, hi, hz0, hz1, hz2⟩ := info_parts info_bool
  refine wpList_append_own (w := w) hgd s x 51 ho base 4 i _ 1 1 Try.underlying51 hi hz0 hz1 hz2 rfl (by decide) v r.length (r.map Value.bool) hs hown ⟨b, 0, none⟩ 1 1 [.bool y] hx rfl ?_ ?_ ?_ ?_ hbase ?_
  · intro j u hu
    cases j with
    | zero =>
      simp at hu; subst hu
      have e : (⟨b, 0, none⟩ : Addr).add 0 = ⟨b, 0, none⟩ := by simp [Addr.add]
      rw [e]
      unfold World.cell?
      dsimp only
      rw [hnew]
      rfl
    | succ j => simp at hu
  · intro u hu; simp at hu; subst hu; rfl
  · unfold maxLen; omega
  · omega
  · intro v' w' h1 h2 _
    refine h v' w' ?_ h2
    unfold OwnB
    rw [List.length_append, List.map_append]
    exact h1
theorem app_brow {ops : Array Oper} {rest : List Oper} {o : Oper} {a : Act} {w : World} {Q : Exit → Act → World → Prop} (hgd : o.guard = none) (s x : Operand)
    (ho : o.op = .call { callee := .builtin .append, args := #[s, x], argTypes := #[29, 29] }) (base : Nat) (v : Value) (n : Nat) (xs : List Value) (hs : a.eval s = v)
    (hown : w.ownsRow base 51 1 v n xs) (b : Nat) (cs : List Value) (hcs : cs.length = 1) (hone : ∀ u ∈ cs, u.oneCell' = true) (hx : a.eval x = .slice (some ⟨b, 0, none⟩) 1 1) (hnew : w.heap[b]? = some (.cells cs.toArray 51 (0, 0)))
    (hlen : n ≤ 1000000) (hbase : base ≤ w.heap.size)
    (h : ∀ a' cap' w', w'.ownsRow base 51 1 (.slice a' (n + 1) cap') (n + 1) (xs ++ cs) → w.grownBy w' v.ownBlock → wpList Try.prog ops Q rest (a.put o.dst (.slice a' (n + 1) cap')) w') : wpList Try.prog ops Q (o :: rest) a w := by
  obtain ⟨i, hi, hz0, hz1, hz2⟩ := info_parts info_brow
  refine wpList_append_own (w := w) hgd s x 29 ho base 51 i _ 1 24 Try.underlying29 hi hz0 hz1 hz2 rfl (by decide) v n xs hs hown ⟨b, 0, none⟩ 1 1 cs hx (by rw [hcs]) ?_ hone ?_ ?_ hbase ?_
  · intro j u hu
    have e : (⟨b, 0, none⟩ : Addr).add j = ⟨b, j, none⟩ := by simp [Addr.add]; omega
    rw [e]
    unfold World.cell?
    dsimp only
    rw [hnew]
    simpa using hu
  · unfold maxLen; omega
  · omega
  · intro v' w' h1 h2 _
    rcases h1.2 with ⟨_, h3⟩ | ⟨g, cap, cur, rfl, _⟩
    · omega
    · exact h _ cap w' h1 h2
/-- A table that a law builds: its rows are its own. -/
structure OwnT (w : World) (base : Nat) (v : Value) (rs : List BolP) : Prop where
  t : w.ownsRow base 51 1 v rs.length (rs.map Prod.fst)
  rows : ∀ q ∈ rs, OwnB w base q.1 q.2
theorem OwnT.nil (w : World) (base : Nat) : OwnT w base (.slice none 0 0) [] := ⟨World.ownsRow_nil w base _ _, by simp⟩
theorem OwnT.lo {w w' : World} {base : Nat} {v : Value} {rs : List BolP} {row : Option Nat} (h : OwnT w base v rs) (g : w.grownBy w' row) (hr : ∀ k, row = some k → k < base) : OwnT w' base v rs :=
  ⟨h.t.kept g (own_low h.t hr), fun q hq => (h.rows q hq).lo g hr⟩
/-- A write to a block that is newer than all of the table's. -/
theorem OwnT.hi {w w' : World} {base : Nat} {v : Value} {rs : List BolP} {row : Option Nat} (h : OwnT w base v rs) (g : w.grownBy w' row) (z : Nat) (hz : (∀ k, v.ownBlock = some k → k < z) ∧ ∀ q ∈ rs, ∀ k, q.1.ownBlock = some k → k < z) (hr : ∀ k, row = some k → z ≤ k) : OwnT w' base v rs := by
  have no : ∀ u : Value, (∀ k, u.ownBlock = some k → k < z) → u.ownBlock = none ∨ u.ownBlock ≠ row := fun u hu => by
    cases hb : u.ownBlock with
    | none => exact .inl rfl
    | some k => exact .inr (fun e => by have := hu k hb; have := hr k e.symm; omega)
  exact ⟨h.t.kept g (no v hz.1), fun q hq => World.ownsRow.kept (h.rows q hq) g (no _ (hz.2 q hq))⟩
theorem OwnT.below {w : World} {base : Nat} {v : Value} {rs : List BolP} (h : OwnT w base v rs) : (∀ k, v.ownBlock = some k → k < w.heap.size) ∧ ∀ q ∈ rs, ∀ k, q.1.ownBlock = some k → k < w.heap.size :=
  ⟨fun k hk => (h.t.lt k hk).2, fun q hq k hk => (World.ownsRow.lt (h.rows q hq) k hk).2⟩
/-- A row more. -/
theorem OwnT.more {w w1 w2 : World} {base B2 : Nat} {v v' rv : Value} {rs : List BolP} {r : List Bool} (h : OwnT w base v rs) (hr : OwnB w B2 rv r) (hB : base ≤ B2) (g1 : w.grownBy w1 none) (g2 : w1.grownBy w2 v.ownBlock) (ht : w2.ownsRow base 51 1 v' (rs.length + 1) (rs.map Prod.fst ++ [rv])) : OwnT w2 base v' (rs ++ [(rv, r)]) := by
  have h1 := h.lo g1 (by simp)
  have hr1 : OwnB w1 base rv r := own_base (hr.lo g1 (by simp)) hB
  refine ⟨by rw [List.length_append, List.map_append]; exact ht, fun q hq => ?_⟩
  rcases List.mem_append.1 hq with hq | hq
  · exact World.ownsRow.kept (h1.rows q hq) g2 (own_ne (h1.rows q hq) h1.t (by decide))
  · rw [List.mem_singleton.1 hq]
    exact World.ownsRow.kept hr1 g2 (own_ne hr1 h1.t (by decide))
theorem OwnT.rel {w : World} {base : Nat} {v : Value} {rs : List BolP} (h : OwnT w base v rs) (hl : rs.length ≤ 1000000) (hr : ∀ q ∈ rs, q.2.length ≤ 1000000) : RelR w v rs := by
  rcases h.t.2 with ⟨rfl, h0⟩ | ⟨g, cap, cur, rfl, h1, h2, h3, h4, h5, h6⟩
  · obtain rfl := List.eq_nil_of_length_eq_zero h0
    exact ⟨none, 0, rfl, Nat.zero_le _, .inl rfl, by simp⟩
  · refine ⟨_, cap, rfl, by unfold maxLen; omega, .inr ⟨g, 0, rfl, fun i hi => ?_⟩, fun q hq => (h.rows q hq).bools (hr q hq)⟩
    have := World.ownsRow.cellAt h.t i (by omega)
    rw [Nat.zero_add, this]
    simp
theorem BoxR.deal {w w' : World} {R n m d : Nat} {bs : List Nat} {rs : Rel} (h : BoxR w R n m bs rs) (g : w.grownBy w' (some d)) (hd : d < R) : BoxR w' R n m bs rs := by
  obtain ⟨cur, h1, h2, h3⟩ := h.head
  refine ⟨h.len, Nat.lt_of_lt_of_le h.sz g.size, ⟨cur, h1, by rw [g.block R h.sz (by simp; omega)]; exact h2, h3⟩, h.row, fun j hj hj' => ?_, fun b hb => ⟨(h.new b hb).1, Nat.lt_of_lt_of_le (h.new b hb).2 g.size⟩, h.nodup⟩
  have := h.new _ (List.getElem_mem hj)
  rw [g.block _ this.2 (by simp; omega)]
  exact h.rows j hj hj'
/-- What Holds says of the greatest simulation. -/
theorem hold_great {a b : Sys} {rs : Rel} {e : Int} (ha : VS a) (hb : VS b) (hg : GrT a b rs) (h : HoldI a b rs e) : e = (if atB rs 0 0 = true then 0 else 42) := by
  obtain ⟨h1, h2, h3⟩ := hg
  rcases h with ⟨hf, -⟩ | ⟨-, -, x, y, hx, hy, hat, hm⟩ | ⟨-, -, he⟩
  · exact absurd ⟨h1, h2⟩ hf
  · exfalso
    have hgr := (h3 x y hx hy).1 hat
    have : matchB (arcsOf a x) (arcsOf b y) rs = true := match_iff.2 (fun p hp => by
      obtain ⟨q, hq, e1, g2⟩ := gr_sim a b x y hx hy hgr p hp
      exact ⟨q, hq, e1, (h3 _ _ (ha.at hp) (hb.at hq)).2 g2⟩)
    rw [this] at hm
    cases hm
  · exact he
/-- A simulation is within the greatest one. -/
theorem hold_within {a b : Sys} {rs : Rel} (h : HoldI a b rs 0) : (rs.length = a.length ∧ ∀ r ∈ rs, r.length = b.length) ∧ atB rs 0 0 = true ∧ ∀ x y, x < a.length → y < b.length → atB rs x y = true → Gr a b x y := by
  rcases h with ⟨-, h⟩ | ⟨-, h, -⟩ | ⟨hf, hs, he⟩
  · cases h
  · cases h
  · refine ⟨hf, ?_, fun x y hx hy hat => ?_⟩
    · by_cases h0 : atB rs 0 0 = true
      · exact h0
      · rw [if_neg h0] at he; cases he
    · exact gr_of (R := fun x y => atB rs x y = true) (fun x y hx hy hr => match_iff.1 (hs x y hx hy hr)) hat
end Go.Proofs.Ytelpkcndbcfaiaa
