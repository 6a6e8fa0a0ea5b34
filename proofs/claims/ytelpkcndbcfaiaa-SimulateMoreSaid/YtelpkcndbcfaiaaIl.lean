/- Tables of Bools of the call's own, each row a block; the number of true values. -/
import Derived.Test.YtelpkcndbcfaiaaId
import Derived.Test.YtelpkcndbcfaiaaIg
import Derived.Laws.CopyOwn
import Derived.Deep.RegionLaw
namespace Go.Proofs.Ytelpkcndbcfaiaa
open Go.RowKit
set_option linter.unusedVariables false
theorem info_brow : (Try.prog.info? 51).map (fun i => (i.zero, i.size, i.bytes)) = some (some (.slice none 0 0), 1, 24) := by kernel_rfl
theorem make_relR {ops : Array Oper} {rest : List Oper} {o : Oper} {a : Act} {w : World} {Q : Exit → Act → World → Prop} (hgd : o.guard = none) (l c : Operand)
    (hop : o.op = Op.makeSlice 29 l c) (n : Nat) (hl : a.eval l = .int .i64 (n : Int)) (hc : a.eval c = .int .i64 (n : Int)) (hn : n ≤ 1000000000)
    (h : ∀ w', (∃ cur : List Value, cur.length = n ∧ w'.heap[w.heap.size]? = some (.cells cur.toArray 51 (0, 0))) → w.grownBy w' none → wpList Try.prog ops Q rest (a.put o.dst (.slice (some ⟨w.heap.size, 0, none⟩) n n)) w') :
    wpList Try.prog ops Q (o :: rest) a w := by
  obtain ⟨i, hi, hz0, hz1, hz2⟩ := info_parts info_brow
  refine wpList_make_full w hgd l c 29 hop w.heap.size 51 i (.slice none 0 0) 1 Try.underlying29 hi hz0 hz1 .i64 .i64 n n n hl hc rfl rfl (by rw [hz2]; omega) (by unfold maxLen; omega) (Nat.le_refl _) ?_
  intro w' h1 h2
  refine h w' ?_ h2
  rcases h1.2 with ⟨h', _⟩ | ⟨g, cap, cur, h', hg, hh, _, _, hs, _⟩
  · simp at h'
  · simp only [Value.slice.injEq, Option.some.injEq, Addr.mk.injEq, and_true, true_and] at h'
    obtain ⟨rfl, rfl⟩ := h'
    exact ⟨cur.toList, by simpa using hs, by simpa using hh⟩
/-- A table of Bools: block R holds its rows, each a block of its own. Of n rows the first ones are laid. -/
structure BoxR (w : World) (R n m : Nat) (bs : List Nat) (rs : Rel) : Prop where
  len : bs.length = rs.length
  sz : R < w.heap.size
  head : ∃ cur : List Value, cur.length = n ∧ w.heap[R]? = some (.cells cur.toArray 51 (0, 0)) ∧ ∀ (j : Nat) (h : j < bs.length), cur[j]? = some (.slice (some ⟨bs[j], 0, none⟩) m m)
  row : ∀ r ∈ rs, r.length = m
  rows : ∀ (j : Nat) (h : j < bs.length) (h' : j < rs.length), w.heap[bs[j]]? = some (.cells (rs[j].map Value.bool).toArray 4 (0, 0))
  new : ∀ b ∈ bs, R < b ∧ b < w.heap.size
  nodup : bs.Nodup
theorem BoxR.same {w w' : World} {R n m : Nat} {bs : List Nat} {rs : Rel} (h : BoxR w R n m bs rs) (g : w.grownBy w' none) : BoxR w' R n m bs rs := by
  obtain ⟨cur, h1, h2, h3⟩ := h.head
  refine ⟨h.len, Nat.lt_of_lt_of_le h.sz g.size, ⟨cur, h1, by rw [g.block R h.sz (by simp)]; exact h2, h3⟩, h.row, fun j hj hj' => ?_, fun b hb => ⟨(h.new b hb).1, Nat.lt_of_lt_of_le (h.new b hb).2 g.size⟩, h.nodup⟩
  rw [g.block _ (h.new _ (List.getElem_mem hj)).2 (by simp)]
  exact h.rows j hj hj'
theorem BoxR.nil {w w' : World} {n m : Nat} (h : ∃ cur : List Value, cur.length = n ∧ w'.heap[w.heap.size]? = some (.cells cur.toArray 51 (0, 0))) : BoxR w' w.heap.size n m [] [] := by
  obtain ⟨cur, h1, h2⟩ := h
  exact ⟨rfl, (Array.getElem?_eq_some_iff.1 h2).1, ⟨cur, h1, h2, fun j hj => by simp at hj⟩, by simp, fun j hj => by simp at hj, by simp, by simp⟩
/-- A row more. -/
theorem BoxR.more {w w1 : World} {R n m B : Nat} {bs : List Nat} {rs : Rel} (h : BoxR w R n m bs rs) (g : w.grownBy w1 none) (hB : w.heap.size ≤ B) (r : List Bool) (hr : r.length = m) (hb : w1.heap[B]? = some (.cells (r.map Value.bool).toArray 4 (0, 0))) (hk : rs.length < n) :
    BoxR (w1.setCell ⟨R, rs.length, none⟩ (.slice (some ⟨B, 0, none⟩) m m)) R n m (bs ++ [B]) (rs ++ [r]) := by
  have h1 := h.same g
  have gs := grown_set w1 ⟨R, rs.length, none⟩ (.slice (some ⟨B, 0, none⟩) m m)
  have hBs : B < w1.heap.size := (Array.getElem?_eq_some_iff.1 hb).1
  have hsz := h.sz
  obtain ⟨cur, c1, c2, c3⟩ := h1.head
  refine ⟨by rw [List.length_append, List.length_append, h.len]; rfl, Nat.lt_of_lt_of_le h1.sz gs.size, ⟨cur.set rs.length (.slice (some ⟨B, 0, none⟩) m m), by rw [List.length_set]; exact c1, ?_, fun j hj => ?_⟩, ?_, fun j hj hj' => ?_, fun b hb' => ?_, ?_⟩
  · rw [heap_set c2]; simp
  · rw [List.length_append] at hj
    by_cases e : j = rs.length
    · subst e
      rw [List.getElem?_set_self (by omega)]
      simp [← h.len]
    · rw [List.getElem?_set_ne (fun e2 => e e2.symm), c3 j (by have := h.len; simp at hj; omega)]
      rw [List.getElem_append_left]
  · intro q hq
    rcases List.mem_append.1 hq with hq | hq
    · exact h.row q hq
    · rw [List.mem_singleton.1 hq]; exact hr
  · have hl := h.len
    rw [List.length_append] at hj
    by_cases e : j = rs.length
    · subst e
      have e1 : (bs ++ [B])[rs.length] = B := by simp [← hl]
      have e2 : (rs ++ [r])[rs.length] = r := by simp
      rw [e1, e2, gs.block B hBs (by simp; omega)]
      exact hb
    · have hj2 : j < bs.length := by simp at hj; omega
      rw [List.getElem_append_left hj2, List.getElem_append_left (by omega)]
      have hn := h1.new _ (List.getElem_mem hj2)
      rw [gs.block _ hn.2 (by simp; omega)]
      exact h1.rows j hj2 (by omega)
  · rcases List.mem_append.1 hb' with hq | hq
    · exact ⟨(h1.new b hq).1, Nat.lt_of_lt_of_le (h1.new b hq).2 gs.size⟩
    · rw [List.mem_singleton.1 hq]; exact ⟨by omega, Nat.lt_of_lt_of_le hBs gs.size⟩
  · rw [List.nodup_append]
    refine ⟨h.nodup, by simp, fun a ha b hb' e => ?_⟩
    rw [List.mem_singleton.1 hb'] at e
    have := (h.new a ha).2
    omega
theorem row_drop {rs : Rel} {x y : Nat} (hx : x < rs.length) : dropB rs x y = rs.set x (rs[x].set y false) := by
  unfold dropB
  rw [List.getElem?_eq_getElem hx]
  rfl
/-- A value is struck out. -/
theorem BoxR.drop {w : World} {R n m : Nat} {bs : List Nat} {rs : Rel} (h : BoxR w R n m bs rs) {x y : Nat} (hx : x < bs.length) : BoxR (w.setCell ⟨bs[x], y, none⟩ (.bool false)) R n m bs (dropB rs x y) := by
  have gs := grown_set w ⟨bs[x], y, none⟩ (.bool false)
  have hl := h.len
  have hxr : x < rs.length := by omega
  obtain ⟨cur, c1, c2, c3⟩ := h.head
  have hn := h.new _ (List.getElem_mem hx)
  rw [row_drop hxr]
  refine ⟨by rw [List.length_set]; exact hl, Nat.lt_of_lt_of_le h.sz gs.size, ⟨cur, c1, by rw [gs.block R h.sz (by simp; omega)]; exact c2, c3⟩, fun r hr => ?_, fun j hj hj' => ?_, fun b hb => ⟨(h.new b hb).1, Nat.lt_of_lt_of_le (h.new b hb).2 gs.size⟩, h.nodup⟩
  · rcases List.mem_or_eq_of_mem_set hr with hr | rfl
    · exact h.row r hr
    · rw [List.length_set]; exact h.row _ (List.getElem_mem hxr)
  · have hj2 : j < rs.length := by omega
    by_cases e : x = j
    · subst e
      rw [List.getElem_set_self, heap_set (h.rows x hj hxr)]
      simp [List.map_set]
    · rw [List.getElem_set_ne e, gs.block _ (h.new _ (List.getElem_mem hj)).2 ?_]
      · exact h.rows j hj hj2
      · intro e2
        simp only [Option.some.injEq] at e2
        exact e ((List.getElem_inj h.nodup).1 e2.symm)
/-- The table with its values. -/
def tabB (m : Nat) (bs : List Nat) (rs : Rel) : List BolP := List.zipWith (fun b r => (Value.slice (some ⟨b, 0, none⟩) m m, r)) bs rs
theorem tab_len {m : Nat} {bs : List Nat} {rs : Rel} (h : bs.length = rs.length) : (tabB m bs rs).length = rs.length := by simp [tabB, h]
theorem tab_snd {m : Nat} : ∀ {bs : List Nat} {rs : Rel}, bs.length = rs.length → (tabB m bs rs).map Prod.snd = rs
  | [], [], _ => rfl
  | _ :: bs, _ :: rs, h => by
    have := tab_snd (m := m) (bs := bs) (rs := rs) (by simpa using h)
    show _ :: (tabB m bs rs).map Prod.snd = _
    rw [this]
theorem tab_at {m : Nat} {bs : List Nat} {rs : Rel} {i : Nat} (h : i < (tabB m bs rs).length) (h1 : i < bs.length) (h2 : i < rs.length) : (tabB m bs rs)[i] = (Value.slice (some ⟨bs[i], 0, none⟩) m m, rs[i]) := by
  have e : (tabB m bs rs)[i]? = some (Value.slice (some ⟨bs[i], 0, none⟩) m m, rs[i]) := by
    unfold tabB
    rw [List.getElem?_zipWith, List.getElem?_eq_getElem h1, List.getElem?_eq_getElem h2]
  rw [List.getElem?_eq_getElem h] at e
  exact Option.some.inj e
theorem tab_row {m : Nat} {bs : List Nat} {rs : Rel} {q : BolP} (hl : bs.length = rs.length) (h : q ∈ tabB m bs rs) : q.2 ∈ rs := by
  obtain ⟨i, hi, rfl⟩ := List.mem_iff_getElem.1 h
  have h2 := hi
  rw [tab_len hl] at h2
  rw [tab_at hi (by omega) h2]
  exact List.getElem_mem _
theorem bools_block {w : World} {b m : Nat} {r : List Bool} (h : w.heap[b]? = some (.cells (r.map Value.bool).toArray 4 (0, 0))) (hr : r.length = m) (hm : m ≤ 1000000000) : BoolsR w (.slice (some ⟨b, 0, none⟩) m m) r := by
  refine ⟨some ⟨b, 0, none⟩, m, by rw [hr], by unfold maxLen; omega, .inr ⟨b, 0, rfl, fun i hi => ?_⟩⟩
  unfold World.cell?
  dsimp only
  rw [h]
  simp
theorem BoxR.rel {w : World} {R n m : Nat} {bs : List Nat} {rs : Rel} (h : BoxR w R n m bs rs) (hn : rs.length = n) (hn2 : n ≤ 1000000000) (hm : m ≤ 1000000000) : RelR w (.slice (some ⟨R, 0, none⟩) n n) (tabB m bs rs) := by
  obtain ⟨cur, c1, c2, c3⟩ := h.head
  have hl := h.len
  refine ⟨some ⟨R, 0, none⟩, n, by rw [tab_len hl, hn], by rw [tab_len hl]; unfold maxLen; omega, .inr ⟨R, 0, rfl, fun i hi => ?_⟩, fun q hq => ?_⟩
  · rw [tab_len hl] at hi
    unfold World.cell?
    dsimp only
    rw [c2]
    simp only [Nat.zero_add, List.getElem?_toArray]
    rw [c3 i (by omega), List.getElem?_eq_getElem (by rw [tab_len hl]; exact hi)]
    simp [tabB]
  · obtain ⟨i, hi, rfl⟩ := List.mem_iff_getElem.1 hq
    have hi2 := hi
    rw [tab_len hl] at hi2
    rw [tab_at hi (by omega) hi2]
    exact bools_block (h.rows i (by omega) hi2) (h.row _ (List.getElem_mem hi2)) hm
theorem BoxR.cells {w : World} {R n m : Nat} {bs : List Nat} {rs : Rel} (h : BoxR w R n m bs rs) {x y : Nat} (hx : x < rs.length) (hy : y < m) :
    ∃ b, bs[x]? = some b ∧ R < b ∧ w.cell? ⟨R, x, none⟩ = some (.slice (some ⟨b, 0, none⟩) m m) ∧ w.cell? ⟨b, y, none⟩ = some (.bool (atB rs x y)) ∧ w.frozen? ⟨b, y, none⟩ = false := by
  obtain ⟨cur, c1, c2, c3⟩ := h.head
  have hl := h.len
  have hxb : x < bs.length := by omega
  have hr := h.rows x hxb hx
  have hrl := h.row _ (List.getElem_mem hx)
  refine ⟨bs[x], List.getElem?_eq_getElem hxb, (h.new _ (List.getElem_mem hxb)).1, ?_, ?_, ?_⟩
  · unfold World.cell?
    dsimp only
    rw [c2]
    simpa using c3 x hxb
  · unfold World.cell? atB
    dsimp only
    rw [hr, List.getElem?_eq_getElem hx]
    simp [hrl, hy]
  · unfold World.frozen?
    dsimp only
    rw [hr]
    simp
/-- How many values are true. -/
def cntT (rs : Rel) : Nat := (rs.map (fun r => r.countP (fun b => b))).sum
theorem countP_set_lt : ∀ (r : List Bool) (y : Nat), r[y]?.getD false = true → (r.set y false).countP (fun b => b) < r.countP (fun b => b)
  | [], y, h => by simp at h
  | b :: r, 0, h => by
    simp at h
    subst h
    simp
  | b :: r, y + 1, h => by
    have := countP_set_lt r y (by simpa using h)
    rw [List.set_cons_succ, List.countP_cons, List.countP_cons]
    omega
theorem cnt_drop : ∀ (rs : Rel) (x y : Nat), atB rs x y = true → cntT (dropB rs x y) < cntT rs
  | [], x, y, h => by simp [atB] at h
  | r :: rs, 0, y, h => by
    have h1 : r[y]?.getD false = true := by simpa [atB] using h
    have := countP_set_lt r y h1
    have e : dropB (r :: rs) 0 y = r.set y false :: rs := rfl
    rw [e]
    simp only [cntT, List.map_cons, List.sum_cons]
    omega
  | r :: rs, x + 1, y, h => by
    have h1 : atB rs x y = true := by simpa [atB] using h
    have := cnt_drop rs x y h1
    have e : dropB (r :: rs) (x + 1) y = r :: dropB rs x y := rfl
    rw [e]
    simp only [cntT, List.map_cons, List.sum_cons] at this ⊢
    omega
theorem drop_len (rs : Rel) (x y : Nat) : (dropB rs x y).length = rs.length := by simp [dropB]
/-- What a pass over the table has found up to (x, y); c tells whether it struck a value out. -/
def PassB (a b : Sys) (m : Nat) (rs0 : Rel) (c : Bool) (rs : Rel) (x y : Nat) : Prop :=
  (c = false ∧ rs = rs0 ∧ ∀ u v, (u < x ∨ u = x ∧ v < y) → v < m → atB rs u v = true → matchB (arcsOf a u) (arcsOf b v) rs = true) ∨ (c = true ∧ cntT rs < cntT rs0)
theorem PassB.start (a b : Sys) (m : Nat) (rs : Rel) : PassB a b m rs false rs 0 0 := .inl ⟨rfl, rfl, fun u v h => by omega⟩
theorem PassB.next {a b : Sys} {m : Nat} {rs0 rs : Rel} {c : Bool} {x y : Nat} (h : PassB a b m rs0 c rs x y) (hk : atB rs x y = false ∨ matchB (arcsOf a x) (arcsOf b y) rs = true) : PassB a b m rs0 c rs x (y + 1) := by
  rcases h with ⟨h1, h2, h3⟩ | h
  · refine .inl ⟨h1, h2, fun u v huv hv hat => ?_⟩
    by_cases e : u = x ∧ v = y
    · obtain ⟨rfl, rfl⟩ := e
      rcases hk with hk | hk
      · rw [hk] at hat; cases hat
      · exact hk
    · exact h3 u v (by omega) hv hat
  · exact .inr h
theorem PassB.line {a b : Sys} {m : Nat} {rs0 rs : Rel} {c : Bool} {x : Nat} (h : PassB a b m rs0 c rs x m) : PassB a b m rs0 c rs (x + 1) 0 := by
  rcases h with ⟨h1, h2, h3⟩ | h
  · exact .inl ⟨h1, h2, fun u v huv hv hat => h3 u v (by omega) hv hat⟩
  · exact .inr h
theorem PassB.drop {a b : Sys} {m : Nat} {rs0 rs : Rel} {c : Bool} {x y : Nat} (h : PassB a b m rs0 c rs x y) (hat : atB rs x y = true) : PassB a b m rs0 true (dropB rs x y) x (y + 1) := by
  have := cnt_drop rs x y hat
  refine .inr ⟨rfl, ?_⟩
  rcases h with ⟨h1, rfl, h3⟩ | ⟨h1, h2⟩ <;> omega
theorem Over.drop {a b : Sys} (ha : VS a) (hb : VS b) {rs : Rel} (h : Over a b rs) {x y : Nat} (hx : x < a.length) (hy : y < b.length) (hm : matchB (arcsOf a x) (arcsOf b y) rs = false) : Over a b (dropB rs x y) := fun u v hu hv g => by
  rw [at_drop]
  by_cases e : u = x ∧ v = y
  · obtain ⟨rfl, rfl⟩ := e
    exact absurd g (over_drop ha hb h hx hy hm)
  · rw [if_neg e]; exact h u v hu hv g
theorem over_start (a b : Sys) : Over a b (List.replicate a.length (List.replicate b.length true)) := fun x y hx hy _ => by
  simp [atB, hx, hy]
/-- The table of the greatest simulation. -/
def GrT (a b : Sys) (rs : Rel) : Prop := rs.length = a.length ∧ (∀ r ∈ rs, r.length = b.length) ∧ ∀ x y, x < a.length → y < b.length → (atB rs x y = true ↔ Gr a b x y)
theorem pass_done {a b : Sys} {rs0 rs : Rel} (ho : Over a b rs) (h : PassB a b b.length rs0 false rs a.length 0) : ∀ x y, x < a.length → y < b.length → (atB rs x y = true ↔ Gr a b x y) := by
  rcases h with ⟨-, -, h3⟩ | ⟨h, -⟩
  · exact fun x y hx hy => over_is ho (fun u v hu hv hat => h3 u v (.inl hu) hv hat) hx hy
  · cases h
/-- What Greatest answers at valid systems. -/
def GreatR (w : World) (a b : Sys) (e : Ending) (w' : World) : Prop := ∃ R bs rs, e = .returned (.tuple #[.slice (some ⟨R, 0, none⟩) a.length a.length, .int .i64 0]) ∧ w.heap.size ≤ R ∧ BoxR w' R a.length b.length bs rs ∧ GrT a b rs ∧ w.grownBy w' none
end Go.Proofs.Ytelpkcndbcfaiaa
