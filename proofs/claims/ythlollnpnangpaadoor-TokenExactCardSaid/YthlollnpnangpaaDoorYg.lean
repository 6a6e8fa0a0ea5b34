/- token.Scan: rows of tokens, and what its variables hold between two steps. -/
import Derived.Test.YthlollnpnangpaaDoorYf
namespace Go.Proofs.YthlollnpnangpaaDoor
open Go.RowKit Go.Shelf
set_option linter.unusedVariables false
theorem grown_aft {a b : World} {o : Obj} (h : a.grownBy b none) : a.grownBy (b.alloc o) none := grown_trans h (World.grownBy_alloc _ _ _)
theorem grown_weak {a b : World} (g : a.grownBy b none) (row : Option Nat) : a.grownBy b row := ⟨g.os, g.tape, g.output, g.size, fun i hi _ => g.block i hi (by simp)⟩
abbrev Tk := Int × Bs × Int
def tkCells (t : Tk) : List Value := [.int .i64 t.1, strV t.2.1, .int .i64 t.2.2]
def flatK (ts : List Tk) : List Value := ts.flatMap tkCells
theorem flatK_len : ∀ ts, (flatK ts).length = ts.length * 3
  | [] => rfl
  | t :: ts => by
    have := flatK_len ts
    simp only [flatK, List.flatMap_cons, List.length_append, List.length_cons] at this ⊢
    rw [this]
    simp [tkCells]; omega
theorem flatK_app (a b : List Tk) : flatK (a ++ b) = flatK a ++ flatK b := by simp [flatK]
theorem info_tok : (Tryd.prog.info? 27).map (fun i => (i.zero, i.size, i.bytes)) = some (some (.agg #[.int .i64 0, strV [], .int .i64 0]), 3, 32) := by kernel_rfl
def OwnK (w : World) (base : Nat) (v : Value) (ts : List Tk) : Prop := w.ownsRow base 27 3 v ts.length (flatK ts)
theorem OwnK.nil (w : World) (base : Nat) : OwnK w base (.slice none 0 0) [] := World.ownsRow_nil w base _ _
theorem OwnK.fresh {w : World} {base : Nat} {v : Value} {ts : List Tk} (h : OwnK w base v ts) : ∀ g, v.ownBlock = some g → base ≤ g ∧ g < w.heap.size := World.ownsRow.lt h
theorem OwnK.kept {w w' : World} {base : Nat} {v : Value} {ts : List Tk} {row : Option Nat} (h : OwnK w base v ts) (g : w.grownBy w' row) (hr : ∀ k, row = some k → v.ownBlock ≠ some k) : OwnK w' base v ts := by
  refine World.ownsRow.kept h g ?_
  cases hv : v.ownBlock with
  | none => exact .inl rfl
  | some k => exact .inr (fun e => hr k e.symm hv)
theorem OwnK.slice {w : World} {base : Nat} {v : Value} {ts : List Tk} (h : OwnK w base v ts) : ∃ a cap, v = .slice a ts.length cap := by
  rcases h.2 with ⟨rfl, h0⟩ | ⟨g, cap, cur, rfl, _⟩
  · exact ⟨none, 0, by rw [h0]⟩
  · exact ⟨_, cap, rfl⟩
theorem OwnK.cells {w : World} {base : Nat} {v : Value} {ts : List Tk} (h : OwnK w base v ts) : ∀ (j : Nat) (o : Obj), v.ownBlock = some j → w.heap[j]? = some o → o.isCells = true := by
  intro j o hj ho
  rcases h.2 with ⟨h', _⟩ | ⟨g, cap, cur, h', _, hb, _⟩
  · rw [h'] at hj; cases hj
  · rw [h'] at hj
    simp only [Value.ownBlock, Option.some.injEq] at hj
    subst hj
    rw [hb] at ho
    cases ho
    rfl
/-- v reads as a list of tokens. -/
def Toks (w : World) (v : Value) (ts : List Tk) : Prop :=
  ∃ a cap, v = .slice a ts.length cap ∧ ts.length ≤ maxLen ∧ (ts = [] ∨ ∃ b off, a = some ⟨b, off, none⟩ ∧ ∀ i, i < ts.length → w.cell? ⟨b, off + i * 3, none⟩ = (ts[i]?.map (fun t => Value.int .i64 t.1)) ∧ w.cell? ⟨b, off + i * 3 + 1, none⟩ = (ts[i]?.map (fun t => strV t.2.1)) ∧ w.cell? ⟨b, off + i * 3 + 2, none⟩ = (ts[i]?.map (fun t => Value.int .i64 t.2.2)))
theorem flatK_at : ∀ (ts : List Tk) (i : Nat), (flatK ts)[i * 3]? = (ts[i]?.map (fun t => Value.int .i64 t.1)) ∧ (flatK ts)[i * 3 + 1]? = (ts[i]?.map (fun t => strV t.2.1)) ∧ (flatK ts)[i * 3 + 2]? = (ts[i]?.map (fun t => Value.int .i64 t.2.2))
  | [], i => by simp [flatK]
  | t :: ts, 0 => by simp [flatK, tkCells]
  | t :: ts, i + 1 => by
    have h := flatK_at ts i
    have e : ∀ k, (flatK (t :: ts))[k + 3]? = (flatK ts)[k]? := fun k => by
      show (tkCells t ++ flatK ts)[k + 3]? = _
      rw [List.getElem?_append_right (by simp [tkCells])]
      simp [tkCells]
    rw [show (i + 1) * 3 = i * 3 + 3 by omega, show i * 3 + 3 + 1 = i * 3 + 1 + 3 by omega, show i * 3 + 3 + 2 = i * 3 + 2 + 3 by omega, e, e, e]
    simpa using h
theorem OwnK.toks {w : World} {base : Nat} {v : Value} {ts : List Tk} (h : OwnK w base v ts) : Toks w v ts := by
  rcases h.2 with ⟨rfl, h0⟩ | ⟨g, cap, cur, rfl, hg, hh, hn, hm, hs, ht⟩
  · have : ts = [] := List.eq_nil_of_length_eq_zero h0
    subst this
    exact ⟨none, 0, rfl, Nat.zero_le _, .inl rfl⟩
  · refine ⟨_, cap, rfl, Nat.le_trans hn hm, .inr ⟨g, 0, rfl, fun i hi => ?_⟩⟩
    have key : ∀ j, j < ts.length * 3 → w.cell? ⟨g, 0 + j, none⟩ = (flatK ts)[j]? := fun j hj => by
      have h1 : cur.toList[j]? = (flatK ts)[j]? := by rw [← ht, List.getElem?_take, if_pos hj]
      unfold World.cell?
      rw [Nat.zero_add]
      dsimp only
      rw [hh]
      simp only [Array.getElem?_toList] at h1
      simp [h1]
    have h3 := flatK_at ts i
    rw [Nat.add_assoc, Nat.add_assoc, key _ (by omega), key _ (by omega), key _ (by omega)]
    exact h3
theorem Toks.same {w w' : World} {v : Value} {ts : List Tk} (h : Toks w v ts) (g : w.grownBy w' none) : Toks w' v ts := by
  obtain ⟨a, cap, hv, hl, hc⟩ := h
  refine ⟨a, cap, hv, hl, ?_⟩
  rcases hc with hc | ⟨b, off, ha, hc⟩
  · exact .inl hc
  · refine .inr ⟨b, off, ha, fun i hi => ?_⟩
    obtain ⟨h1, h2, h3⟩ := hc i hi
    rw [List.getElem?_eq_getElem hi] at h1 h2 h3 ⊢
    exact ⟨g.cell h1 (by simp), g.cell h2 (by simp), g.cell h3 (by simp)⟩
/-- One more token, in a round. -/
theorem app_tokIn {F : Fence} {n : Nat} {ops : Array Oper} {rest : List Oper} {o : Oper} {a : Act} {w : World} {Q : Exit → Act → World → Prop} (hgd : o.guard = none) (s x : Operand)
    (ho : o.op = .call { callee := .builtin .append, args := #[s, x], argTypes := #[23, 23] }) (base : Nat) (v : Value) (ts : List Tk) (hs : a.eval s = v)
    (hown : OwnK w base v ts) (b : Nat) (k : Int) (z : Bs) (m : Int) (hx : a.eval x = .slice (some ⟨b, 0, none⟩) 1 1) (hnew : w.heap[b]? = some (.cells #[.int .i64 k, strV z, .int .i64 m] 27 (0, 0)))
    (hlen : ts.length ≤ 1000000) (hbase : base ≤ w.heap.size)
    (h : ∀ a' cap' w', OwnK w' base (.slice a' (ts.length + 1) cap') (ts ++ [(k, z, m)]) → w.grownBy w' v.ownBlock → wpListIn F n Tryd.prog ops Q rest (a.put o.dst (.slice a' (ts.length + 1) cap')) w') : wpListIn F n Tryd.prog ops Q (o :: rest) a w := by
  obtain ⟨i, hi, hz0, hz1, hz2⟩ := info_parts info_tok
  refine wpListIn_append_own (w := w) hgd s x 23 ho base 27 i _ 3 32 Tryd.underlying23 hi hz0 hz1 hz2 rfl (by decide) v ts.length (flatK ts) hs hown ⟨b, 0, none⟩ 1 1 (tkCells (k, z, m)) hx rfl ?_ ?_ ?_ ?_ hbase ?_
  · intro j u hu
    have e : (⟨b, 0, none⟩ : Addr).add j = ⟨b, j, none⟩ := by simp [Addr.add]; omega
    rw [e]
    unfold World.cell?
    dsimp only
    rw [hnew]
    match j, hu with
    | 0, hu => simpa [tkCells] using hu
    | 1, hu => simpa [tkCells] using hu
    | 2, hu => simpa [tkCells] using hu
    | j + 3, hu => simp [tkCells] at hu
  · intro u hu
    simp only [tkCells, List.mem_cons, List.mem_nil_iff, or_false] at hu
    rcases hu with rfl | rfl | rfl <;> rfl
  · unfold maxLen; omega
  · omega
  · intro v' w' h1 h2 _
    have h3 : OwnK w' base v' (ts ++ [(k, z, m)]) := by
      unfold OwnK
      rw [flatK_app, List.length_append]
      simpa [flatK] using h1
    obtain ⟨a', cap', rfl⟩ := h3.slice
    rw [List.length_append] at h3 ⊢
    exact h a' cap' w' h3 h2

/-- What Scan's variables hold: H the heap's size where it began. -/
structure TokW (w : World) (n : Int) (ts : List Tk) (W : World) : Prop where
  grow : w.grownBy W none
  r1 : Boxed W w.heap.size 23 (.slice none 0 0)
  r2 : Boxed W (w.heap.size + 1) 3 (.int .i64 0)
  r3 : Boxed W (w.heap.size + 2) 34 (.int .i64 0)
  ob : ∃ v, Boxed W (w.heap.size + 3) 23 v ∧ OwnK W (w.heap.size + 8) v ts
  lb : Boxed W (w.heap.size + 4) 3 (.int .i64 n)
  sz : w.heap.size + 8 ≤ W.heap.size
theorem TokW.kept {w W W' : World} {n : Int} {ts : List Tk} {row : Option Nat} (h : TokW w n ts W) (g : W.grownBy W' row) (hr : ∀ k, row = some k → w.heap.size + 5 ≤ k ∧ (k < w.heap.size + 8 ∨ W.heap.size ≤ k)) : TokW w n ts W' := by
  have ne : ∀ j, j < w.heap.size + 5 → some j ≠ row := fun j hj e => by have := (hr j e.symm).1; omega
  obtain ⟨v, h1, h2⟩ := h.ob
  refine ⟨grown_then h.grow g (fun j hj => .inl (by have := (hr j hj).1; omega)), h.r1.kept g (ne _ (by omega)), h.r2.kept g (ne _ (by omega)), h.r3.kept g (ne _ (by omega)), ⟨v, h1.kept g (ne _ (by omega)), h2.kept g (fun k hk e => ?_)⟩, h.lb.kept g (ne _ (by omega)), Nat.le_trans h.sz g.size⟩
  have h3 := h2.fresh k e
  have h4 := (hr k hk).2
  omega
theorem TokW.line {w W : World} {n : Int} {ts : List Tk} (h : TokW w n ts W) (m : Int) : TokW w m ts (W.setCell ⟨w.heap.size + 4, 0, none⟩ (.int .i64 m)) := by
  have g : W.grownBy (W.setCell ⟨w.heap.size + 4, 0, none⟩ (.int .i64 m)) (some (w.heap.size + 4)) := grown_set _ _ _
  have ne : ∀ j, j < w.heap.size + 4 → some j ≠ some (w.heap.size + 4) := fun j hj e => by cases e; omega
  obtain ⟨v, h1, h2⟩ := h.ob
  refine ⟨grown_then h.grow g (by rintro j ⟨⟩; exact .inl (by omega)), h.r1.kept g (ne _ (by omega)), h.r2.kept g (ne _ (by omega)), h.r3.kept g (ne _ (by omega)), ⟨v, h1.kept g (ne _ (by omega)), h2.kept g (fun k hk e => ?_)⟩, h.lb.set _, Nat.le_trans h.sz g.size⟩
  cases hk
  have h3 := h2.fresh _ e
  omega
/-- A token has been put behind the others. -/
theorem TokW.push {w W Wb W6 : World} {n : Int} {ts : List Tk} {b : Option Nat} {v v' : Value} {tk : Tk} (h : TokW w n ts W) (hv : Boxed W (w.heap.size + 3) 23 v) (g : W.grownBy Wb b) (hb : ∀ k, b = some k → W.heap.size ≤ k)
    (ho : OwnK W6 (w.heap.size + 8) v' (ts ++ [tk])) (g6 : Wb.grownBy W6 v.ownBlock) : TokW w n (ts ++ [tk]) (W6.setCell ⟨w.heap.size + 3, 0, none⟩ v') ∧ Boxed W6 (w.heap.size + 3) 23 v := by
  obtain ⟨v0, h1, h2⟩ := h.ob
  have e0 : v0 = v := by
    have := h1.cell.symm.trans hv.cell
    simpa using this
  subst e0
  have gs : W6.grownBy (W6.setCell ⟨w.heap.size + 3, 0, none⟩ v') (some (w.heap.size + 3)) := grown_set _ _ _
  have hf : ∀ k, v0.ownBlock = some k → w.heap.size + 8 ≤ k := fun k hk => (h2.fresh k hk).1
  have hsz := h.sz
  have nb : ∀ j, j < w.heap.size + 5 → some j ≠ b := fun j hj e => by have := hb j e.symm; omega
  have nv : ∀ j, j < w.heap.size + 5 → some j ≠ v0.ownBlock := fun j hj e => by have := hf j e.symm; omega
  have ns : ∀ j, j ≠ w.heap.size + 3 → some j ≠ some (w.heap.size + 3) := fun j hj e => by cases e; exact hj rfl
  have b6 := (h1.kept g (nb _ (by omega))).kept g6 (nv _ (by omega))
  refine ⟨⟨grown_then (grown_then (grown_then h.grow g (fun j hj => .inl (by have := hb j hj; omega))) g6 (fun j hj => .inl (by have := hf j hj; omega))) gs (by rintro j ⟨⟩; exact .inl (by omega)),
    ((h.r1.kept g (nb _ (by omega))).kept g6 (nv _ (by omega))).kept gs (ns _ (by omega)), ((h.r2.kept g (nb _ (by omega))).kept g6 (nv _ (by omega))).kept gs (ns _ (by omega)), ((h.r3.kept g (nb _ (by omega))).kept g6 (nv _ (by omega))).kept gs (ns _ (by omega)),
    ⟨v', b6.set _, ho.kept gs (fun k hk e => ?_)⟩, ((h.lb.kept g (nb _ (by omega))).kept g6 (nv _ (by omega))).kept gs (ns _ (by omega)), ?_⟩, b6⟩
  · cases hk
    have := (ho.fresh _ e).1
    omega
  · exact Nat.le_trans h.sz (Nat.le_trans g.size (Nat.le_trans g6.size gs.size))
/-- Within a round that began in W. -/
def InR (w W : World) (n : Int) (ts : List Tk) (W' : World) : Prop := TokW w n ts W' ∧ KeepsOthers W W' ∧ KpS (w.heap.size + 5) W W'
theorem InR.start {w W : World} {n : Int} {ts : List Tk} (h : TokW w n ts W) : InR w W n ts W := ⟨h, KeepsOthers.refl _, rfl⟩
theorem InR.same {w W A C : World} {n : Int} {ts : List Tk} (h : InR w W n ts A) (g : A.grownBy C none) : InR w W n ts C :=
  ⟨h.1.kept g (by simp), h.2.1.trans (KeepsOthers.of_grownBy g (by simp)), (g.block _ (by have := h.1.sz; omega) (by simp)).trans h.2.2⟩
theorem InR.line {w W A : World} {n : Int} {ts : List Tk} (h : InR w W n ts A) (m : Int) : InR w W m ts (A.setCell ⟨w.heap.size + 4, 0, none⟩ (.int .i64 m)) :=
  ⟨h.1.line m, h.2.1.trans (KeepsOthers.setCell _ _ _), ((grown_set A ⟨w.heap.size + 4, 0, none⟩ (.int .i64 m)).block _ (by have := h.1.sz; omega) (by simp)).trans h.2.2⟩
theorem InR.push {w W A Ab A6 : World} {n : Int} {ts : List Tk} {b : Option Nat} {v v' : Value} {tk : Tk} (h : InR w W n ts A) (hv : Boxed A (w.heap.size + 3) 23 v) (g : A.grownBy Ab b) (hb : ∀ k, b = some k → A.heap.size ≤ k) (hbc : KeepsOthers A Ab)
    (ho : OwnK A6 (w.heap.size + 8) v' (ts ++ [tk])) (g6 : Ab.grownBy A6 v.ownBlock) : InR w W n (ts ++ [tk]) (A6.setCell ⟨w.heap.size + 3, 0, none⟩ v') := by
  obtain ⟨v0, h1, h2⟩ := h.1.ob
  have e0 : v0 = v := by
    have := h1.cell.symm.trans hv.cell
    simpa using this
  subst e0
  have hsz := h.1.sz
  have hf : ∀ k, v0.ownBlock = some k → w.heap.size + 8 ≤ k := fun k hk => (h2.fresh k hk).1
  have h2b : OwnK Ab (w.heap.size + 8) v0 ts := h2.kept g (fun k hk e => by have := hb k hk; have := (h2.fresh k e).2; omega)
  have gs : A6.grownBy (A6.setCell ⟨w.heap.size + 3, 0, none⟩ v') (some (w.heap.size + 3)) := grown_set _ _ _
  refine ⟨(h.1.push hv g hb ho g6).1, ((h.2.1.trans hbc).trans (KeepsOthers.of_grownBy g6 h2b.cells)).trans (KeepsOthers.setCell _ _ _), ?_⟩
  have e1 := g.block (w.heap.size + 5) (by omega) (fun e => by have := hb _ e.symm; omega)
  have e2 := g6.block (w.heap.size + 5) (by have := g.size; omega) (fun e => by have := hf _ e.symm; omega)
  have e3 := gs.block (w.heap.size + 5) (by have := g.size; have := g6.size; omega) (by simp)
  exact e3.trans (e2.trans (e1.trans h.2.2))
def FailW (w : World) (n : Int) (W : World) : Prop := w.grownBy W none ∧ Boxed W w.heap.size 23 (.slice none 0 0) ∧ Boxed W (w.heap.size + 1) 3 (.int .i64 n) ∧ Boxed W (w.heap.size + 2) 34 (.int .i64 12)
theorem FailW.kept {w W W' : World} {n : Int} {row : Option Nat} (h : FailW w n W) (g : W.grownBy W' row) (hr : ∀ k, row = some k → w.heap.size + 5 ≤ k) : FailW w n W' := by
  have ne : ∀ j, j < w.heap.size + 5 → some j ≠ row := fun j hj e => by have := hr j e.symm; omega
  exact ⟨grown_then h.1 g (fun j hj => .inl (by have := hr j hj; omega)), h.2.1.kept g (ne _ (by omega)), h.2.2.1.kept g (ne _ (by omega)), h.2.2.2.kept g (ne _ (by omega))⟩
theorem InR.failed {w W A : World} {n : Int} {ts : List Tk} (h : InR w W n ts A) (m : Int) :
    KeepsOthers W (((A.setCell ⟨w.heap.size, 0, none⟩ (.slice none 0 0)).setCell ⟨w.heap.size + 1, 0, none⟩ (.int .i64 m)).setCell ⟨w.heap.size + 2, 0, none⟩ (.int .i64 12)).drew ∧ KpS (w.heap.size + 5) W (((A.setCell ⟨w.heap.size, 0, none⟩ (.slice none 0 0)).setCell ⟨w.heap.size + 1, 0, none⟩ (.int .i64 m)).setCell ⟨w.heap.size + 2, 0, none⟩ (.int .i64 12)).drew ∧ FailW w m (((A.setCell ⟨w.heap.size, 0, none⟩ (.slice none 0 0)).setCell ⟨w.heap.size + 1, 0, none⟩ (.int .i64 m)).setCell ⟨w.heap.size + 2, 0, none⟩ (.int .i64 12)).drew := by
  have g1 : A.grownBy (A.setCell ⟨w.heap.size, 0, none⟩ (.slice none 0 0)) (some w.heap.size) := grown_set _ _ _
  have g2 : (A.setCell ⟨w.heap.size, 0, none⟩ (.slice none 0 0)).grownBy ((A.setCell ⟨w.heap.size, 0, none⟩ (.slice none 0 0)).setCell ⟨w.heap.size + 1, 0, none⟩ (.int .i64 m)) (some (w.heap.size + 1)) := grown_set _ _ _
  have g3 : ((A.setCell ⟨w.heap.size, 0, none⟩ (.slice none 0 0)).setCell ⟨w.heap.size + 1, 0, none⟩ (.int .i64 m)).grownBy (((A.setCell ⟨w.heap.size, 0, none⟩ (.slice none 0 0)).setCell ⟨w.heap.size + 1, 0, none⟩ (.int .i64 m)).setCell ⟨w.heap.size + 2, 0, none⟩ (.int .i64 12)) (some (w.heap.size + 2)) := grown_set _ _ _
  have hsz := h.1.sz
  refine ⟨(((h.2.1.trans (KeepsOthers.setCell _ _ _)).trans (KeepsOthers.setCell _ _ _)).trans (KeepsOthers.setCell _ _ _)).trans (KeepsOthers.drew _), ?_, ?_, ?_, ?_, ?_⟩
  · have e1 := g1.block (w.heap.size + 5) (by omega) (by simp)
    have e2 := g2.block (w.heap.size + 5) (by have := g1.size; omega) (by simp)
    have e3 := g3.block (w.heap.size + 5) (by have := g1.size; have := g2.size; omega) (by simp)
    exact e3.trans (e2.trans (e1.trans h.2.2))
  · exact grown_trans (grown_then (grown_then (grown_then h.1.grow g1 (by rintro j ⟨⟩; exact .inl (Nat.le_refl _))) g2 (by rintro j ⟨⟩; exact .inl (by omega))) g3 (by rintro j ⟨⟩; exact .inl (by omega))) (grown_drew _ none)
  · exact (((h.1.r1.set _).kept g2 (by simp)).kept g3 (by simp)).kept (grown_drew _ none) (by simp)
  · exact (((h.1.r2.kept g1 (by simp)).set _).kept g3 (by simp)).kept (grown_drew _ none) (by simp)
  · exact (((h.1.r3.kept g1 (by simp)).kept g2 (by simp)).set _).kept (grown_drew _ none) (by simp)
theorem TokW.done {w A : World} {n : Int} {ts : List Tk} {v : Value} {D : Nat} (h : TokW w n ts A) (hv : Boxed A (w.heap.size + 3) 23 v) (hD : w.heap.size + 6 ≤ D) (hd : A.heap[D]? = some (.deferred (some []))) (X : World)
    (hX : X = ((A.setCell ⟨w.heap.size, 0, none⟩ v).setCell ⟨w.heap.size + 1, 0, none⟩ (.int .i64 0)).setCell ⟨w.heap.size + 2, 0, none⟩ (.int .i64 0)) :
    X.heap[D]? = some (.deferred (some [])) ∧ w.grownBy (X.putObj D (.deferred none)) none ∧ (X.putObj D (.deferred none)).cell? ⟨w.heap.size, 0, none⟩ = some v ∧ (X.putObj D (.deferred none)).cell? ⟨w.heap.size + 1, 0, none⟩ = some (.int .i64 0) ∧ (X.putObj D (.deferred none)).cell? ⟨w.heap.size + 2, 0, none⟩ = some (.int .i64 0) ∧ OwnK (X.putObj D (.deferred none)) w.heap.size v ts := by
  obtain ⟨v0, b0, o0⟩ := h.ob
  have e0 : v0 = v := by
    have := b0.cell.symm.trans hv.cell
    simpa using this
  subst e0
  have g1 : A.grownBy (A.setCell ⟨w.heap.size, 0, none⟩ v0) (some w.heap.size) := grown_set _ _ _
  have g2 : (A.setCell ⟨w.heap.size, 0, none⟩ v0).grownBy ((A.setCell ⟨w.heap.size, 0, none⟩ v0).setCell ⟨w.heap.size + 1, 0, none⟩ (.int .i64 0)) (some (w.heap.size + 1)) := grown_set _ _ _
  have g3 : ((A.setCell ⟨w.heap.size, 0, none⟩ v0).setCell ⟨w.heap.size + 1, 0, none⟩ (.int .i64 0)).grownBy X (some (w.heap.size + 2)) := by rw [hX]; exact grown_set _ _ _
  have hsz := h.sz
  have r1 := ((h.r1.set v0).kept g2 (by simp)).kept g3 (by simp)
  have r2 := ((h.r2.kept g1 (by simp)).set (.int .i64 0)).kept g3 (by simp)
  have r3 : Boxed X (w.heap.size + 2) 34 (.int .i64 0) := by rw [hX]; exact ((h.r3.kept g1 (by simp)).kept g2 (by simp)).set _
  have gP := grownBy_putObj' X D (.deferred none)
  have gX : w.grownBy X none := grown_then (grown_then (grown_then h.grow g1 (by rintro j ⟨⟩; exact .inl (Nat.le_refl _))) g2 (by rintro j ⟨⟩; exact .inl (by omega))) g3 (by rintro j ⟨⟩; exact .inl (by omega))
  have hlt := (Array.getElem?_eq_some_iff.1 hd).1
  have hf : ∀ g, v0.ownBlock = some g → w.heap.size + 8 ≤ g := fun g hg => (o0.fresh g hg).1
  have o3 : OwnK X (w.heap.size + 8) v0 ts := ((o0.kept g1 (fun k hk e => by cases hk; have := hf _ e; omega)).kept g2 (fun k hk e => by cases hk; have := hf _ e; omega)).kept g3 (fun k hk e => by cases hk; have := hf _ e; omega)
  have hdX : X.heap[D]? = some (.deferred (some [])) := (g3.block D (by have := g1.size; have := g2.size; omega) (by simp; omega)).trans ((g2.block D (by have := g1.size; omega) (by simp; omega)).trans ((g1.block D hlt (by simp; omega)).trans hd))
  have o4 : OwnK (X.putObj D (.deferred none)) (w.heap.size + 8) v0 ts := o3.kept gP (fun k hk e => by
    cases hk
    have := o3.cells _ _ e hdX
    simp [Obj.isCells] at this)
  have o5 : OwnK (X.putObj D (.deferred none)) w.heap.size v0 ts := by
    refine ⟨o4.1, ?_⟩
    rcases o4.2 with h1 | ⟨g, cap, cur, h1, h2, h3⟩
    · exact .inl h1
    · exact .inr ⟨g, cap, cur, h1, by omega, h3⟩
  exact ⟨hdX, grown_then gX gP (by rintro j ⟨⟩; exact .inl (by omega)), (r1.kept gP (by simp; omega)).cell, (r2.kept gP (by simp; omega)).cell, (r3.kept gP (by simp; omega)).cell, o5⟩
end Go.Proofs.YthlollnpnangpaaDoor
