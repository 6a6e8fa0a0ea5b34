/- What the law of turned signs uses: rows and numbers that grow side by side. -/
import Derived.Test.YtgcfafjgaifmiaaEu
import Derived.BigRegion
namespace Go.Proofs.Ytgcfafjgaifmiaa
open Go.RowKit
set_option linter.unusedVariables false

structure Sg (w0 : World) (p : Value) (d B : Nat) (vm : Value) (ps : List Row) (vb : Value) (bs : List Int) (q : Row) (v7 : Value) (T : List Row) (v8 : Value) (R : List Int) (W : World) : Prop where
  st : St w0 W p d
  mat : MatD W d vm ps
  vec : Vec W d vb bs
  own7 : OwnP W B v7 T
  own8 : OwnI W B v8 R
  sep : ∀ g, v8.ownBlock = some g → ∀ r ∈ T, r.1.ownBlock ≠ some g
  lowm : Low B vm ps
  lowv : ∀ g, vb.ownBlock = some g → g < B
  dB : d < B
  hB : B ≤ W.heap.size
  pend : RowOk W q
  pend8 : ∀ g, q.1.ownBlock = some g → v8.ownBlock ≠ some g
  rowsB : ∀ r ∈ T, ∀ g, r.1.ownBlock = some g → B ≤ g
  pendB : ∀ g, q.1.ownBlock = some g → B ≤ g
section
variable {w0 W W' : World} {p : Value} {d B : Nat} {vm : Value} {ps : List Row} {vb : Value} {bs : List Int} {q : Row} {v7 : Value} {T : List Row} {v8 : Value} {R : List Int}
theorem Sg.grow (h : Sg w0 p d B vm ps vb bs q v7 T v8 R W) (g : W.grownBy W' none) : Sg w0 p d B vm ps vb bs q v7 T v8 R W' :=
  ⟨h.st.step g, h.mat.step g, h.vec.step g, h.own7.same g, h.own8.kept g (by simp), h.sep, h.lowm, h.lowv, h.dB, Nat.le_trans h.hB g.size, h.pend.same g, h.pend8, h.rowsB, h.pendB⟩
theorem Sg.al (h : Sg w0 p d B vm ps vb bs q v7 T v8 R W) {o : Obj} : Sg w0 p d B vm ps vb bs q v7 T v8 R (W.alloc o) := h.grow (World.grownBy_alloc _ _ none)
theorem Sg.dr (h : Sg w0 p d B vm ps vb bs q v7 T v8 R W) : Sg w0 p d B vm ps vb bs q v7 T v8 R W.drew := h.grow (grown_drew _ none)
theorem Sg.apart (h : Sg w0 p d B vm ps vb bs q v7 T v8 R W) : ∀ g, v7.ownBlock = some g → v8.ownBlock ≠ some g := by
  intro g h1 h2
  rcases h.own7.1.2 with ⟨e, _⟩ | ⟨g1, cap1, cur1, e, _, b1, _⟩
  · rw [e] at h1; cases h1
  · rcases h.own8.2 with ⟨e2, _⟩ | ⟨g2, cap2, cur2, e2, _, b2, _⟩
    · rw [e2] at h2; cases h2
    · rw [e] at h1; rw [e2] at h2
      simp only [Value.ownBlock, Option.some.injEq] at h1 h2
      subst h1 h2
      rw [b1] at b2
      simp only [Option.some.injEq, Obj.cells.injEq] at b2
      exact absurd b2.2.1 (by decide)
theorem MatD.up {w w' : World} {d B : Nat} {v : Value} {ps : List Row} {row : Option Nat} (h : MatD w d v ps) (l : Low B v ps) (g : w.grownBy w' row) (hr : ∀ k, row = some k → B ≤ k) : MatD w' d v ps := by
  cases row with
  | none => exact h.step g
  | some k => exact h.put (l.mono (hr k rfl)) g
theorem St.up {w0 w w' : World} {p : Value} {d : Nat} {row : Option Nat} (h : St w0 w p d) (g : w.grownBy w' row) (hr : ∀ k, row = some k → d < k) : St w0 w' p d := by
  cases row with
  | none => exact h.step g
  | some k => exact h.put g (hr k rfl)
theorem Sg.put7 (h : Sg w0 p d B vm ps vb bs q v7 T v8 R W) (h7 : ∀ g, q.1.ownBlock = some g → v7.ownBlock ≠ some g) {v' : Value} (o : OwnP W' B v' (T ++ [q])) (g : W.grownBy W' v7.ownBlock) : Sg w0 p d B vm ps vb bs q v' (T ++ [q]) v8 R W' := by
  have hr : ∀ k, v7.ownBlock = some k → B ≤ k := fun k hk => (h.own7.fresh k hk).1
  refine ⟨h.st.up g (fun k hk => Nat.lt_of_lt_of_le h.dB (hr k hk)), h.mat.up h.lowm g hr, ⟨h.vec.1.kept g (fun k hk e => ?_), h.vec.2⟩, o, h.own8.keptB g (fun k hk e => h.apart k hk e), fun b hb r hr => ?_, h.lowm, h.lowv, h.dB, Nat.le_trans h.hB g.size, h.pend.kept g (fun k hk e => h7 k e hk), h.pend8, fun r hr b e => ?_, h.pendB⟩
  · have := h.lowv k e; have := hr k hk; omega
  · rcases List.mem_append.1 hr with hr | hr
    · exact h.sep b hb r hr
    · rw [List.mem_singleton.1 hr]; exact fun e => h.pend8 b e hb
  · rcases List.mem_append.1 hr with hr | hr
    · exact h.rowsB r hr b e
    · rw [List.mem_singleton.1 hr] at e; exact h.pendB b e
theorem Sg.put8 (h : Sg w0 p d B vm ps vb bs q v7 T v8 R W) {z : Int} {v' : Value} (o : OwnI W' B v' (R ++ [z])) (g : W.grownBy W' v8.ownBlock) (hb : ∀ b, v'.ownBlock = some b → v8.ownBlock = some b ∨ W.heap.size ≤ b) : Sg w0 p d B vm ps vb bs q v7 T v' (R ++ [z]) W' := by
  have hr : ∀ k, v8.ownBlock = some k → B ≤ k := fun k hk => (h.own8.fresh k hk).1
  refine ⟨h.st.up g (fun k hk => Nat.lt_of_lt_of_le h.dB (hr k hk)), h.mat.up h.lowm g hr, ⟨h.vec.1.kept g (fun k hk e => ?_), h.vec.2⟩, ⟨World.ownsRow.kept h.own7.1 g ?_, fun r hrr => ⟨(h.own7.2 r hrr).1.kept g (fun k hk e => h.sep k hk r hrr e), (h.own7.2 r hrr).2⟩⟩, o, fun b hb' r hrr e => ?_, h.lowm, h.lowv, h.dB, Nat.le_trans h.hB g.size, h.pend.kept g (fun k hk e => h.pend8 k e hk), fun b e hb' => ?_, h.rowsB, h.pendB⟩
  · have := h.lowv k e; have := hr k hk; omega
  · cases hv : v7.ownBlock with
    | none => exact .inl rfl
    | some k => exact .inr (fun e => h.apart k hv e.symm)
  · rcases hb b hb' with h1 | h1
    · exact h.sep b h1 r hrr e
    · have := (h.own7.2 r hrr).1.2.2 b e; omega
  · rcases hb b hb' with h1 | h1
    · exact h.pend8 b e h1
    · have := h.pend.2.2 b e; omega
theorem Sg.deal (h : Sg w0 p d B vm ps vb bs q v7 T v8 R W) (hs : St w0 W' p d) (g : W.grownBy W' (some d)) : Sg w0 p d B vm ps vb bs q v7 T v8 R W' := by
  have hd := h.dB
  refine ⟨hs, h.mat.deal g, h.vec.deal g, ⟨World.ownsRow.kept h.own7.1 g ?_, fun r hr => ⟨(h.own7.2 r hr).1.kept g (fun k hk e => ?_), (h.own7.2 r hr).2⟩⟩, h.own8.kept g (by rintro j ⟨⟩; exact hd), h.sep, h.lowm, h.lowv, h.dB, Nat.le_trans h.hB g.size, h.pend.kept g (fun k hk e => ?_), h.pend8, h.rowsB, h.pendB⟩
  · cases hv : v7.ownBlock with
    | none => exact .inl rfl
    | some k => refine .inr (fun e => ?_); cases e; have := (h.own7.fresh _ hv).1; omega
  · cases hk; have := h.rowsB r hr _ e; omega
  · cases hk; have := h.pendB _ e; omega
theorem Sg.with (h : Sg w0 p d B vm ps vb bs q v7 T v8 R W) {q' : Row} (h1 : RowOk W q') (h2 : ∀ g, q'.1.ownBlock = some g → v8.ownBlock ≠ some g) (h3 : ∀ g, q'.1.ownBlock = some g → B ≤ g) : Sg w0 p d B vm ps vb bs q' v7 T v8 R W :=
  ⟨h.st, h.mat, h.vec, h.own7, h.own8, h.sep, h.lowm, h.lowv, h.dB, h.hB, h1, h2, h.rowsB, h3⟩
end
theorem step_sg7 {ops : Array Oper} {o : Oper} {a : Act} {w : World} {K : Act → World → Prop} {Q : Exit → Act → World → Prop} {E : Prop} (hgd : o.guard = none) (s x : Operand)
    (ho : o.op = .call { callee := .builtin .append, args := #[s, x], argTypes := #[23, 23] }) {w0 : World} {p : Value} {d B : Nat} {vm : Value} {ps : List Row} {vb : Value} {bs : List Int} {q : Row} {v7 : Value} {T : List Row} {v8 : Value} {R : List Int}
    (hs : a.eval s = v7) (h : Sg w0 p d B vm ps vb bs q v7 T v8 R w) (h7 : ∀ g, q.1.ownBlock = some g → v7.ownBlock ≠ some g) (hlen : T.length ≤ 1000000) (b : Nat) (hx : a.eval x = .slice (some ⟨b, 0, none⟩) 1 1) (hnew : w.cell? ⟨b, 0, none⟩ = some q.1)
    (k : ∀ v' w', Sg w0 p d B vm ps vb bs q v' (T ++ [q]) v8 R w' → w.grownBy w' v7.ownBlock → K (a.put o.dst v') w') : if Region.wanted o (yielded ops a.tmps) = true then Oper.wp Try.prog o a w K Q else E :=
  step_app_row hgd s x ho B v7 T hs h.own7 b q hx hnew h.pend h7 (by omega) h.hB (fun v' w' ho' hg => k v' w' (h.put7 h7 ho' hg) hg)
theorem step_sg8 {ops : Array Oper} {o : Oper} {a : Act} {w : World} {K : Act → World → Prop} {Q : Exit → Act → World → Prop} {E : Prop} (hgd : o.guard = none) (s x : Operand)
    (ho : o.op = .call { callee := .builtin .append, args := #[s, x], argTypes := #[22, 22] }) {w0 : World} {p : Value} {d B : Nat} {vm : Value} {ps : List Row} {vb : Value} {bs : List Int} {q : Row} {v7 : Value} {T : List Row} {v8 : Value} {R : List Int}
    (hs : a.eval s = v8) (h : Sg w0 p d B vm ps vb bs q v7 T v8 R w) (hlen : R.length ≤ 1000000) (z : Int) (b : Nat) (hx : a.eval x = .slice (some ⟨b, 0, none⟩) 1 1) (hnew : w.cell? ⟨b, 0, none⟩ = some (.int .i64 z))
    (k : ∀ v' w', Sg w0 p d B vm ps vb bs q v7 T v' (R ++ [z]) w' → w.grownBy w' v8.ownBlock → K (a.put o.dst v') w') : if Region.wanted o (yielded ops a.tmps) = true then Oper.wp Try.prog o a w K Q else E :=
  step_app_int_blk hgd s x ho B v8 R hs h.own8 b z hx hnew (by omega) h.hB (fun v' w' ho' hg hb => k v' w' (h.put8 ho' hg hb) hg)
/-- Rows turned: each with its sign, the last one first. -/
def Turned (rows : List (List Int)) (bs : List Int) (i : Nat) (T : List Row) (R : List Int) : Prop :=
  ∃ ss : List Int, ss.length = (rows.drop i).length ∧ (∀ s ∈ ss, s = 1 ∨ s = -1) ∧ (T.map Prod.snd).reverse = List.zipWith (fun s r => r.map (fun x => s * x)) ss (rows.drop i) ∧ R.reverse = List.zipWith (fun s b => s * b) ss (bs.drop i)
theorem Turned.zero {rows : List (List Int)} {bs : List Int} {n : Nat} (h : rows.length ≤ n) : Turned rows bs n [] [] := ⟨[], by rw [List.drop_eq_nil_of_le h]; rfl, by simp, by simp, by simp⟩
theorem Turned.next {rows : List (List Int)} {bs : List Int} {i : Nat} {T : List Row} {R : List Int} (h : Turned rows bs (i + 1) T R) (hi : i < rows.length) (hb : i < bs.length) {s : Int} (hs : s = 1 ∨ s = -1) {v : Value} : Turned rows bs i (T ++ [(v, rows[i].map (fun x => s * x))]) (R ++ [s * bs[i]]) := by
  obtain ⟨ss, h1, h2, h3, h4⟩ := h
  refine ⟨s :: ss, ?_, ?_, ?_, ?_⟩
  · rw [List.drop_eq_getElem_cons hi, List.length_cons, List.length_cons, h1]
  · intro x hx
    rcases List.mem_cons.1 hx with rfl | hx
    · exact hs
    · exact h2 x hx
  · rw [List.drop_eq_getElem_cons hi, List.zipWith_cons_cons, ← h3, List.map_append, List.reverse_append]; rfl
  · rw [List.drop_eq_getElem_cons hb, List.zipWith_cons_cons, ← h4, List.reverse_append]; rfl
theorem dot_scale (s : Int) : ∀ (r x : List Int), dotL (r.map (fun y => s * y)) x = s * dotL r x
  | [], x => by simp [dotL]
  | a :: r, [] => by simp [dotL]
  | a :: r, b :: x => by
    show s * a * b + dotL (r.map (fun y => s * y)) x = s * (a * b + dotL r x)
    rw [dot_scale s r x, Int.mul_add, Int.mul_assoc]
theorem zip_sign (x : List Int) : ∀ (ss : List Int) (rows : List (List Int)) (bs : List Int), ss.length = rows.length → (∀ s ∈ ss, s = 1 ∨ s = -1) → rows.length = bs.length →
    ((List.zipWith (fun s r => r.map (fun y => s * y)) ss rows).map (fun r => dotL r x) = List.zipWith (fun s b => s * b) ss bs ↔ rows.map (fun r => dotL r x) = bs)
  | [], [], [], _, _, _ => by simp
  | s :: ss, r :: rows, b :: bs, h1, h2, h3 => by
    have ih := zip_sign x ss rows bs (by simpa using h1) (fun s hs => h2 s (by simp [hs])) (by simpa using h3)
    rw [List.zipWith_cons_cons, List.zipWith_cons_cons, List.map_cons, List.map_cons, List.cons.injEq, List.cons.injEq, ih, dot_scale]
    have : s * dotL r x = s * b ↔ dotL r x = b := by
      rcases h2 s (by simp) with rfl | rfl
      · omega
      · omega
    rw [this]
theorem turned_sol {ps T : List Row} {bs R x : List Int} (h : Turned (ps.map Prod.snd) bs 0 T R) (hl : ps.length = bs.length) : solB T R x = solB ps bs x := by
  obtain ⟨ss, h1, h2, h3, h4⟩ := h
  rw [List.drop_zero] at h1 h3 h4
  have hz := zip_sign x ss (ps.map Prod.snd) bs h1 h2 (by simpa using hl)
  unfold solB
  rw [Bool.eq_iff_iff, beq_iff_eq, beq_iff_eq]
  have e1 : ps.map (fun q => dotL q.2 x) = (ps.map Prod.snd).map (fun r => dotL r x) := by rw [List.map_map]; rfl
  have e2 : (T.map (fun q => dotL q.2 x)) = ((T.map Prod.snd).map (fun r => dotL r x)) := by rw [List.map_map]; rfl
  rw [e1, e2, ← hz, ← h3, ← h4, ← List.map_reverse]
  constructor
  · intro h
    have := congrArg List.reverse h
    rw [← List.map_reverse] at this
    simpa [List.map_reverse] using this
  · intro h
    have := congrArg List.reverse h
    simpa [List.map_reverse] using this
theorem Sg.cellb {w0 W : World} {p : Value} {d B : Nat} {vm : Value} {ps : List Row} {bb ob n cB : Nat} {bs : List Int} {q : Row} {v7 : Value} {T : List Row} {v8 : Value} {R : List Int} (h : Sg w0 p d B vm ps (.slice (some ⟨bb, ob, none⟩) n cB) bs q v7 T v8 R W) {i : Nat} {z : Int} (hz : bs[i]?.getD 0 = z) (hi : i < bs.length) : W.cell? ⟨bb, ob + i, none⟩ = some (.int .i64 z) := by
  obtain ⟨_, _, hv, _, _, hbc⟩ := h.vec.1
  simp only [Value.slice.injEq] at hv
  obtain ⟨rfl, -, -⟩ := hv
  obtain ⟨b, o, e, hc⟩ := Ints.at hbc hi
  cases e
  rw [hc, hz]
theorem Turned.len {rows : List (List Int)} {bs : List Int} {i : Nat} {T : List Row} {R : List Int} (h : Turned rows bs i T R) : T.length ≤ rows.length ∧ R.length ≤ rows.length := by
  obtain ⟨ss, h1, h2, h3, h4⟩ := h
  have e1 := congrArg List.length h3
  have e2 := congrArg List.length h4
  rw [List.length_reverse, List.length_map, List.length_zipWith] at e1
  rw [List.length_reverse, List.length_zipWith] at e2
  rw [List.length_drop] at h1
  rw [List.length_drop] at e1
  omega
theorem cN1 (w : World) (x : Value) (e : TypeId) : (w.alloc (.cells #[x] e)).drew.cell? ⟨w.heap.size, 0, none⟩ = some x := cell_new1 w x e
theorem cN2 (w : World) (x : Value) (e : TypeId) (o : Obj) : ((w.alloc (.cells #[x] e)).alloc o).drew.cell? ⟨w.heap.size, 0, none⟩ = some x := (World.grownBy_alloc _ o none).cell (cell_new1 w x e) (by simp)
theorem cN3 (w : World) (x : Value) (e : TypeId) (o : Obj) : ((w.alloc o).alloc (.cells #[x] e)).drew.cell? ⟨w.heap.size + 1, 0, none⟩ = some x := by
  have := cell_new1 (w.alloc o) x e
  rw [size_al] at this
  exact this
theorem Turned.zeros {rows : List (List Int)} {bs : List Int} {r : Nat} {T : List Row} {R : List Int} (h : Turned rows bs 0 T R) (hr : rows.length = r) : Turned rows (zerosL r) 0 T (zerosL r) := by
  obtain ⟨ss, h1, h2, h3, -⟩ := h
  refine ⟨ss, h1, h2, h3, ?_⟩
  rw [List.drop_zero] at h1 ⊢
  unfold zerosL
  rw [List.reverse_replicate]
  apply List.ext_getElem
  · rw [List.length_replicate, List.length_zipWith, List.length_replicate]; omega
  · intro i h5 h6
    rw [List.getElem_replicate, List.getElem_zipWith, List.getElem_replicate, Int.mul_zero]
theorem sign_bd {s x M : Int} (hs : s = 1 ∨ s = -1) (hx : -M ≤ x ∧ x ≤ M) : -M ≤ s * x ∧ s * x ≤ M := by
  rcases hs with rfl | rfl <;> omega
theorem Turned.ok {r c : Nat} {ps T : List Row} {bs R : List Int} (h : Turned (ps.map Prod.snd) bs 0 T R) (hm : MatOkP r c ps) (hb : RightOk r bs) : MatOkP r c T ∧ RightOk r R := by
  obtain ⟨ss, h1, h2, h3, h4⟩ := h
  rw [List.drop_zero] at h1 h3 h4
  rw [List.length_map] at h1
  have e1 := congrArg List.length h3
  have e2 := congrArg List.length h4
  rw [List.length_reverse, List.length_map, List.length_zipWith, List.length_map] at e1
  rw [List.length_reverse, List.length_zipWith] at e2
  have l0 := hm.1
  have l1 := hb.1
  refine ⟨⟨by omega, hm.2.1, hm.2.2.1, hm.2.2.2.1, hm.2.2.2.2.1, hm.2.2.2.2.2.1, fun q hq => ?_⟩, by omega, fun b hb' => ?_⟩
  · have : q.2 ∈ (T.map Prod.snd).reverse := List.mem_reverse.2 (List.mem_map_of_mem hq)
    rw [h3] at this
    obtain ⟨i, hi, e⟩ := List.getElem_of_mem this
    rw [List.length_zipWith, List.length_map] at hi
    rw [List.getElem_zipWith, List.getElem_map] at e
    have hp := hm.2.2.2.2.2.2 _ (List.getElem_mem (show i < ps.length by omega))
    have hs := h2 _ (List.getElem_mem (show i < ss.length by omega))
    rw [← e]
    refine ⟨by rw [List.length_map]; exact hp.1, fun x hx => ?_⟩
    obtain ⟨y, hy, rfl⟩ := List.mem_map.1 hx
    exact sign_bd (M := 16) hs (hp.2 y hy)
  · have : b ∈ R.reverse := List.mem_reverse.2 hb'
    rw [h4] at this
    obtain ⟨i, hi, e⟩ := List.getElem_of_mem this
    rw [List.length_zipWith] at hi
    rw [List.getElem_zipWith] at e
    have hp := hb.2 _ (List.getElem_mem (show i < bs.length by omega))
    have hs := h2 _ (List.getElem_mem (show i < ss.length by omega))
    rw [← e]
    exact sign_bd (M := 1048576) hs hp
theorem good_congr {ms ns : List Row} {bs cs : List Int} {cnt : List Int → Bool} (h : ∀ x, solB ms bs x = solB ns cs x) (xs : List (List Int)) : minL (goodB ms bs cnt) xs = minL (goodB ns cs cnt) xs := minL_congr (fun x => by unfold goodB; rw [h]) xs
end Go.Proofs.Ytgcfafjgaifmiaa
