/- Calls and appends of whatever rows, at a step of a region that draws its order and in a plain one. -/
import Derived.Test.YtahffjoehjpfkaaCn
namespace Go.Proofs.Ytahffjoehjpfkaa
open Go.RowKit
set_option linter.unusedVariables false

theorem grown_after {w w1 : World} {o : Obj} {row : Option Nat} (h : w.grownBy w1 row) : w.grownBy (w1.alloc o) row := grown_trans h (World.grownBy_alloc _ _ _)

/-- A call of a Go function at a step of a region that draws its order. -/
theorem step_call {ops : Array Oper} {a : Act} {w : World} {K : Act → World → Prop} {Q : Exit → Act → World → Prop} {E : Prop} (d : Nat) (F : FuncId) (xs : List Operand) (tys : Array TypeId) (ty : TypeId) (pos : String) (af : Array Edge)
    (fn : Func) (c : Code) (hf : Try.prog.funcs[F]? = some fn) (hname : (fn.name == "runtime.NumGoroutine") = false) (hb : fn.body = some c) (vs : List Value) (he : xs.map a.eval = vs) (Post : Ending → World → Prop) (hc : Calls Try.prog F vs.toArray w Post)
    (k : ∀ e w', Post e w' → ∃ v, e = .returned v ∧ K (a.put (some d) v) w') :
    if Region.wanted { dst := some d, op := .call { callee := .value (.func F), args := xs.toArray, argTypes := tys }, type := ty, pos := pos, after := af, guard := none } (yielded ops a.tmps) = true
    then Oper.wp Try.prog { dst := some d, op := .call { callee := .value (.func F), args := xs.toArray, argTypes := tys }, type := ty, pos := pos, after := af, guard := none } a w K Q else E := by
  have hw : Region.wanted { dst := some d, op := .call { callee := .value (.func F), args := xs.toArray, argTypes := tys }, type := ty, pos := pos, after := af, guard := none } (yielded ops a.tmps) = true := by simp [Region.wanted]
  rw [if_pos hw]
  subst he
  unfold Oper.wp execOp
  have h1 : fn.name ≠ "runtime.NumGoroutine" := by simpa using hname
  have hrun : (callFunc F (xs.map a.eval).toArray).run Try.prog w = .ok (.enter F (xs.map a.eval).toArray) w := by simp [callFunc, hf, h1, hb]
  simp only [resolve, Deferred.ofValue, List.map_toArray]
  go_simp
  refine hc.mono ?_
  intro e w1 hp
  obtain ⟨v, rfl, hk⟩ := k e w1 hp
  exact hk

/-- The same, behind a guard. -/
theorem step_callG {ops : Array Oper} {a : Act} {w : World} {K : Act → World → Prop} {Q : Exit → Act → World → Prop} {E : Prop} (d : Nat) (F : FuncId) (xs : List Operand) (tys : Array TypeId) (ty : TypeId) (pos : String) (af : Array Edge) (gd : Option (Nat × Bool))
    (fn : Func) (c : Code) (hw : Region.wanted { dst := some d, op := .call { callee := .value (.func F), args := xs.toArray, argTypes := tys }, type := ty, pos := pos, after := af, guard := gd } (yielded ops a.tmps) = true) (hf : Try.prog.funcs[F]? = some fn) (hname : (fn.name == "runtime.NumGoroutine") = false) (hb : fn.body = some c) (vs : List Value) (he : xs.map a.eval = vs) (Post : Ending → World → Prop) (hc : Calls Try.prog F vs.toArray w Post)
    (k : ∀ e w', Post e w' → ∃ v, e = .returned v ∧ K (a.put (some d) v) w') :
    if Region.wanted { dst := some d, op := .call { callee := .value (.func F), args := xs.toArray, argTypes := tys }, type := ty, pos := pos, after := af, guard := gd } (yielded ops a.tmps) = true
    then Oper.wp Try.prog { dst := some d, op := .call { callee := .value (.func F), args := xs.toArray, argTypes := tys }, type := ty, pos := pos, after := af, guard := gd } a w K Q else E := by
  rw [if_pos hw]
  subst he
  unfold Oper.wp execOp
  have h1 : fn.name ≠ "runtime.NumGoroutine" := by simpa using hname
  have hrun : (callFunc F (xs.map a.eval).toArray).run Try.prog w = .ok (.enter F (xs.map a.eval).toArray) w := by simp [callFunc, hf, h1, hb]
  simp only [resolve, Deferred.ofValue, List.map_toArray]
  go_simp
  refine hc.mono ?_
  intro e w1 hp
  obtain ⟨v, rfl, hk⟩ := k e w1 hp
  exact hk

theorem run_append_zero {P : Program} {w : World} (base : Nat) (t ty e : TypeId) (i : TypeInfo) (size : Nat) (ht : P.underlying t = some (.slice e)) (hi : P.info? e = some i)
    (v : Value) (n : Nat) (xs : List Value) (hown : w.ownsRow base e size v n xs) (ad : Option Addr) (c : Nat) :
    (Builtin.append_ #[t, t] ty #[v, .slice ad 0 c]).run P w = .ok v w := by
  rcases hown.2 with ⟨rfl, rfl⟩ | ⟨g, cap, cur, rfl, _, _, hnc, _⟩
  · cases ad <;> simp [Builtin.append_, run_underlying ht, sizeOf, typeInfo, hi, Builtin.lenOf, Builtin.firstCells, loadCells, loadCellsFrom, Result.andThen]
  · cases ad <;> simp [Builtin.append_, run_underlying ht, sizeOf, typeInfo, hi, Builtin.lenOf, Builtin.firstCells, hnc, storeCells, loadCells, loadCellsFrom, Result.andThen]

theorem add_block (a : Addr) (n : Nat) : (a.add n).block = a.block := by
  unfold Addr.add
  split <;> rfl

theorem wp_app_all {o : Oper} {a : Act} {w : World} {K : Act → World → Prop} {Q : Exit → Act → World → Prop} (s x : Operand)
    (ho : o.op = .call { callee := .builtin .append, args := #[s, x], argTypes := #[28, 28] }) (base : Nat) (v : Value) (ps : List Row) (hs : a.eval s = v)
    (hown : OwnP w base v ps) (v2 : Value) (qs : List Row) (hx : a.eval x = v2) (h2 : RowsP w v2 qs) (hd : ∀ q ∈ qs, ∀ g, q.1.ownBlock = some g → v.ownBlock ≠ some g)
    (hlen : ps.length + qs.length ≤ 1000000000000) (hbase : base ≤ w.heap.size)
    (h : ∀ a' n' c' w', n' = (ps ++ qs).length → OwnP w' base (.slice a' n' c') (ps ++ qs) → w.grownBy w' v.ownBlock → K (a.put o.dst (.slice a' n' c')) w') : Oper.wp Try.prog o a w K Q := by
  obtain ⟨i, hi, hz0, hz1, hz2⟩ := info_parts info_row
  rcases Nat.eq_zero_or_pos qs.length with h0 | hq0
  · have e0 : qs = [] := List.eq_nil_of_length_eq_zero h0
    subst e0
    obtain ⟨a2, cap2, rfl, -⟩ := h2
    obtain ⟨a', c', rfl⟩ := hown.slice
    have hr := run_append_zero (P := Try.prog) (w := w) base 28 o.type 22 i 1 Try.underlying28 hi _ _ _ hown.1 a2 cap2
    unfold Oper.wp execOp
    simp only [ho, resolve, invoke, builtin, Sem.run_bind, Sem.run_pure, Result.andThen_ok, List.map_toArray, List.map_cons, List.map_nil, hs, hx, List.length_nil, hr]
    exact h a' _ c' w (by simp) (by rw [List.append_nil]; exact hown) (grown_refl _ _)
  obtain ⟨a2, cap2, hv2, hm2, hc2, hr2⟩ := h2
  rcases hc2 with rfl | ⟨b, off, rfl, hc2⟩
  · simp at hq0
  refine wp_append_lies w s x 28 ho base 22 i (.slice none 0 0) 1 24 Try.underlying28 hi hz0 hz1 hz2 rfl (by decide) v ps.length (ps.map Prod.fst) hs hown.1 ⟨b, off, none⟩ qs.length cap2 (qs.map Prod.fst) (hx.trans hv2) (by simp) ?_ ?_ hq0 ?_ ?_ hbase w.heap.size rfl ?_
  · intro j u hu
    have hj : j < qs.length := by
      rcases Nat.lt_or_ge j qs.length with h | h
      · exact h
      · rw [List.getElem?_eq_none (by simpa using h)] at hu; cases hu
    have := hc2 j hj
    have he : (⟨b, off, none⟩ : Addr).add j = ⟨b, off + j, none⟩ := by
      unfold Addr.add
      split
      · next h0 => rw [h0]; rfl
      · rfl
    rw [he, this]
    simp [hj] at hu ⊢
    exact hu
  · intro u hu
    obtain ⟨q, hq, rfl⟩ := List.mem_map.1 hu
    exact slice_one (hr2 q hq)
  · unfold maxLen; omega
  · omega
  · intro g cap w' k1 k2 k3 _
    refine h _ _ _ w' (by simp) ⟨by simpa using k1, ?_⟩ k2
    intro q hq
    have hq' : RowOk w q ∧ ∀ g, q.1.ownBlock = some g → v.ownBlock ≠ some g := by
      rcases List.mem_append.1 hq with hq | hq
      · exact hown.2 q hq
      · exact ⟨hr2 q hq, hd q hq⟩
    refine ⟨hq'.1.kept k2 (fun k hk e => hq'.2 k e hk), fun g' hg e => ?_⟩
    simp only [Value.ownBlock, Option.some.injEq] at e
    subst e
    rcases k3 with k3 | k3
    · exact hq'.2 _ hg k3
    · have := hq'.1.2.2 _ hg; omega

theorem nil_far (qs : List Row) : ∀ q ∈ qs, ∀ g, q.1.ownBlock = some g → (Value.slice none 0 0).ownBlock ≠ some g := by intro _ _ _ _ h; cases h

theorem app_all {ops : Array Oper} {rest : List Oper} {o : Oper} {a : Act} {w : World} {Q : Exit → Act → World → Prop} (hgd : o.guard = none) (s x : Operand)
    (ho : o.op = .call { callee := .builtin .append, args := #[s, x], argTypes := #[28, 28] }) (base : Nat) (v : Value) (ps : List Row) (hs : a.eval s = v)
    (hown : OwnP w base v ps) (v2 : Value) (qs : List Row) (hx : a.eval x = v2) (h2 : RowsP w v2 qs) (hd : ∀ q ∈ qs, ∀ g, q.1.ownBlock = some g → v.ownBlock ≠ some g)
    (hlen : ps.length + qs.length ≤ 1000000000000) (hbase : base ≤ w.heap.size)
    (h : ∀ a' n' c' w', n' = (ps ++ qs).length → OwnP w' base (.slice a' n' c') (ps ++ qs) → w.grownBy w' v.ownBlock → wpList Try.prog ops Q rest (a.put o.dst (.slice a' n' c')) w') : wpList Try.prog ops Q (o :: rest) a w :=
  wpList_plain hgd fun _ hK => wp_app_all s x ho base v ps hs hown v2 qs hx h2 hd hlen hbase fun a' n' c' w' e1 e2 e3 => hK _ _ (h a' n' c' w' e1 e2 e3)

theorem step_app_all {ops : Array Oper} {o : Oper} {a : Act} {w : World} {K : Act → World → Prop} {Q : Exit → Act → World → Prop} {E : Prop} (hgd : o.guard = none) (s x : Operand)
    (ho : o.op = .call { callee := .builtin .append, args := #[s, x], argTypes := #[28, 28] }) (base : Nat) (v : Value) (ps : List Row) (hs : a.eval s = v)
    (hown : OwnP w base v ps) (v2 : Value) (qs : List Row) (hx : a.eval x = v2) (h2 : RowsP w v2 qs) (hd : ∀ q ∈ qs, ∀ g, q.1.ownBlock = some g → v.ownBlock ≠ some g)
    (hlen : ps.length + qs.length ≤ 1000000000000) (hbase : base ≤ w.heap.size)
    (h : ∀ a' n' c' w', n' = (ps ++ qs).length → OwnP w' base (.slice a' n' c') (ps ++ qs) → w.grownBy w' v.ownBlock → K (a.put o.dst (.slice a' n' c')) w') : if Region.wanted o (yielded ops a.tmps) = true then Oper.wp Try.prog o a w K Q else E := by
  have hw : Region.wanted o (yielded ops a.tmps) = true := by simp [Region.wanted, hgd]
  rw [if_pos hw]
  exact wp_app_all s x ho base v ps hs hown v2 qs hx h2 hd hlen hbase h

/-- All of a row behind a row of the call's own, at a step of a region that draws its order. -/
theorem wp_app_ints {o : Oper} {a : Act} {w : World} {K : Act → World → Prop} {Q : Exit → Act → World → Prop} (s x : Operand)
    (ho : o.op = .call { callee := .builtin .append, args := #[s, x], argTypes := #[22, 22] }) (base : Nat) (v : Value) (xs : List Int) (hs : a.eval s = v)
    (hown : OwnI w base v xs) (u : Value) (ys : List Int) (hx : a.eval x = u) (hu : Ints w u ys) (hlen : xs.length + ys.length ≤ 1000000000000) (hbase : base ≤ w.heap.size)
    (h : ∀ a' n' c' w', n' = (xs ++ ys).length → OwnI w' base (.slice a' n' c') (xs ++ ys) → w.grownBy w' v.ownBlock → K (a.put o.dst (.slice a' n' c')) w') : Oper.wp Try.prog o a w K Q := by
  obtain ⟨i, hi, hz0, hz1, hz2⟩ := info_parts info_int
  have opened : ∀ {w : World} {base : Nat} {v : Value} {xs : List Int}, OwnI w base v xs → ∃ a c, v = .slice a xs.length c := by
    intro w base v xs h
    rcases h.2 with ⟨hv, h0⟩ | ⟨g, cap, cur, hv, _⟩
    · exact ⟨none, 0, by rw [hv, h0]⟩
    · exact ⟨_, cap, hv⟩
  obtain ⟨au, cu, rfl, hm, hb, hc⟩ := hu
  rcases Nat.eq_zero_or_pos ys.length with h0 | hq0
  · have e0 : ys = [] := List.eq_nil_of_length_eq_zero h0
    subst e0
    obtain ⟨a', c', rfl⟩ := opened hown
    have hr := run_append_zero (P := Try.prog) (w := w) base 22 o.type 3 i 1 Try.underlying22 hi _ _ _ hown au cu
    unfold Oper.wp execOp
    simp only [ho, resolve, invoke, builtin, Sem.run_bind, Sem.run_pure, Result.andThen_ok, List.map_toArray, List.map_cons, List.map_nil, hs, hx, List.length_nil, hr]
    exact h a' _ c' w (by simp) (by rw [List.append_nil]; exact hown) (grown_refl _ _)
  rcases hc with rfl | ⟨b, off, rfl, hc⟩
  · simp at hq0
  refine wp_append_own (w := w) s x 22 ho base 3 i (.int .i64 0) 1 8 Try.underlying22 hi hz0 hz1 hz2 rfl (by decide) v xs.length (xs.map (Value.int .i64)) hs hown ⟨b, off, none⟩ ys.length cu (ys.map (Value.int .i64)) hx (by simp) ?_ ?_ ?_ ?_ hbase ?_
  · intro j z hz
    have hj : j < ys.length := by
      rcases Nat.lt_or_ge j ys.length with h1 | h1
      · exact h1
      · rw [List.getElem?_eq_none (by simpa using h1)] at hz; cases hz
    rw [show (Addr.mk b off none).add j = ⟨b, off + j, none⟩ by unfold Addr.add; split <;> simp_all, hc j hj, ← hz]
    simp [hj]
  · intro z hz
    obtain ⟨y, -, rfl⟩ := List.mem_map.1 hz
    rfl
  · unfold maxLen; omega
  · omega
  · intro v' w' h1 h2 _
    have ho' : OwnI w' base v' (xs ++ ys) := by unfold OwnI; simpa using h1
    obtain ⟨a', c', rfl⟩ := opened ho'
    exact h a' _ c' w' rfl ho' h2

theorem step_app_ints {ops : Array Oper} {o : Oper} {a : Act} {w : World} {K : Act → World → Prop} {Q : Exit → Act → World → Prop} {E : Prop} (hgd : o.guard = none) (s x : Operand)
    (ho : o.op = .call { callee := .builtin .append, args := #[s, x], argTypes := #[22, 22] }) (base : Nat) (v : Value) (xs : List Int) (hs : a.eval s = v)
    (hown : OwnI w base v xs) (u : Value) (ys : List Int) (hx : a.eval x = u) (hu : Ints w u ys) (hlen : xs.length + ys.length ≤ 1000000000000) (hbase : base ≤ w.heap.size)
    (h : ∀ a' n' c' w', n' = (xs ++ ys).length → OwnI w' base (.slice a' n' c') (xs ++ ys) → w.grownBy w' v.ownBlock → K (a.put o.dst (.slice a' n' c')) w') : if Region.wanted o (yielded ops a.tmps) = true then Oper.wp Try.prog o a w K Q else E := by
  have hw : Region.wanted o (yielded ops a.tmps) = true := by simp [Region.wanted, hgd]
  rw [if_pos hw]
  exact wp_app_ints s x ho base v xs hs hown u ys hx hu hlen hbase h

set_option maxRecDepth 20000 in
/-- The tail of a row: one value for it, whatever is left. -/
theorem row_tail {w : World} {a : Option Addr} {n cap k : Nat} {xs : List Int} (h : RowOk w (.slice a n cap, xs)) (hk : k ≤ xs.length) :
    ∃ a' c', (∀ w', (Instr.slice 22 (.slice a n cap) (some (.int .i64 (k : Int))) none none).run Try.prog w' = .ok (.slice a' (n - k) c') w') ∧ RowOk w (.slice a' (n - k) c', xs.drop k) ∧ ∀ g, Value.ownBlock (.slice a' (n - k) c') = some g → Value.ownBlock (.slice a n cap) = some g := by
  obtain ⟨i, hi, hz0, hz1, hz2⟩ := info_parts info_int
  have h' := h
  obtain ⟨⟨a1, cap1, hv, hl, hb, hc⟩, hg, hf⟩ := h
  simp only [Value.slice.injEq] at hv
  obtain ⟨rfl, rfl, rfl⟩ := hv
  have hcap := hg.2 _ _ _ rfl
  dsimp only at hl hb hc hf hcap hk ⊢
  have hrun : ∀ w', (Instr.slice 22 (.slice a xs.length cap) (some (.int .i64 (k : Int))) none none).run Try.prog w' = .ok (.slice (if cap = k then a else a.map (·.add k)) (xs.length - k) (cap - k)) w' := by
    intro w'
    rw [run_slice_l w' 22 a xs.length cap Try.underlying22 .i64 (k : Int) (by omega) (by omega)]
    rw [show Try.prog.elem 22 = 3 by kernel_rfl]
    simp [sizeOf, typeInfo, hi, hz1, sliced, Result.andThen]
  refine ⟨_, _, hrun, ?_, ?_⟩
  · cases a with
    | none =>
      have := hg.1 _ _ rfl
      have e0 : xs = [] := List.eq_nil_of_length_eq_zero this.1
      subst e0
      obtain rfl : k = 0 := by simpa using hk
      obtain rfl : cap = 0 := this.2
      simpa using h'
    | some ad =>
      rcases hc with rfl | ⟨b, off, hab, hc⟩
      · obtain rfl : k = 0 := by simpa using hk
        by_cases hc0 : cap = 0
        · rw [if_pos hc0]; subst hc0; simpa using h'
        · rw [if_neg hc0]
          refine ⟨⟨Option.map (·.add 0) (some ad), cap - 0, rfl, Nat.zero_le _, by simp, .inl rfl⟩, ?_, ?_⟩
          · exact Good.some _ (by simp)
          · intro g hg'
            simp only [Option.map_some, Value.ownBlock, add_block, Option.some.injEq] at hg'
            exact hf g (by simp only [Value.ownBlock]; rw [← hg'])
      · simp only [Option.some.injEq] at hab
        subst hab
        by_cases hck : cap = k
        · rw [if_pos hck]
          have hkl : k = xs.length := by omega
          refine ⟨⟨some ⟨b, off, none⟩, cap - k, by simp, by simp; omega, fun x hx => hb x (List.mem_of_mem_drop hx), .inl (List.drop_eq_nil_of_le (by omega))⟩, Good.some _ (by omega), ?_⟩
          intro g hg'
          exact hf g hg'
        · rw [if_neg hck]
          have he : (⟨b, off, none⟩ : Addr).add k = ⟨b, off + k, none⟩ := by unfold Addr.add; split <;> simp_all
          simp only [Option.map_some, he]
          refine ⟨⟨_, cap - k, by rw [List.length_drop], by show (xs.drop k).length ≤ maxLen; rw [List.length_drop]; omega, fun x hx => hb x (List.mem_of_mem_drop hx), ?_⟩, Good.some _ (by omega), fun g hg' => hf g hg'⟩
          refine .inr ⟨b, off + k, rfl, fun i hi => ?_⟩
          rw [List.length_drop] at hi
          rw [show off + k + i = off + (k + i) by omega, hc (k + i) (by omega), List.getElem?_drop]
  · intro g hg'
    cases a with
    | none => simp [Value.ownBlock] at hg'
    | some ad =>
      split at hg'
      · exact hg'
      · simp only [Option.map_some, Value.ownBlock, add_block, Option.some.injEq] at hg' ⊢
        exact hg'

end Go.Proofs.Ytahffjoehjpfkaa
