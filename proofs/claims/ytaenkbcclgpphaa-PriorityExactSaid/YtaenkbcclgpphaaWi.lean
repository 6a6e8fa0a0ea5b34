/- The word with one more letter; the calls of merges; more rows. -/
import Derived.Test.YtaenkbcclgpphaaAs
import Derived.Test.YtaenkbcclgpphaaDr
import Derived.Test.YtaenkbcclgpphaaWc
import Derived.Test.YtaenkbcclgpphaaCn
namespace Go.Proofs.Ytaenkbcclgpphaa
open Go.RowKit
set_option linter.unusedVariables false

theorem row_new {w w' : World} {g : Nat} {x : Int} (h : w'.heap[g]? = some (.cells #[.int .i64 x] 3 (0, 0))) (hx : -9223372036854775808 ≤ x ∧ x ≤ 9223372036854775807) : RowOk w' (.slice (some ⟨g, 0, none⟩) 1 1, [x]) := by
  refine ⟨ints_blk [x] 1 1 h rfl (by decide) (by simpa using hx) (by simp), Good.some _ (Nat.le_refl _), fun g' hg => ?_⟩
  simp only [Value.ownBlock, Option.some.injEq] at hg
  subst hg
  exact (Array.getElem?_eq_some_iff.1 h).1

theorem rows_three {w w' : World} {u1 u2 u3 : Value} {x1 x2 x3 : List Int} {g : Nat} (h : w'.heap[g]? = some (.cells #[u1, u2, u3] 22 (0, 0))) (hg : w.grownBy w' none) (h1 : RowOk w (u1, x1)) (h2 : RowOk w (u2, x2)) (h3 : RowOk w (u3, x3)) :
    RowsP w' (.slice (some ⟨g, 0, none⟩) 3 3) [(u1, x1), (u2, x2), (u3, x3)] :=
  rows_blk _ 3 3 h rfl (by decide) rfl (by intro p hp; simp at hp; rcases hp with rfl | rfl | rfl; exact h1.same hg; exact h2.same hg; exact h3.same hg)

set_option maxRecDepth 100000 in
set_option maxHeartbeats 1000000 in
theorem with_any (v : Value) (xs : List Int) (x : Int) (w : World) (h : RowOk w (v, xs)) (hx : -9223372036854775808 ≤ x ∧ x ≤ 9223372036854775807) (hl : xs.length ≤ 1000) :
    Calls Try.prog 75 #[v, .int .i64 x] w (Made (xs ++ [x]) w) := by
  have H := Lib.hid h
  have HX := Lib.hid hx
  obtain ⟨⟨a, cap, hv, -, -, -⟩, -, -⟩ := h
  simp only at hv
  subst hv
  clear hx
  go_enter Try.func75, Try.ntmps75
  go_wp2_with fail
  refine (concat_any _ [(.slice a xs.length cap, xs), (.slice (some ⟨w.heap.size, 0, none⟩) 1 1, [x])] _ (rows_two (heap_new _ (by show _ = (w.heap.push _).size; simp)) (World.grownBy_alloc _ _ none) (H.out.same (World.grownBy_alloc _ _ none)) (row_new (w := w) (heap_new _ rfl) HX.out)) (by simp; omega)).mono ?_
  rintro e w1 ⟨v1, rfl, ho, hg⟩
  have HO := Lib.hid ho; have HG := Lib.hid hg
  clear ho hg
  go_wp2_with fail
  go_ret
  refine ⟨_, rfl, ?_, grown_trans (grown_trans (World.grownBy_alloc _ _ none) (World.grownBy_alloc _ _ none)) HG.out⟩
  have h1 := HO.out
  rw [show [(Value.slice a xs.length cap, xs), (Value.slice (some ⟨w.heap.size, 0, none⟩) 1 1, [x])].flatMap Prod.snd = xs ++ [x] by simp] at h1
  exact h1.mono (grown_trans (World.grownBy_alloc w _ none) (World.grownBy_alloc _ _ none)).size

/-- The call of with, inside a region that draws its order. -/
theorem step_with {ops : Array Oper} {a : Act} {w : World} {K : Act → World → Prop} {Q : Exit → Act → World → Prop} {E : Prop} (d x0 x1 : Nat) (ty : TypeId) (pos : String) (af : Array Edge)
    (v : Value) (xs : List Int) (z : Int) (hx0 : a.tmps.getD x0 undef = v) (hx1 : a.tmps.getD x1 undef = .int .i64 z) (h : RowOk w (v, xs)) (hz : -9223372036854775808 ≤ z ∧ z ≤ 9223372036854775807) (hl : xs.length ≤ 1000)
    (k : ∀ a' n' c' w', n' = (xs ++ [z]).length → OwnI w' w.heap.size (.slice a' n' c') (xs ++ [z]) → w.grownBy w' none → K (a.put (some d) (.slice a' n' c')) w') :
    if Region.wanted { dst := some d, op := .call { callee := .value (.func 75), args := #[.tmp x0, .tmp x1], argTypes := #[22, 3] }, type := ty, pos := pos, after := af, guard := none } (yielded ops a.tmps) = true
    then Oper.wp Try.prog { dst := some d, op := .call { callee := .value (.func 75), args := #[.tmp x0, .tmp x1], argTypes := #[22, 3] }, type := ty, pos := pos, after := af, guard := none } a w K Q else E := by
  have hw : Region.wanted { dst := some d, op := .call { callee := .value (.func 75), args := #[.tmp x0, .tmp x1], argTypes := #[22, 3] }, type := ty, pos := pos, after := af, guard := none } (yielded ops a.tmps) = true := by simp [Region.wanted]
  rw [if_pos hw]
  have hc := with_any v xs z w h hz hl
  have he0 : a.eval (.tmp x0) = v := hx0
  have he1 : a.eval (.tmp x1) = .int .i64 z := hx1
  unfold Oper.wp execOp
  simp only [resolve, Deferred.ofValue, List.map_toArray, List.map_cons, List.map_nil, he0, he1]
  go_simp
  refine hc.mono ?_
  rintro e w1 ⟨v1, rfl, ho, hg⟩
  obtain ⟨a', c', rfl⟩ : ∃ a' c', v1 = .slice a' (xs ++ [z]).length c' := by
    rcases ho.2 with ⟨hv, h0⟩ | ⟨g, cap, cur, hv, _⟩
    · exact ⟨none, 0, by rw [hv, h0]⟩
    · exact ⟨_, cap, hv⟩
  exact k a' _ c' w1 rfl ho hg

/-- Rows that a call makes, all of them in blocks of its own. -/
def MadeF (rs : List (List Int)) (w : World) (e : Ending) (w' : World) : Prop :=
  ∃ v qs, e = .returned v ∧ OwnP w' w.heap.size v qs ∧ qs.map Prod.snd = rs ∧ w.grownBy w' none ∧ ∀ p ∈ qs, ∀ g, p.1.ownBlock = some g → w.heap.size ≤ g

/-- The call of merges, inside a region that draws its order. -/
theorem step_merges {ops : Array Oper} {a : Act} {w : World} {K : Act → World → Prop} {Q : Exit → Act → World → Prop} {E : Prop} (d x0 x1 x2 : Nat) (ty : TypeId) (pos : String) (af : Array Edge)
    (v1 v2 v3 : Value) (rs : List (List Int)) (hx0 : a.tmps.getD x0 undef = v1) (hx1 : a.tmps.getD x1 undef = v2) (hx2 : a.tmps.getD x2 undef = v3) (hc : Calls Try.prog 54 #[v1, v2, v3] w (MadeF rs w))
    (k : ∀ a' n' c' w' qs, n' = qs.length → OwnP w' w.heap.size (.slice a' n' c') qs → qs.map Prod.snd = rs → w.grownBy w' none → (∀ p ∈ qs, ∀ g, p.1.ownBlock = some g → w.heap.size ≤ g) → K (a.put (some d) (.slice a' n' c')) w') :
    if Region.wanted { dst := some d, op := .call { callee := .value (.func 54), args := #[.tmp x0, .tmp x1, .tmp x2], argTypes := #[22, 22, 22] }, type := ty, pos := pos, after := af, guard := none } (yielded ops a.tmps) = true
    then Oper.wp Try.prog { dst := some d, op := .call { callee := .value (.func 54), args := #[.tmp x0, .tmp x1, .tmp x2], argTypes := #[22, 22, 22] }, type := ty, pos := pos, after := af, guard := none } a w K Q else E := by
  have hw : Region.wanted { dst := some d, op := .call { callee := .value (.func 54), args := #[.tmp x0, .tmp x1, .tmp x2], argTypes := #[22, 22, 22] }, type := ty, pos := pos, after := af, guard := none } (yielded ops a.tmps) = true := by simp [Region.wanted]
  rw [if_pos hw]
  have hc := hc
  have he0 : a.eval (.tmp x0) = v1 := hx0
  have he1 : a.eval (.tmp x1) = v2 := hx1
  have he2 : a.eval (.tmp x2) = v3 := hx2
  unfold Oper.wp execOp
  simp only [resolve, Deferred.ofValue, List.map_toArray, List.map_cons, List.map_nil, he0, he1, he2]
  go_simp
  refine hc.mono ?_
  rintro e w1 ⟨v1, qs, rfl, ho, hq, hg, hf⟩
  obtain ⟨a', c', rfl⟩ := ho.slice
  exact k a' _ c' w1 qs rfl ho hq hg hf

/-- More rows, inside a region that draws its order. -/
theorem step_app_rows {ops : Array Oper} {o : Oper} {a : Act} {w : World} {K : Act → World → Prop} {Q : Exit → Act → World → Prop} {E : Prop} (hgd : o.guard = none) (s x : Operand)
    (ho : o.op = .call { callee := .builtin .append, args := #[s, x], argTypes := #[35, 35] }) (base : Nat) (v : Value) (ps : List Row) (hs : a.eval s = v)
    (hown : OwnP w base v ps) (v2 : Value) (qs : List Row) (hx : a.eval x = v2) (h2 : RowsP w v2 qs) (hd : ∀ q ∈ qs, ∀ g, q.1.ownBlock = some g → v.ownBlock ≠ some g)
    (hq0 : 0 < qs.length) (hlen : ps.length + qs.length ≤ 1000000000000) (hbase : base ≤ w.heap.size)
    (h : ∀ a' n' c' w', n' = (ps ++ qs).length → OwnP w' base (.slice a' n' c') (ps ++ qs) → w.grownBy w' v.ownBlock → K (a.put o.dst (.slice a' n' c')) w') : if Region.wanted o (yielded ops a.tmps) = true then Oper.wp Try.prog o a w K Q else E := by
  have hw : Region.wanted o (yielded ops a.tmps) = true := by simp [Region.wanted, hgd]
  rw [if_pos hw]
  obtain ⟨i, hi, hz0, hz1, hz2⟩ := info_parts info_row
  obtain ⟨a2, cap2, hv2, hm2, hc2, hr2⟩ := h2
  rcases hc2 with rfl | ⟨b, off, rfl, hc2⟩
  · simp at hq0
  refine wp_append_lies w s x 35 ho base 22 i (.slice none 0 0) 1 24 Try.underlying35 hi hz0 hz1 hz2 rfl (by decide) v ps.length (ps.map Prod.fst) hs hown.1 ⟨b, off, none⟩ qs.length cap2 (qs.map Prod.fst) (hx.trans hv2) (by simp) ?_ ?_ hq0 ?_ ?_ hbase w.heap.size rfl ?_
  · intro j u hu
    have hj : j < qs.length := by
      rcases Nat.lt_or_ge j qs.length with h | h
      · exact h
      · rw [List.getElem?_eq_none (by simpa using h)] at hu; cases hu
    have := hc2 j hj
    have he : (⟨b, off, none⟩ : Addr).add j = ⟨b, off + j, none⟩ := by
      unfold Addr.add
      split
      · next h0 => rw [h0]; rfl
      · rfl
    rw [he, this]
    simp [hj] at hu ⊢
    exact hu
  · intro u hu
    obtain ⟨q, hq, rfl⟩ := List.mem_map.1 hu
    exact slice_one (hr2 q hq)
  · unfold maxLen; omega
  · omega
  · intro g cap w' k1 k2 k3 _
    refine h _ _ _ w' (by simp) ⟨by simpa using k1, ?_⟩ k2
    intro q hq
    have hq' : RowOk w q ∧ ∀ g, q.1.ownBlock = some g → v.ownBlock ≠ some g := by
      rcases List.mem_append.1 hq with hq | hq
      · exact hown.2 q hq
      · exact ⟨hr2 q hq, hd q hq⟩
    refine ⟨hq'.1.kept k2 (fun k hk e => hq'.2 k e hk), fun g' hg e => ?_⟩
    simp only [Value.ownBlock, Option.some.injEq] at e
    subst e
    rcases k3 with k3 | k3
    · exact hq'.2 _ hg k3
    · have := hq'.1.2.2 _ hg; omega

end Go.Proofs.Ytaenkbcclgpphaa
