/- The reference's reduction: the state of its loops. -/
import Derived.Test.YtpnghgihepnepaaBw
import Derived.Test.YtpnghgihepnepaaBs
namespace Go.Proofs.Ytpnghgihepnepaa
open Go.RowKit
set_option linter.unusedVariables false

theorem app_int_blk {ops : Array Oper} {rest : List Oper} {o : Oper} {a : Act} {w : World} {Q : Exit → Act → World → Prop} (hgd : o.guard = none) (s x : Operand)
    (ho : o.op = .call { callee := .builtin .append, args := #[s, x], argTypes := #[22, 22] }) (base : Nat) (v : Value) (xs : List Int) (hs : a.eval s = v)
    (hown : OwnI w base v xs) (b : Nat) (y : Int) (hx : a.eval x = .slice (some ⟨b, 0, none⟩) 1 1) (hnew : w.cell? ⟨b, 0, none⟩ = some (.int .i64 y))
    (hlen : xs.length ≤ 1000000000000) (hbase : base ≤ w.heap.size)
    (h : ∀ v' w', OwnI w' base v' (xs ++ [y]) → w.grownBy w' v.ownBlock → (∀ g, v'.ownBlock = some g → v.ownBlock = some g ∨ w.heap.size ≤ g) → wpList Try.prog ops Q rest (a.put o.dst v') w') : wpList Try.prog ops Q (o :: rest) a w := by
  obtain ⟨i, hi, hz0, hz1, hz2⟩ := info_parts info_int
  refine wpList_plain hgd fun K hK => wp_append_lies w s x 22 ho base 3 i (.int .i64 0) 1 8 Try.underlying22 hi hz0 hz1 hz2 rfl (by decide) v xs.length (xs.map (Value.int .i64)) hs hown ⟨b, 0, none⟩ 1 1 [.int .i64 y] hx rfl ?_ ?_ (by decide) ?_ ?_ hbase w.heap.size rfl ?_
  · intro j u hu
    cases j with
    | zero => simp at hu; subst hu; simpa [Addr.add] using hnew
    | succ j => simp at hu
  · intro u hu; simp at hu; subst hu; rfl
  · unfold maxLen; omega
  · omega
  · intro g cap w' h1 h2 h3 _
    refine hK _ _ (h _ w' (by unfold OwnI; simpa using h1) h2 (fun g' hg' => by
      simp only [Value.ownBlock, Option.some.injEq] at hg'
      subst hg'
      rcases h3 with h3 | h3
      · exact .inl h3
      · exact .inr (by omega)))
structure RedR (w0 w : World) (v vp : Value) (qs : List Row) (pv : List Int) : Prop where
  mat : MatO w w0.heap.size v qs
  piv : RowBy w w0.heap.size vp pv v qs
  grow : w0.grownBy w none
theorem RedR.start (w : World) : RedR w w (.slice none 0 0) (.slice none 0 0) [] [] := ⟨MatO.nil _ _, RowBy.nil _ _ _ _, grown_refl _ _⟩
theorem RedR.same {w0 w w' : World} {v vp : Value} {qs : List Row} {pv : List Int} (h : RedR w0 w v vp qs pv) (g : w.grownBy w' none) : RedR w0 w' v vp qs pv :=
  ⟨h.mat.same g, h.piv.kept g (by simp), grown_trans h.grow g⟩
theorem RedR.fresh {w0 w : World} {v vp : Value} {qs : List Row} {pv : List Int} (h : RedR w0 w v vp qs pv) {j : Nat} (hj : w.heap.size ≤ j) : v.ownBlock ≠ some j ∧ (∀ p ∈ qs, p.1.ownBlock ≠ some j) ∧ vp.ownBlock ≠ some j :=
  ⟨(own_lt_of h.mat hj).1, (own_lt_of h.mat hj).2, fun e => by have := (h.piv.1.fresh j e).2; omega⟩
theorem RedR.push {w0 w w1 : World} {v v' : Value} {qs : List Row} {q : Row} (h : RedR w0 w v (.slice none 0 0) qs []) (hq : OwnI w w0.heap.size q.1 q.2)
    (hd : ∀ g, q.1.ownBlock = some g → v.ownBlock ≠ some g ∧ ∀ p ∈ qs, p.1.ownBlock ≠ some g) (ho : OwnP w1 w0.heap.size v' (qs ++ [q])) (hg : w.grownBy w1 v.ownBlock) : RedR w0 w1 v' (.slice none 0 0) (qs ++ [q]) [] :=
  ⟨h.mat.push hq hd ho hg, RowBy.nil _ _ _ _, grown_then h.grow hg (fun j hj => .inl (h.mat.own.fresh j hj).1)⟩
theorem RedR.piv1 {w0 w w1 : World} {v vp v1 : Value} {qs : List Row} {pv : List Int} {y : Int} (h : RedR w0 w v vp qs pv) (ho : OwnI w1 w0.heap.size v1 (pv ++ [y])) (hg : w.grownBy w1 vp.ownBlock)
    {H : Nat} (hb : ∀ g, v1.ownBlock = some g → vp.ownBlock = some g ∨ H ≤ g) (hH : w.heap.size = H) : RedR w0 w1 v v1 qs (pv ++ [y]) := by
  have h1 := RowBy.push h.mat h.piv (y := y) (by unfold OwnI at ho; simpa using ho) hg hb hH
  exact ⟨h1.2, h1.1, grown_then h.grow hg (fun j hj => .inl (h.piv.1.fresh j hj).1)⟩
theorem OwnP.caple {w : World} {base : Nat} {a : Option Addr} {n c : Nat} {ps : List Row} (h : OwnP w base (.slice a n c) ps) : n ≤ c := by
  rcases h.1.2 with ⟨h', _⟩ | ⟨g, cap, cur, h', _, _, hn, _⟩
  · simp only [Value.slice.injEq] at h'; omega
  · simp only [Value.slice.injEq] at h'; omega
/-- A fresh row in the place of row k. -/
theorem RedR.fill {w0 w1 w : World} {g n cap : Nat} {vp : Value} {qs : List Row} {pv : List Int} (h : RedR w0 w1 (.slice (some ⟨g, 0, none⟩) n cap) vp qs pv) (hg : w1.grownBy w none) {k : Nat} (hk : k < qs.length) (q : Row) (hq : OwnI w w1.heap.size q.1 q.2)
    (hb : ∀ x ∈ q.2, -9223372036854775808 ≤ x ∧ x ≤ 9223372036854775807) : RedR w0 (w.setCell ⟨g, k, none⟩ q.1) (.slice (some ⟨g, 0, none⟩) n cap) vp (qs.set k q) pv := by
  have hs := h.same hg
  have hgw := (h.mat.own.fresh g rfl).2
  have hbase : w0.heap.size ≤ g := (h.mat.own.fresh g rfl).1
  have hgr : w.grownBy (w.setCell ⟨g, k, none⟩ q.1) (some g) := grown_set w _ _
  have hw0 : w0.heap.size ≤ w1.heap.size := h.grow.size
  refine ⟨hs.mat.fill hk q (hq.mono hw0) hb (fun j hj => ?_), ⟨hs.piv.1.keptB hgr (fun j hj e => ?_), fun j hj => ?_⟩, grown_then hs.grow hgr (by rintro j ⟨⟩; exact .inl hbase)⟩
  · have h1 := (hq.fresh j hj).1
    refine ⟨by omega, fun i hi _ => (h.fresh h1).2.1 _ (List.getElem_mem hi)⟩
  · cases hj
    exact (hs.piv.2 g e).1 rfl
  · refine ⟨(hs.piv.2 j hj).1, fun p hp => ?_⟩
    rcases List.mem_or_eq_of_mem_set hp with hp | hp
    · exact (hs.piv.2 j hj).2 p hp
    · rw [hp]
      intro e
      have h1 := (hq.fresh j e).1
      have h2 := (h.piv.1.fresh j hj).2
      omega
theorem RedR.swap {w0 w : World} {g cap : Nat} {vp : Value} {qs : List Row} {pv : List Int} (h : RedR w0 w (.slice (some ⟨g, 0, none⟩) qs.length cap) vp qs pv) {k i : Nat} (hk : k < qs.length) (hi : i < qs.length) :
    RedR w0 ((w.setCell ⟨g, k, none⟩ qs[i].1).setCell ⟨g, i, none⟩ qs[k].1) (.slice (some ⟨g, 0, none⟩) qs.length cap) vp (swapP qs k i hk hi) pv := by
  have hgr : w.grownBy ((w.setCell ⟨g, k, none⟩ qs[i].1).setCell ⟨g, i, none⟩ qs[k].1) (some g) := grown_trans (grown_set w ⟨g, k, none⟩ qs[i].1) (grown_set _ ⟨g, i, none⟩ qs[k].1)
  have hbase : w0.heap.size ≤ g := (h.mat.own.fresh g rfl).1
  refine ⟨h.mat.swap hk hi, ⟨h.piv.1.keptB hgr (fun j hj e => ?_), fun j hj => ⟨(h.piv.2 j hj).1, fun p hp => (h.piv.2 j hj).2 p (swapP_mem hp)⟩⟩, grown_then h.grow hgr (by rintro j ⟨⟩; exact .inl hbase)⟩
  cases hj
  exact (h.piv.2 g e).1 rfl
theorem swap_snd {qs : List Row} {k i : Nat} (hk : k < qs.length) (hi : i < qs.length) : (swapP qs k i hk hi).map Prod.snd = swapO (qs.map Prod.snd) k i := by
  unfold swapP swapO
  rw [List.map_set, List.map_set, List.getElem?_map, List.getElem?_map, List.getElem?_eq_getElem hk, List.getElem?_eq_getElem hi]; rfl
theorem snd_at {qs : List Row} {t : Nat} (ht : t < qs.length) : (qs.map Prod.snd)[t]?.getD [] = qs[t].2 := by
  rw [List.getElem?_map, List.getElem?_eq_getElem ht]; rfl
/-- What the reference's reduction answers. -/
def RRed (w : World) (ps : List Row) (m : Nat) (e : Ending) (w' : World) : Prop := ∃ v vp qs pv R, e = .returned (.tuple #[v, vp]) ∧ RowsP w' v qs ∧ Ints w' vp pv ∧ (R, pv) = lredN (ps.map (fun q => primL q.2), []) m ∧ pv.length ≤ R.length ∧ qs.map Prod.snd = R.take pv.length ∧ w.grownBy w' none
theorem lred_stay {s : LSt} {k : Nat} (h : (lredN s k).2.length = (lredN s k).1.length) : ∀ n, lredN s (k + n) = lredN s k
  | 0 => rfl
  | n + 1 => by
    have ih := lred_stay h n
    show lstep (k + n) (lredN s (k + n)) = _
    rw [ih]
    unfold lstep
    rw [h, Nat.sub_self]
    rfl
theorem lred_piv (R : List (List Int)) : ∀ (k : Nat), ∀ x ∈ (lredN (R, []) k).2, 0 ≤ x ∧ x < (k : Int)
  | 0, x, hx => by simp [lredN] at hx
  | k + 1, x, hx => by
    have ih := lred_piv R k
    have e : (lredN (R, []) (k + 1)).2 = (lstep k (lredN (R, []) k)).2 := rfl
    rw [e] at hx
    generalize lredN (R, []) k = s at *
    unfold lstep at hx
    cases hf : lfind s.1 k (s.1.length - s.2.length) s.2.length with
    | none => rw [hf] at hx; have := ih x hx; omega
    | some i =>
      rw [hf] at hx
      rcases List.mem_append.1 hx with h | h
      · have := ih x h; omega
      · rw [List.mem_singleton] at h; omega
theorem RedR.rows {w0 w : World} {g cap n : Nat} {vp : Value} {qs : List Row} {pv : List Int} (h : RedR w0 w (.slice (some ⟨g, 0, none⟩) n cap) vp qs pv) {k : Nat} (hk : k ≤ qs.length) : RowsP w (.slice (some ⟨g, 0, none⟩) k cap) (qs.take k) := by
  obtain ⟨a, cap', hv, hl, hc, hp⟩ := h.mat.rowsP
  simp only [Value.slice.injEq] at hv
  obtain ⟨rfl, rfl, rfl⟩ := hv
  refine ⟨_, _, by rw [List.length_take, Nat.min_eq_left hk], by rw [List.length_take]; omega, ?_, fun p hp' => ?_⟩
  · rcases hc with rfl | ⟨b, off, e, hc⟩
    · left; simp
    · right
      refine ⟨b, off, e, fun i hi => ?_⟩
      rw [List.length_take] at hi
      rw [hc i (by omega), List.getElem?_take_of_lt (by omega)]
  · have := hp p (List.mem_of_mem_take hp')
    exact this
end Go.Proofs.Ytpnghgihepnepaa
