/- What the law of split solutions uses. -/
import Derived.Test.YtgcfafjgaifmiaaEr
namespace Go.Proofs.Ytgcfafjgaifmiaa
open Go.RowKit
set_option linter.unusedVariables false

/-- Rows that lie below a block. -/
def Low (X : Nat) (v : Value) (ps : List Row) : Prop := (∀ g, v.ownBlock = some g → g < X) ∧ ∀ p ∈ ps, ∀ g, p.1.ownBlock = some g → g < X
theorem Low.mono {X Y : Nat} {v : Value} {ps : List Row} (h : Low X v ps) (hl : X ≤ Y) : Low Y v ps := ⟨fun g e => Nat.lt_of_lt_of_le (h.1 g e) hl, fun p hp g e => Nat.lt_of_lt_of_le (h.2 p hp g e) hl⟩
theorem MatD.low {w : World} {d : Nat} {v : Value} {ps : List Row} (h : MatD w d v ps) : Low w.heap.size v ps := by
  obtain ⟨b, h1, h2⟩ := h
  exact ⟨fun g e => (h2.own.fresh g e).2, fun p hp g e => ((h2.rows p hp).fresh g e).2⟩
theorem MatD.put {w w' : World} {d X : Nat} {v : Value} {ps : List Row} (h : MatD w d v ps) (l : Low X v ps) (g : w.grownBy w' (some X)) : MatD w' d v ps := by
  obtain ⟨b, h1, h⟩ := h
  refine ⟨b, h1, ⟨World.ownsRow.kept h.own.1 g ?_, fun q hq => ⟨(h.own.2 q hq).1.kept g (fun k hk e => ?_), (h.own.2 q hq).2⟩⟩, fun q hq => (h.rows q hq).keptB g (fun k hk e => ?_), h.apart⟩
  · cases hv : v.ownBlock with
    | none => exact .inl rfl
    | some k => refine .inr (fun e => ?_); cases e; have := l.1 _ hv; omega
  · cases hk; have := l.2 q hq _ e; omega
  · cases hk; have := l.2 q hq _ e; omega
theorem St.put {w0 w w' : World} {p : Value} {d b : Nat} (h : St w0 w p d) (g : w.grownBy w' (some b)) (hb : d < b) : St w0 w' p d :=
  ⟨h.1.kept g (by rintro k ⟨⟩; exact hb), grown_then h.2.1 g (by rintro j ⟨⟩; exact .inl (by have := h.2.2; omega)), h.2.2⟩
theorem RowsP.put {w w' : World} {X : Nat} {v : Value} {ps : List Row} (h : RowsP w v ps) (l : Low X v ps) (g : w.grownBy w' (some X)) : RowsP w' v ps := by
  obtain ⟨a, cap, rfl, hl, hc, hr⟩ := h
  refine ⟨a, cap, rfl, hl, ?_, fun p hp => (hr p hp).kept g (fun k hk e => by cases hk; have := l.2 p hp _ e; omega)⟩
  rcases hc with hc | ⟨b, off, rfl, hc⟩
  · exact .inl hc
  · refine .inr ⟨b, off, rfl, fun i hi => g.cell (hc i hi) (fun e => ?_)⟩
    have e : b = X := by simpa using e
    subst e
    have : b < b := l.1 b rfl
    exact absurd this (Nat.lt_irrefl _)
theorem RowsP.low {w : World} {v : Value} {ps : List Row} (h : RowsP w v ps) (h0 : 0 < ps.length) : Low w.heap.size v ps := by
  obtain ⟨a, cap, rfl, hl, hc, hr⟩ := h
  refine ⟨fun g e => ?_, fun p hp g e => (hr p hp).2.2 g e⟩
  rcases hc with rfl | ⟨b, off, rfl, hc⟩
  · simp at h0
  · simp only [Value.ownBlock, Option.some.injEq] at e
    subst e
    exact World.block_lt_of_cell? _ _ (hc 0 h0)
def accL (zs ys : List Int) (i : Nat) : List Int := (addL zs ys).take i ++ zs.drop i
theorem accL_zero (zs ys : List Int) : accL zs ys 0 = zs := by simp [accL]
theorem accL_len {zs ys : List Int} {n i : Nat} (h : zs.length = n) (h' : ys.length = n) (hi : i ≤ n) : (accL zs ys i).length = n := by
  unfold accL
  rw [List.length_append, List.length_take, List.length_drop, addL_len h h']
  omega
theorem accL_end {zs ys : List Int} {n : Nat} (h : zs.length = n) (h' : ys.length = n) : accL zs ys n = addL zs ys := by
  unfold accL
  rw [List.take_of_length_le (by rw [addL_len h h']; exact Nat.le_refl _), List.drop_eq_nil_of_le (by omega), List.append_nil]
theorem accL_at {zs ys : List Int} {n i : Nat} (h : zs.length = n) (h' : ys.length = n) (hi : i < n) : (accL zs ys i)[i]?.getD 0 = zs[i]?.getD 0 := by
  unfold accL
  rw [List.getElem?_append_right (by rw [List.length_take]; omega), List.length_take, addL_len h h', Nat.min_eq_left (by omega), Nat.sub_self, List.getElem?_drop]
  rfl
theorem accL_set {zs ys : List Int} {n i : Nat} (h : zs.length = n) (h' : ys.length = n) (hi : i < n) : (accL zs ys i).set i (zs[i]?.getD 0 + ys[i]?.getD 0) = accL zs ys (i + 1) := by
  unfold accL
  have hl : (addL zs ys).length = n := addL_len h h'
  have e : (addL zs ys)[i]'(by omega) = zs[i]?.getD 0 + ys[i]?.getD 0 := by
    unfold addL
    rw [List.getElem_zipWith, List.getElem?_eq_getElem (by omega), List.getElem?_eq_getElem (by omega)]
    rfl
  rw [List.set_append_right _ _ (by rw [List.length_take]; omega), List.length_take, hl, Nat.min_eq_left (by omega), Nat.sub_self, List.take_succ_eq_append_getElem (by omega), e, List.append_assoc]
  congr 1
  rw [List.drop_eq_getElem_cons (by omega)]
  rfl
theorem sumI_add : ∀ (x p : List Int), x.length = p.length → sumI (addL x p) = sumI x + sumI p
  | [], [], _ => rfl
  | a :: x, b :: p, h => by
    have := sumI_add x p (by simpa using h)
    show a + b + sumI (addL x p) = a + sumI x + (b + sumI p)
    omega
theorem le_sumI {z : Int} : ∀ {l : List Int}, (∀ y ∈ l, 0 ≤ y) → z ∈ l → z ≤ sumI l
  | a :: l, hl, h => by
    have e : sumI (a :: l) = a + sumI l := rfl
    have h0 := sumI_nn (v := l) (fun y hy => hl y (by simp [hy]))
    have ha := hl a (by simp)
    rcases List.mem_cons.1 h with rfl | h
    · omega
    · have := le_sumI (fun y hy => hl y (by simp [hy])) h; omega
theorem add_nn {x p : List Int} (hx : ∀ z ∈ x, 0 ≤ z) (hp : ∀ z ∈ p, 0 ≤ z) : ∀ z ∈ addL x p, 0 ≤ z := by
  intro z hz
  obtain ⟨i, hi, rfl⟩ := List.getElem_of_mem hz
  unfold addL at hi ⊢
  rw [List.length_zipWith] at hi
  rw [List.getElem_zipWith]
  have := hx _ (List.getElem_mem (show i < x.length by omega))
  have := hp _ (List.getElem_mem (show i < p.length by omega))
  omega
/-- A sum of t solutions of the homogeneous system. -/
def Hom (ps : List Row) (c t : Nat) (zs : List Int) : Prop := zs.length = c ∧ (∀ z ∈ zs, 0 ≤ z) ∧ sumI zs ≤ 4 * (t : Int) ∧ (∀ q ∈ ps, dotL q.2 zs = 0) ∧ (0 < t → 0 < sumI zs)
theorem dot_zero : ∀ (r : List Int) (c : Nat), dotL r (List.replicate c 0) = 0
  | [], _ => by simp [dotL]
  | a :: r, 0 => by simp [dotL]
  | a :: r, c + 1 => by
    show a * 0 + dotL r (List.replicate c 0) = 0
    rw [dot_zero r c]; simp
theorem sumI_zero (c : Nat) : sumI (List.replicate c 0) = 0 := by
  induction c with
  | zero => rfl
  | succ c ih => show 0 + sumI (List.replicate c 0) = 0; rw [ih]; rfl
theorem Hom.zero (ps : List Row) (c : Nat) : Hom ps c 0 (List.replicate c 0) := ⟨by simp, fun z hz => by rw [List.eq_of_mem_replicate hz]; exact Int.le_refl _, by rw [sumI_zero]; decide, fun q _ => dot_zero _ _, fun h => absurd h (by decide)⟩
theorem Hom.add {r c t : Nat} {ps : List Row} {zs y : List Int} (hm : MatOkP r c ps) (h : Hom ps c t zs) (hy : VecOk c y) (hs : sumI y ≤ 4) (hg : goodB ps (zerosL r) someB y = true) : Hom ps c (t + 1) (addL zs y) := by
  obtain ⟨h1, h2, h3, h4, h5⟩ := h
  have hl : zs.length = y.length := by rw [h1, hy.1]
  unfold goodB at hg
  rw [Bool.and_eq_true] at hg
  have hp := (some_iff hy.nn.2).1 hg.2
  have h6 := sumI_nn h2
  refine ⟨addL_len h1 hy.1, add_nn h2 hy.nn.2, by rw [sumI_add _ _ hl]; omega, fun q hq => ?_, fun _ => by rw [sumI_add _ _ hl]; omega⟩
  have hq2 := hm.2.2.2.2.2.2 q hq
  rw [dot_add _ _ _ (by rw [hq2.1, h1]) (by rw [hq2.1, hy.1]), h4 q hq, (sol_zero hm).1 hg.1 q hq]
  rfl
theorem addL_assoc : ∀ (a b c : List Int), a.length = b.length → b.length = c.length → addL (addL a b) c = addL a (addL b c)
  | [], [], [], _, _ => rfl
  | x :: a, y :: b, z :: c, h1, h2 => by
    show (x + y + z) :: addL (addL a b) c = (x + (y + z)) :: addL a (addL b c)
    rw [addL_assoc a b c (by simpa using h1) (by simpa using h2)]
    congr 1; omega
theorem addL_zero : ∀ (a : List Int), addL a (List.replicate a.length 0) = a
  | [] => rfl
  | x :: a => by
    show (x + 0) :: addL a (List.replicate a.length 0) = x :: a
    rw [addL_zero a]; congr 1; omega
theorem zero_addL : ∀ (a : List Int), addL (List.replicate a.length 0) a = a
  | [] => rfl
  | x :: a => by
    show (0 + x) :: addL (List.replicate a.length 0) a = x :: a
    rw [zero_addL a]; congr 1; omega
theorem add_bd {s rest zs : List Int} {M : Int} (hl : s.length = rest.length) (he : addL s rest = zs) (hr : ∀ z ∈ rest, 0 ≤ z) (hz : ∀ z ∈ zs, z ≤ M) : ∀ z ∈ s, z ≤ M := by
  intro z h
  obtain ⟨i, hi, rfl⟩ := List.getElem_of_mem h
  have h1 := hr _ (List.getElem_mem (show i < rest.length by omega))
  have h2 := hz _ (List.getElem_mem (show i < zs.length by rw [← he]; unfold addL; rw [List.length_zipWith]; omega))
  subst he
  unfold addL at h2
  rw [List.getElem_zipWith] at h2
  omega
/-- The first k rows summed up: what is missing makes up the sum. -/
def Summed (c : Nat) (L : List (List Int)) (zs : List Int) (k : Nat) (s : List Int) : Prop := s.length = c ∧ (∀ z ∈ s, 0 ≤ z ∧ z ≤ 10) ∧ addL s (vsum c (L.drop k)) = zs
theorem Summed.zero {c : Nat} {L : List (List Int)} {zs : List Int} (h : vsum c L = zs) (hz : zs.length = c) : Summed c L zs 0 (List.replicate c 0) := by
  refine ⟨by simp, fun z hz => by rw [List.eq_of_mem_replicate hz]; decide, ?_⟩
  rw [List.drop_zero, h, ← hz]
  exact zero_addL zs
theorem Summed.next {c k : Nat} {L : List (List Int)} {zs s y : List Int} (h : Summed c L zs k s) (hy : L[k]? = some y) (hn : ∀ p ∈ L, Nn c p) (hz : ∀ z ∈ zs, z ≤ 10) : Summed c L zs (k + 1) (addL s y) := by
  obtain ⟨h1, h2, h3⟩ := h
  obtain ⟨hk, e⟩ := List.getElem?_eq_some_iff.1 hy
  have hyn : Nn c y := hn y (List.mem_of_getElem? hy)
  have hd : ∀ p ∈ L.drop (k + 1), Nn c p := fun p hp => hn p (List.mem_of_mem_drop hp)
  rw [List.drop_eq_getElem_cons hk, e] at h3
  have h4 : addL (addL s y) (vsum c (L.drop (k + 1))) = zs := by
    rw [addL_assoc _ _ _ (by rw [h1, hyn.1]) (by rw [hyn.1, vsum_len hd])]
    exact h3
  refine ⟨addL_len h1 hyn.1, fun z hz' => ⟨add_nn (fun z h => (h2 z h).1) hyn.2 z hz', ?_⟩, h4⟩
  exact add_bd (by rw [addL_len h1 hyn.1, vsum_len hd]) h4 (vsum_nn hd) hz z hz'
theorem Summed.last {c : Nat} {L : List (List Int)} {zs s : List Int} (h : Summed c L zs L.length s) : s = zs := by
  obtain ⟨h1, h2, h3⟩ := h
  rw [List.drop_length] at h3
  have : vsum c [] = List.replicate s.length 0 := by rw [h1]; rfl
  rw [this, addL_zero] at h3
  exact h3
theorem split_ne {ps : List (List Int)} {x : List Int} {L : List (List Int)} (h : SplitOk ps x L) (hs : someB x = true) : 0 < L.length := by
  cases h with
  | nil h => rw [h] at hs; cases hs
  | cons i h1 h2 h3 h4 => simp
theorem split_cmp {c : Nat} {ps : List (List Int)} {x : List Int} {rs : List Row} (h : SplitOk ps x (rs.map Prod.snd)) (ha : Asc ps) (hn : ∀ p ∈ ps, p.length = c) {k : Nat} (hk : k + 1 < rs.length) : ¬ 0 < compareI rs[k].2 rs[k + 1].2 := by
  have h1 := List.pairwise_iff_getElem.1 (h.asc ha) k (k + 1) (by simpa using (show k < rs.length by omega)) (by simpa using hk) (by omega)
  rw [List.getElem_map, List.getElem_map] at h1
  have l1 := hn _ (h.mem _ (List.mem_map_of_mem (List.getElem_mem (show k < rs.length by omega))))
  have l2 := hn _ (h.mem _ (List.mem_map_of_mem (List.getElem_mem hk)))
  unfold compareI
  rw [if_neg (by omega), if_neg (by omega)]
  rcases h1 with e | e
  · rw [e, lexI_self]; decide
  · rw [e]; decide
end Go.Proofs.Ytgcfafjgaifmiaa
