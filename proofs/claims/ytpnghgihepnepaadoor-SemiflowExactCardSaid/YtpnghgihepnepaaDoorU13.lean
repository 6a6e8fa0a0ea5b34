/- Texts Nk, Gl, Nl, Bf in one. -/
import Derived.Test.YtpnghgihepnepaaDoorU9
import Derived.Test.YtpnghgihepnepaaDoorU1
import Derived.Test.YtpnghgihepnepaaDoorU2
import Derived.Test.YtpnghgihepnepaaDoorU11
import Derived.StillTailTactics
namespace Go.Proofs.YtpnghgihepnepaaDoor
open Go.RowKit
set_option linter.unusedVariables false

theorem lst1 {α β : Type} {qs : List (β × α)} {a : α} (h : qs.map Prod.snd = [a]) : ∃ v, qs = [(v, a)] := by
  match qs, h with
  | [(v, x)], h => simp at h; exact ⟨v, by rw [h]⟩
theorem lst2 {α β : Type} {qs : List (β × α)} {a b : α} (h : qs.map Prod.snd = [a, b]) : ∃ v u, qs = [(v, a), (u, b)] := by
  match qs, h with
  | [(v, x), (u, y)], h => simp at h; exact ⟨v, u, by rw [h.1, h.2]⟩
theorem red1 (v : Value) (k : Nat) (hk : 1 ≤ k) (hk3 : k ≤ 3) : redN ([(v, [1, -1, 0])], [], 1) k = ([(v, [1, -1, 0])], [0], 1) := by
  obtain rfl | rfl | rfl : k = 1 ∨ k = 2 ∨ k = 3 := by omega
  · rfl
  · rfl
  · rfl
theorem red2 (v u : Value) (k : Nat) (hk : 1 ≤ k) (hk3 : k ≤ 2) : redN ([(v, [2, 4]), (u, [1, 2])], [], 1) k = ([(v, [2, 4]), (u, [0, 0])], [0], 2) := by
  obtain rfl | rfl : k = 1 ∨ k = 2 := by omega
  · rfl
  · rfl
theorem fit1 (v0 : Value) : RedFit [(v0, [1, -1, 0])] 3 := by
  intro qs hq
  obtain ⟨v, rfl⟩ := lst1 hq
  rw [red1 v 3 (by omega) (by omega)]
  refine ⟨fun k hk => ?_, (by show -4000000000000000000 ≤ (1 : Int) ∧ (1 : Int) ≤ 4000000000000000000; decide), ?_⟩
  · by_cases h0 : k = 0
    · subst h0
      intro i hi t ht hne
      have hi0 : some 0 = some i := hi
      obtain rfl : 0 = i := by simpa using hi0
      have ht2 : t < 1 := ht
      exact absurd (show t = 0 by omega) hne
    · rw [red1 v k (by omega) (by omega)]
      intro i hi
      cases hi
  · intro q hq x hx
    rw [List.mem_singleton.1 hq] at hx
    simp at hx
    rcases hx with rfl | rfl | rfl <;> decide
theorem fit2 (v0 u0 : Value) : RedFit [(v0, [2, 4]), (u0, [1, 2])] 2 := by
  intro qs hq
  obtain ⟨v, u, rfl⟩ := lst2 hq
  rw [red2 v u 2 (by omega) (by omega)]
  refine ⟨fun k hk => ?_, (by show -4000000000000000000 ≤ (2 : Int) ∧ (2 : Int) ≤ 4000000000000000000; decide), ?_⟩
  · by_cases h0 : k = 0
    · subst h0
      intro i hi t ht hne
      have hi0 : some 0 = some i := hi
      obtain rfl : 0 = i := by simpa using hi0
      have ht2 : t < 2 := ht
      obtain rfl : t = 1 := by have : t ≠ 0 := hne; omega
      intro j hj
      have hj2 : j < 2 := hj
      obtain rfl | rfl : j = 0 ∨ j = 1 := by omega
      · refine .inr ?_; show (-4000000000000000000 ≤ (1 : Int) * 2 ∧ (1 : Int) * 2 ≤ 4000000000000000000) ∧ (-4000000000000000000 ≤ (1 : Int) * 2 ∧ (1 : Int) * 2 ≤ 4000000000000000000); decide
      · refine .inr ?_; show (-4000000000000000000 ≤ (2 : Int) * 2 ∧ (2 : Int) * 2 ≤ 4000000000000000000) ∧ (-4000000000000000000 ≤ (1 : Int) * 4 ∧ (1 : Int) * 4 ≤ 4000000000000000000); decide
    · obtain rfl : k = 1 := by omega
      rw [red2 v u 1 (by omega) (by omega)]
      intro i hi
      cases hi
  · intro q hq x hx
    simp at hq
    rcases hq with rfl | rfl
    · simp at hx; rcases hx with rfl | rfl <;> decide
    · simp at hx; subst hx; decide
theorem ker1 (v : Value) : kerOf (redN ([(v, [1, -1, 0])], [], 1) 3) 3 = [[1, 1, 0], [0, 0, 1]] := by
  rw [red1 v 3 (by omega) (by omega)]
  show (kerN [[1, -1, 0]] 3 1 [0] 3).2 = _
  decide

theorem rowb {w : World} {g : Nat} {cs : Array Value} {e : TypeId} {f : Nat × Nat} (xs : List Int) (n cap : Nat) (h : w.heap[g]? = some (.cells cs e f)) (hn : xs.length = n) (hm : n ≤ maxLen)
    (hb : ∀ x ∈ xs, -9223372036854775808 ≤ x ∧ x ≤ 9223372036854775807) (hc : cs.toList.take n = xs.map (Value.int .i64)) (hk : n ≤ cap) : RowOk w (.slice (some ⟨g, 0, none⟩) n cap, xs) := by
  refine ⟨ints_blk xs n cap h hn hm hb hc, Good.some _ hk, fun g' hg => ?_⟩
  simp only [Value.ownBlock, Option.some.injEq] at hg
  subst hg
  exact (Array.getElem?_eq_some_iff.1 h).1
theorem size_al (w : World) (o : Obj) : (w.alloc o).heap.size = w.heap.size + 1 := by show (w.heap.push _).size = _; simp
theorem lit1 (w : World) (xs : List Int) (n : Nat) (hn : xs.length = n) (hm : n ≤ 100) (hb : ∀ x ∈ xs, -9223372036854775808 ≤ x ∧ x ≤ 9223372036854775807) :
    RowsP ((w.alloc (.cells (xs.map (Value.int .i64)).toArray 3)).alloc (.cells #[.slice (some ⟨w.heap.size, 0, none⟩) n n] 22)) (.slice (some ⟨w.heap.size + 1, 0, none⟩) 1 1) [(.slice (some ⟨w.heap.size, 0, none⟩) n n, xs)] := by
  refine rows_blk _ 1 1 (heap_new _ (size_al _ _).symm) rfl (by decide) rfl ?_
  intro p hp
  rw [List.mem_singleton.1 hp]
  exact rowb xs n n (heap_old _ (heap_new _ rfl)) hn (by unfold maxLen; omega) hb (by rw [List.take_of_length_le (by simp [hn])]) (Nat.le_refl _)
theorem lit2 (w : World) (xs ys : List Int) (n : Nat) (hn : xs.length = n) (hn2 : ys.length = n) (hm : n ≤ 100) (hb : ∀ x ∈ xs, -9223372036854775808 ≤ x ∧ x ≤ 9223372036854775807) (hb2 : ∀ x ∈ ys, -9223372036854775808 ≤ x ∧ x ≤ 9223372036854775807) :
    RowsP (((w.alloc (.cells (xs.map (Value.int .i64)).toArray 3)).alloc (.cells (ys.map (Value.int .i64)).toArray 3)).alloc (.cells #[.slice (some ⟨w.heap.size, 0, none⟩) n n, .slice (some ⟨w.heap.size + 1, 0, none⟩) n n] 22)) (.slice (some ⟨w.heap.size + 1 + 1, 0, none⟩) 2 2) [(.slice (some ⟨w.heap.size, 0, none⟩) n n, xs), (.slice (some ⟨w.heap.size + 1, 0, none⟩) n n, ys)] := by
  refine rows_blk _ 2 2 (heap_new _ (by rw [size_al, size_al])) rfl (by decide) rfl ?_
  intro p hp
  simp only [List.mem_cons, List.not_mem_nil, or_false] at hp
  rcases hp with rfl | rfl
  · exact rowb xs n n (heap_old _ (heap_old _ (heap_new _ rfl))) hn (by unfold maxLen; omega) hb (by rw [List.take_of_length_le (by simp [hn])]) (Nat.le_refl _)
  · exact rowb ys n n (heap_old _ (heap_new _ (size_al _ _).symm)) hn2 (by unfold maxLen; omega) hb2 (by rw [List.take_of_length_le (by simp [hn2])]) (Nat.le_refl _)
theorem ker_cells {w : World} {base : Nat} {v : Value} {ks : List Row} (h : MatO w base v ks) (hk : ks.map Prod.snd = [[1, 1, 0], [0, 0, 1]]) :
    ∃ g c b0 c0 b1 c1, v = .slice (some ⟨g, 0, none⟩) 2 c ∧ w.cell? ⟨g, 0, none⟩ = some (.slice (some ⟨b0, 0, none⟩) 3 c0) ∧ w.cell? ⟨g, 1, none⟩ = some (.slice (some ⟨b1, 0, none⟩) 3 c1) ∧
      w.cell? ⟨b0, 0, none⟩ = some (.int .i64 1) ∧ w.cell? ⟨b0, 1, none⟩ = some (.int .i64 1) ∧ w.cell? ⟨b1, 2, none⟩ = some (.int .i64 1) := by
  obtain ⟨v0, v1, rfl⟩ := lst2 hk
  obtain ⟨g, c, rfl, -⟩ := h.head (by simp)
  obtain ⟨b0, c0, e0, -⟩ := h.row (i := 0) (by simp) (by simp)
  obtain ⟨b1, c1, e1, -⟩ := h.row (i := 1) (by simp) (by simp)
  have k0 := (h.own.cell 0 (by simp)).1
  have k1 := (h.own.cell 1 (by simp)).1
  rw [e0] at k0
  rw [e1] at k1
  exact ⟨g, c, b0, c0, b1, c1, rfl, k0, k1, (h.cell (i := 0) (by simp) e0 (k := 0) (by simp)).1, (h.cell (i := 0) (by simp) e0 (k := 1) (by simp)).1, (h.cell (i := 1) (by simp) e1 (k := 2) (by simp)).1⟩
end Go.Proofs.YtpnghgihepnepaaDoor

namespace Go.Proofs.YtpnghgihepnepaaDoor
open Go.RowKit
set_option linter.unusedVariables false

def orderI (a b : Int) : Int := if a < b then -1 else if b < a then 1 else 0
def lexI : List Int → List Int → Int
  | [], [] => 0
  | [], _ :: _ => -1
  | _ :: _, [] => 1
  | x :: xs, y :: ys => if x < y then -1 else if y < x then 1 else lexI xs ys
def compareI (a b : List Int) : Int := if a.length < b.length then -1 else if b.length < a.length then 1 else lexI a b

theorem lexI_take : ∀ (a b : List Int) (k : Nat), k ≤ a.length → k ≤ b.length → lexI (a.take k) (b.take k) = 0 → lexI a b = lexI (a.drop k) (b.drop k)
  | _, _, 0, _, _, _ => by simp
  | [], _, k + 1, h, _, _ => by simp at h
  | _ :: _, [], k + 1, _, h, _ => by simp at h
  | x :: xs, y :: ys, k + 1, h, h', e => by
    simp only [List.take_succ_cons, lexI, List.drop_succ_cons] at e ⊢
    split at e
    · simp at e
    · rename_i h1
      split at e
      · simp at e
      · rename_i h2
        rw [if_neg h1, if_neg h2]
        exact lexI_take xs ys k (by simpa using h) (by simpa using h') e

theorem lexI_snoc : ∀ (a b : List Int) (k : Nat), k < a.length → k < b.length → lexI (a.take k) (b.take k) = 0 → lexI (a.take (k + 1)) (b.take (k + 1)) = orderI (a[k]?.getD 0) (b[k]?.getD 0)
  | [], _, k, h, _, _ => by simp at h
  | _ :: _, [], k, _, h, _ => by simp at h
  | x :: xs, y :: ys, 0, _, _, _ => by simp [lexI, orderI]
  | x :: xs, y :: ys, k + 1, h, h', e => by
    simp only [List.take_succ_cons, lexI] at e ⊢
    split at e
    · simp at e
    · rename_i h1
      split at e
      · simp at e
      · rename_i h2
        rw [if_neg h1, if_neg h2]
        simpa using lexI_snoc xs ys k (by simpa using h) (by simpa using h') e

theorem lexI_at (a b : List Int) (k : Nat) (ha : k < a.length) (hb : k < b.length) (h : lexI (a.take k) (b.take k) = 0) (hne : orderI (a[k]?.getD 0) (b[k]?.getD 0) ≠ 0) :
    lexI a b = orderI (a[k]?.getD 0) (b[k]?.getD 0) := by
  rw [lexI_take a b k (by omega) (by omega) h]
  rw [List.drop_eq_getElem_cons ha, List.drop_eq_getElem_cons hb]
  simp only [List.getElem?_eq_getElem ha, List.getElem?_eq_getElem hb, Option.getD_some] at hne ⊢
  unfold lexI
  unfold orderI at hne ⊢
  split
  · rfl
  · split
    · rfl
    · simp_all

theorem orderI_zero {x y : Int} : orderI x y = 0 ↔ x = y := by
  unfold orderI; split
  · omega
  · split <;> omega

theorem lexI_zero : ∀ a b : List Int, lexI a b = 0 ↔ a = b
  | [], [] => by simp [lexI]
  | [], _ :: _ => by simp [lexI]
  | _ :: _, [] => by simp [lexI]
  | x :: xs, y :: ys => by
    unfold lexI
    split
    · simp; omega
    · split
      · simp; omega
      · rw [lexI_zero xs ys]; simp; omega

theorem compareI_zero (a b : List Int) : compareI a b = 0 ↔ a = b := by
  unfold compareI
  split
  · simp; intro h; subst h; omega
  · split
    · simp; intro h; subst h; omega
    · exact lexI_zero a b

end Go.Proofs.YtpnghgihepnepaaDoor

namespace Go.Proofs.YtpnghgihepnepaaDoor
open Go.RowKit
set_option linter.unusedVariables false

/-- A matrix made behind a deck. -/
def MatD (w : World) (d : Nat) (v : Value) (ps : List Row) : Prop := ∃ base, d < base ∧ MatO w base v ps
theorem MatD.step {w w' : World} {d : Nat} {v : Value} {ps : List Row} (h : MatD w d v ps) (g : w.grownBy w' none) : MatD w' d v ps := by obtain ⟨b, h1, h2⟩ := h; exact ⟨b, h1, h2.same g⟩
theorem MatD.deal {w w' : World} {d : Nat} {v : Value} {ps : List Row} (h : MatD w d v ps) (g : w.grownBy w' (some d)) : MatD w' d v ps := by obtain ⟨b, h1, h2⟩ := h; exact ⟨b, h1, h2.kept g (by rintro j ⟨⟩; exact h1)⟩
theorem MatD.rows {w : World} {d : Nat} {v : Value} {ps : List Row} (h : MatD w d v ps) : RowsP w v ps := by obtain ⟨b, h1, h2⟩ := h; exact h2.rowsP
theorem MatD.mk {w0 w w' : World} {p : Value} {d : Nat} {v : Value} {ps : List Row} (hs : St w0 w p d) (h : MatO w' w.heap.size v ps) : MatD w' d v ps := ⟨_, hs.lt, h⟩
theorem dealt_ok {r c : Nat} {ps : List Row} (hl : ps.length = r) (h : DealtM c ps) (hr1 : 1 ≤ r) (hr : r ≤ 12) (hc1 : 1 ≤ c) (hc : c ≤ 12) (h6 : r ≤ 6 ∨ c ≤ 6) : MatOkP r c ps := ⟨hl, hr1, hr, hc1, hc, h6, h⟩
def lin2 (u v : List Int) : List Int := List.zipWith (fun a b => a - 2 * b) u v
theorem lin2_next {u v : List Int} {k : Nat} (h1 : k < u.length) (h2 : k < v.length) : (lin2 u v).take k ++ [u[k]?.getD 0 - 2 * v[k]?.getD 0] = (lin2 u v).take (k + 1) := by
  rw [List.take_add_one]
  congr 1
  unfold lin2
  rw [List.getElem?_zipWith, List.getElem?_eq_getElem h1, List.getElem?_eq_getElem h2]; rfl
theorem dot_lin : ∀ (r u v : List Int), r.length = u.length → r.length = v.length → dotL r (lin2 u v) = dotL r u - 2 * dotL r v
  | [], _, _, _, _ => by simp [dotL]
  | x :: r, y :: u, z :: v, h1, h2 => by
    have ih := dot_lin r u v (by simpa using h1) (by simpa using h2)
    show x * (y - 2 * z) + dotL r (lin2 u v) = x * y + dotL r u - 2 * (x * z + dotL r v)
    rw [ih, Int.mul_sub, Int.mul_left_comm]
    omega

theorem lin2_bd {u v : List Int} (h1 : ∀ y ∈ u, 0 ≤ y ∧ y ≤ 9) (h2 : ∀ y ∈ v, 0 ≤ y ∧ y ≤ 9) : ∀ y ∈ lin2 u v, -18 ≤ y ∧ y ≤ 9 := by
  intro y hy
  obtain ⟨i, hi, rfl⟩ := List.getElem_of_mem hy
  unfold lin2 at hi ⊢
  rw [List.length_zipWith] at hi
  rw [List.getElem_zipWith]
  have := h1 _ (List.getElem_mem (show i < u.length by omega))
  have := h2 _ (List.getElem_mem (show i < v.length by omega))
  omega
theorem own_res {w : World} {base : Nat} {v : Value} {xs : List Int} {r : Nat} (h : OwnI w base v xs) (hl : xs.length = r) (h1 : 1 ≤ r) : ∃ g c, v = .slice (some ⟨g, 0, none⟩) r c := by
  subst hl
  rcases h.2 with ⟨_, h0⟩ | ⟨g, c, cur, hv, -⟩
  · omega
  · exact ⟨g, c, hv⟩
theorem map_at {ps : List Row} {f : Row → Int} {k : Nat} (hk : k < ps.length) : (ps.map f)[k]?.getD 0 = f ps[k] := by rw [List.getElem?_map, List.getElem?_eq_getElem hk]; rfl

end Go.Proofs.YtpnghgihepnepaaDoor

namespace Go.Proofs.YtpnghgihepnepaaDoor
open Go.RowKit
set_option linter.unusedVariables false

theorem St.put {w0 w w' : World} {p : Value} {d b : Nat} (h : St w0 w p d) (g : w.grownBy w' (some b)) (hb : d < b) : St w0 w' p d :=
  ⟨h.1.kept g (by rintro j ⟨⟩; exact hb), grown_then h.2.1 g (by rintro j ⟨⟩; exact .inl (by have := h.2.2; omega)), h.2.2⟩
def colL (ps : List Row) (j : Nat) : List Int := ps.map (fun q => q.2[j]?.getD 0)
theorem colL_len (ps : List Row) (j : Nat) : (colL ps j).length = ps.length := by unfold colL; rw [List.length_map]
theorem colL_at {ps : List Row} {i : Nat} (j : Nat) (hi : i < ps.length) : (colL ps j)[i]?.getD 0 = ps[i].2[j]?.getD 0 := by
  unfold colL; rw [List.getElem?_map, List.getElem?_eq_getElem hi]; rfl
def turnL (ps : List Row) (c : Nat) : List (List Int) := (List.range c).map (colL ps)
theorem turn_turned (ps : List Row) (c : Nat) : Turned (ps.map Prod.snd) (turnL ps c) ps.length c := by
  refine ⟨by rw [List.length_map], by unfold turnL; simp, fun i j hi hj => ?_⟩
  unfold turnL
  rw [List.getElem?_map, List.getElem?_range hj, List.getElem?_map, List.getElem?_eq_getElem hi]
  exact colL_at j hi
def TurR (P : Nat → List Int) (c : Nat) (ts : List Row) : Prop := ts.length = c ∧ ∀ t (ht : t < ts.length), ts[t].2 = P t
def turA (ps : List Row) (j t : Nat) : List Int := if t < j then colL ps t else []
def turB (ps : List Row) (j i t : Nat) : List Int := if t < j then colL ps t else if t = j then half (colL ps j) (List.replicate ps.length 0) i else []
theorem turB_new (ps : List Row) {c j : Nat} {ts : List Row} (h : TurR (turA ps j) c ts) (hj : j < c) (v : Value) : TurR (turB ps j 0) c (ts.set j (v, List.replicate ps.length 0)) := by
  refine ⟨by rw [List.length_set]; exact h.1, fun t ht => ?_⟩
  rw [List.getElem_set]
  unfold turB
  by_cases e : j = t
  · subst e; rw [if_pos rfl, if_neg (by omega), if_pos rfl, half_zero]
  · rw [if_neg e, h.2 t (by simpa using ht)]
    unfold turA
    by_cases e2 : t < j
    · rw [if_pos e2, if_pos e2]
    · rw [if_neg e2, if_neg e2, if_neg (fun h => e h.symm)]
theorem turB_set (ps : List Row) {c j i : Nat} {ts : List Row} (h : TurR (turB ps j i) c ts) (hj : j < ts.length) (hi : i < ps.length) : TurR (turB ps j (i + 1)) c (ts.set j (ts[j].1, ts[j].2.set i (ps[i].2[j]?.getD 0))) := by
  refine ⟨by rw [List.length_set]; exact h.1, fun t ht => ?_⟩
  rw [List.getElem_set]
  by_cases e : j = t
  · subst e
    rw [if_pos rfl]
    have h1 := h.2 j hj
    unfold turB at h1 ⊢
    rw [if_neg (by omega), if_pos rfl] at h1 ⊢
    dsimp only
    rw [h1, ← colL_at j hi, half_next (by rw [colL_len, List.length_replicate]) (by simpa using hi)]
  · rw [if_neg e, h.2 t (by simpa using ht)]
    unfold turB
    by_cases e2 : t < j
    · rw [if_pos e2, if_pos e2]
    · rw [if_neg e2, if_neg e2, if_neg (fun h => e h.symm), if_neg (fun h => e h.symm)]
theorem turB_end (ps : List Row) {c j : Nat} {ts : List Row} (h : TurR (turB ps j ps.length) c ts) : TurR (turA ps (j + 1)) c ts := by
  refine ⟨h.1, fun t ht => ?_⟩
  rw [h.2 t ht]
  unfold turB turA
  by_cases e : t < j
  · rw [if_pos e, if_pos (by omega)]
  · rw [if_neg e]
    by_cases e2 : t = j
    · subst e2
      rw [if_pos rfl, if_pos (by omega)]
      have := half_full (new := colL ps t) (old := List.replicate ps.length 0) (by rw [colL_len, List.length_replicate])
      rw [List.length_replicate] at this
      exact this
    · rw [if_neg e2, if_neg (by omega)]
theorem turA_end (ps : List Row) {c : Nat} {ts : List Row} (h : TurR (turA ps c) c ts) : ts.map Prod.snd = turnL ps c := by
  apply List.ext_getElem
  · unfold turnL; simp [h.1]
  · intro t h1 h2
    rw [List.getElem_map, h.2 t (by simpa using h1)]
    have e : (turnL ps c)[t] = colL ps t := by simp [turnL]
    rw [e]
    unfold turA
    rw [if_pos (by simpa [h.1] using h1)]
theorem turA_start (ps : List Row) (c : Nat) : TurR (turA ps 0) c (List.replicate c (.slice none 0 0, [])) := by
  refine ⟨by simp, fun t ht => ?_⟩
  rw [List.getElem_replicate]
  unfold turA; rw [if_neg (by omega)]
theorem rep_mat {w : World} {base c : Nat} {v : Value} (h : OwnP w base v (List.replicate c (.slice none 0 0, []))) : MatO w base v (List.replicate c (.slice none 0 0, [])) := by
  refine ⟨h, fun q hq => ?_, fun i j hi hj hij g e => ?_⟩
  · rw [List.eq_of_mem_replicate hq]; exact OwnI.nil _ _
  · rw [List.getElem_replicate] at e; cases e
theorem turn_ok {r c : Nat} {ps ts : List Row} (hm : MatOkP r c ps) (ht : ts.map Prod.snd = turnL ps c) : MatOkP c r ts := by
  obtain ⟨hl, hr1, hr12, hc1, hc12, h6, hq⟩ := hm
  refine ⟨?_, hc1, hc12, hr1, hr12, by omega, fun q hq' => ?_⟩
  · have := congrArg List.length ht
    unfold turnL at this
    simpa using this
  · have h1 : q.2 ∈ turnL ps c := by rw [← ht]; exact List.mem_map_of_mem hq'
    unfold turnL at h1
    obtain ⟨j, hj, e⟩ := List.mem_map.1 h1
    rw [← e]
    refine ⟨by rw [colL_len]; exact hl, fun x hx => ?_⟩
    unfold colL at hx
    obtain ⟨p, hp, rfl⟩ := List.mem_map.1 hx
    have hjl : j < p.2.length := by rw [(hq p hp).1]; simpa using hj
    rw [List.getElem?_eq_getElem hjl]
    exact (hq p hp).2 _ (List.getElem_mem hjl)
def TurnTo (w : World) (ps : List Row) (c : Nat) (e : Ending) (w' : World) : Prop := ∃ v ts, e = .returned (.tuple #[v, .int .i64 0]) ∧ MatO w' w.heap.size v ts ∧ ts.map Prod.snd = turnL ps c ∧ w.grownBy w' none
set_option maxRecDepth 100000 in
set_option maxHeartbeats 2000000 in
theorem Transpose_any {w : World} {v : Value} {ps : List Row} {r c : Nat} (h : RowsP w v ps) (hm : MatOkP r c ps) :
    Calls Tryd.prog 44 #[v] w (TurnTo w ps c) := by
  have HM := Lib.hid hm
  obtain ⟨hl, hr1, hr12, hc1, hc12, hrc, hq⟩ := hm
  obtain ⟨a, cap, rfl, -⟩ : ∃ a cap, v = .slice a ps.length cap ∧ True := by obtain ⟨a, cap, h, -⟩ := h; exact ⟨a, cap, h, trivial⟩
  have H := Lib.hid h; have HQ := Lib.hid hq
  have h0 : 0 < ps.length := by omega
  obtain ⟨b, off, a2, c2, rfl, hc0, -, -⟩ := h.row h0
  have hlen0 := (hq _ (List.getElem_mem h0)).1
  rw [hlen0, Nat.add_zero] at hc0
  have hp12 : ps.length ≤ 12 := by omega
  clear h hq hl hlen0 hr1 hr12 hrc
  go_enter Tryd.func44, Tryd.ntmps44
  go_wp2_with fail
  refine (Check10_any H.out HM.out).mono ?_
  rintro e w' ⟨rfl, hw⟩
  subst hw
  go_wp2_with (at_make; refine make_rows rfl _ _ rfl c rfl rfl (by omega) ?_)
  intro w1 ho hg
  have HT : Hid (∃ ts, MatO w1 w'.heap.size (.slice (some ⟨w'.heap.size, 0, none⟩) c c) ts ∧ TurR (turA ps 0) c ts) := Lib.hid ⟨_, rep_mat ho, turA_start ps c⟩
  have HG := Lib.hid hg
  clear ho hg hc0
  go_wp2_with fail
  go_loopw [20] (fun i wr => ∃ j : Nat, i = .int .i64 j ∧ j ≤ c ∧ Hid (∃ ts, MatO wr w'.heap.size (.slice (some ⟨w'.heap.size, 0, none⟩) c c) ts ∧ TurR (turA ps j) c ts) ∧ Hid (w'.grownBy wr none)) (fun i _ => c - (intOf i).toNat)
  case atStart => exact ⟨0, rfl, Nat.zero_le _, HT, HG⟩
  case round =>
    clear HT HG
    obtain ⟨j, rfl, hj, HT, HG⟩ := hrel
    rename World => wk
    by_cases hjb : j < c
    · have h3 : (j : Int) < (c : Int) := by omega
      have i1 : IntKind.i64.wrap ((j : Int) + 1) = (j : Int) + 1 := IntWalk.i64_in _ (by omega)
      obtain ⟨ts, hM, hT⟩ := HT.out
      have HM1 := Lib.hid hM; have HTR := Lib.hid hT
      clear hM hT HT
      go_wp2_with (at_make; refine make_int rfl _ _ rfl ps.length rfl rfl (by omega) ?_)
      intro w2 ho hg
      have HM2 := Lib.hid (HM1.out.same hg)
      have htl : j < ts.length := by have := HTR.out.1; omega
      have hcj := HM2.out.own.cell j htl
      have hcj1 : ∃ z, w2.cell? ⟨w'.heap.size, j, none⟩ = some z := ⟨_, hcj.1⟩
      have hcj2 := hcj.2
      obtain ⟨z, hcj1⟩ := hcj1
      have HF := Lib.hid (HM2.out.fill htl (.slice (some ⟨wk.heap.size, 0, none⟩) ps.length ps.length, List.replicate ps.length 0) (ho.mono HG.out.size) (fun x hx => by rw [List.eq_of_mem_replicate hx]; omega)
        (fun k hk => by
          obtain rfl : wk.heap.size = k := by simpa [Value.ownBlock] using hk
          refine ⟨by have := (HM1.out.own.fresh w'.heap.size rfl).2; omega, fun i hi hij e => ?_⟩
          have := ((HM1.out.rows _ (List.getElem_mem hi)).fresh _ e).2
          omega))
      have HG2 : Hid (w'.grownBy (w2.setCell ⟨w'.heap.size, j, none⟩ (.slice (some ⟨wk.heap.size, 0, none⟩) ps.length ps.length)) none) := Lib.hid (grown_then (grown_trans HG.out hg) (grown_set _ _ _) (by rintro k ⟨⟩; exact .inl (Nat.le_refl _)))
      have HT2 := Lib.hid (turB_new ps HTR.out hjb (.slice (some ⟨wk.heap.size, 0, none⟩) ps.length ps.length))
      clear hcj ho hg htl
      go_wp2_with fail
      clear hcj1 hcj2
      go_loopw [31] (fun i wr => ∃ t : Nat, i = .int .i64 t ∧ t ≤ ps.length ∧ Hid (∃ ts, MatO wr w'.heap.size (.slice (some ⟨w'.heap.size, 0, none⟩) c c) ts ∧ TurR (turB ps j t) c ts) ∧ Hid (w'.grownBy wr none)) (fun i _ => ps.length - (intOf i).toNat)
      case atStart => exact ⟨0, rfl, Nat.zero_le _, Lib.hid ⟨_, HF.out, HT2.out⟩, HG2⟩
      case round =>
        clear HT2 HG2 HF HM2 HM1 HTR HG
        obtain ⟨t, rfl, ht, HT, HG⟩ := hrel
        rename World => wt
        by_cases htb : t < ps.length
        · have h4 : (t : Int) < (ps.length : Int) := by omega
          have i2 : IntKind.i64.wrap ((t : Int) + 1) = (t : Int) + 1 := IntWalk.i64_in _ (by omega)
          obtain ⟨ts, hM, hT⟩ := HT.out
          have htl : j < ts.length := by have := hT.1; omega
          have hrow := hT.2 j htl
          unfold turB at hrow
          rw [if_neg (by omega), if_pos rfl] at hrow
          have hrl : ts[j].2.length = ps.length := by rw [hrow, half_len (by rw [colL_len, List.length_replicate]) (by simpa using ht)]; simp
          obtain ⟨gj, cj, hvj, hgb⟩ := hM.row htl (by omega)
          rw [hrl] at hvj
          have HD := Lib.hid (hM.same (grown_drew wt none)); have GD := Lib.hid (grown_trans HG.out (grown_drew wt none))
          have hcj := (HD.out.own.cell j htl).1
          rw [hvj] at hcj
          obtain ⟨z, hcz⟩ : ∃ z, wt.drew.cell? ⟨gj, t, none⟩ = some z := ⟨_, (HD.out.cell htl hvj (by rw [hrl]; exact htb)).1⟩
          have hcf := (HD.out.cell htl hvj (show t < ts[j].2.length by rw [hrl]; exact htb)).2
          obtain ⟨b', off', ar, cr, hbe, hcr, -, hri⟩ := H.out.row htb
          simp only [Option.some.injEq, Addr.mk.injEq, and_true] at hbe
          obtain ⟨rfl, rfl⟩ := hbe
          have hql := (HQ.out _ (List.getElem_mem htb)).1
          obtain ⟨_, _, hxv, -, -, hxc⟩ := hri
          simp only [Value.slice.injEq] at hxv
          obtain ⟨rfl, -, rfl⟩ := hxv
          obtain ⟨bx, ox, rfl, hcx⟩ := Ints.at hxc (show j < ps[t].2.length by rw [hql]; exact hjb)
          have hcr2 := GD.out.cell hcr (by simp); have hcx2 := GD.out.cell hcx (by simp)
          rw [hql] at hcr2
          have hb := mem_at (P := fun y => -16 ≤ y ∧ y ≤ 16) (HQ.out _ (List.getElem_mem htb)).2 (show j < ps[t].2.length by rw [hql]; exact hjb)
          have HN : Hid (∃ ts, MatO (wt.drew.setCell ⟨gj, t, none⟩ (.int .i64 (ps[t].2[j]?.getD 0))) w'.heap.size (.slice (some ⟨w'.heap.size, 0, none⟩) c c) ts ∧ TurR (turB ps j (t + 1)) c ts) := Lib.hid ⟨_, HD.out.set htl hvj t _ (by omega), turB_set ps hT htl htb⟩
          have HGN : Hid (w'.grownBy (wt.drew.setCell ⟨gj, t, none⟩ (.int .i64 (ps[t].2[j]?.getD 0))) none) := Lib.hid (grown_then GD.out (grown_set _ _ _) (by rintro k ⟨⟩; exact .inl hgb))
          generalize ps[t].2[j]?.getD 0 = x at *
          clear hM hT htl hrow hrl hvj hcr hcx hql hxc hb HT HD GD hgb
          go_wp2_with fail
          go_still_tail 13, (by kernel_rfl)
          change wpList _ _ _ _ _ wt.drew
          generalize wt.drew = wd at *
          go_wp2_with fail
          clear hcj hcz hcf hcr2 hcx2
          go_roundw
          case rel => exact ⟨t + 1, by go_num, by omega, HN, HGN⟩
          case measure => simp [intOf]; omega
        · obtain rfl : t = ps.length := by omega
          have h4 : ¬ (ps.length : Int) < (ps.length : Int) := by omega
          have HN : Hid (∃ ts, MatO wt w'.heap.size (.slice (some ⟨w'.heap.size, 0, none⟩) c c) ts ∧ TurR (turA ps (j + 1)) c ts) := Lib.hid (by obtain ⟨ts, h1, h2⟩ := HT.out; exact ⟨ts, h1, turB_end ps h2⟩)
          go_wp2_with fail
          go_roundw
          case rel => exact ⟨j + 1, by go_num, by omega, HN, HG⟩
          case measure => simp [intOf]; omega
    · obtain rfl : j = c := by omega
      have h3 : ¬ (j : Int) < (j : Int) := by omega
      go_wp2_with fail
      go_ret2
      obtain ⟨ts, h1, h2⟩ := HT.out
      exact ⟨_, ts, rfl, h1, turA_end ps h2, HG.out⟩

/-! ### Rows kept small in place -/
structure ClampR (H : Int) (r c i k : Nat) (ps : List Row) : Prop where
  len : ps.length = r
  wid : ∀ q ∈ ps, q.2.length = c
  bd : ∀ q ∈ ps, ∀ x ∈ q.2, -16 ≤ x ∧ x ≤ 16
  dn : ∀ t j, t < r → j < c → (t < i ∨ (t = i ∧ j < k)) → -H ≤ ent ps t j ∧ ent ps t j ≤ H
theorem ClampR.start {H : Int} {r c : Nat} {ps : List Row} (hm : MatOkP r c ps) : ClampR H r c 0 0 ps :=
  ⟨hm.1, fun q hq => (hm.2.2.2.2.2.2 q hq).1, fun q hq => (hm.2.2.2.2.2.2 q hq).2, fun t j _ _ h => by omega⟩
theorem ClampR.next {H : Int} {r c i : Nat} {ps : List Row} (h : ClampR H r c i c ps) : ClampR H r c (i + 1) 0 ps :=
  ⟨h.len, h.wid, h.bd, fun t j ht hj hh => h.dn t j ht hj (by omega)⟩
theorem ClampR.put {H : Int} {r c i k : Nat} {ps : List Row} (h : ClampR H r c i k ps) (hi : i < ps.length) (hk : k < c) (z : Int) (hz : -H ≤ z ∧ z ≤ H) (hH : H ≤ 16) : ClampR H r c i (k + 1) (ps.set i (ps[i].1, ps[i].2.set k z)) := by
  have hw := h.wid _ (List.getElem_mem hi)
  have he : ∀ t j, ent (ps.set i (ps[i].1, ps[i].2.set k z)) t j = if t = i ∧ j = k then z else ent ps t j := fun t j => by
    unfold ent
    rw [List.getElem?_set]
    by_cases e : i = t
    · subst e
      rw [if_pos rfl, if_pos hi, List.getElem?_eq_getElem hi]
      show (ps[i].2.set k z)[j]?.getD 0 = if i = i ∧ j = k then z else ps[i].2[j]?.getD 0
      rw [List.getElem?_set]
      by_cases e2 : k = j
      · subst e2; rw [if_pos rfl, if_pos (by omega), if_pos ⟨rfl, rfl⟩]; rfl
      · rw [if_neg e2, if_neg (fun h => e2 h.2.symm)]
    · rw [if_neg e, if_neg (fun h => e h.1.symm)]
  refine ⟨by rw [List.length_set]; exact h.len, fun q hq => ?_, fun q hq x hx => ?_, fun t j ht hj hh => ?_⟩
  · rcases List.mem_or_eq_of_mem_set hq with hq | rfl
    · exact h.wid q hq
    · dsimp only; rw [List.length_set]; exact hw
  · rcases List.mem_or_eq_of_mem_set hq with hq | rfl
    · exact h.bd q hq x hx
    · rcases List.mem_or_eq_of_mem_set hx with hx | rfl
      · exact h.bd _ (List.getElem_mem hi) x hx
      · omega
  · rw [he]
    by_cases e : t = i ∧ j = k
    · rw [if_pos e]; exact hz
    · rw [if_neg e]
      refine h.dn t j ht hj ?_
      omega
theorem ClampR.done {H : Int} {r c : Nat} {ps : List Row} (h : ClampR H r c r 0 ps) : ∀ q ∈ ps, ∀ x ∈ q.2, -H ≤ x ∧ x ≤ H := by
  intro q hq x hx
  obtain ⟨t, ht, rfl⟩ := List.getElem_of_mem hq
  obtain ⟨j, hj, rfl⟩ := List.getElem_of_mem hx
  have hw := h.wid _ (List.getElem_mem ht)
  have hl := h.len
  have := h.dn t j (by omega) (by omega) (.inl (by omega))
  rw [ent_row ht, List.getElem?_eq_getElem hj] at this
  exact this
theorem ClampR.ok {H : Int} {r c i k : Nat} {ps : List Row} (h : ClampR H r c i k ps) (h1 : 1 ≤ r) (h2 : r ≤ 12) (h3 : 1 ≤ c) (h4 : c ≤ 12) (h5 : r ≤ 6 ∨ c ≤ 6) : MatOkP r c ps := ⟨h.len, h1, h2, h3, h4, h5, fun q hq => ⟨h.wid q hq, h.bd q hq⟩⟩

def sum2 (u v : List Int) : List Int := List.zipWith (fun a b => a + 2 * b) u v
theorem sum2_next {u v : List Int} {k : Nat} (h1 : k < u.length) (h2 : k < v.length) : (sum2 u v).take k ++ [u[k]?.getD 0 + 2 * v[k]?.getD 0] = (sum2 u v).take (k + 1) := by
  rw [List.take_add_one]
  congr 1
  unfold sum2
  rw [List.getElem?_zipWith, List.getElem?_eq_getElem h1, List.getElem?_eq_getElem h2]; rfl
theorem sum2_bd {u v : List Int} (h1 : ∀ y ∈ u, -3 ≤ y ∧ y ≤ 3) (h2 : ∀ y ∈ v, -3 ≤ y ∧ y ≤ 3) : ∀ y ∈ sum2 u v, -9 ≤ y ∧ y ≤ 9 := by
  intro y hy
  obtain ⟨i, hi, rfl⟩ := List.getElem_of_mem hy
  unfold sum2 at hi ⊢
  rw [List.length_zipWith] at hi
  rw [List.getElem_zipWith]
  have := h1 _ (List.getElem_mem (show i < u.length by omega))
  have := h2 _ (List.getElem_mem (show i < v.length by omega))
  omega
theorem sum2_at {u v : List Int} (hl : u.length = v.length) (j : Nat) : (sum2 u v)[j]?.getD 0 = u[j]?.getD 0 + 2 * v[j]?.getD 0 := by
  unfold sum2
  rw [List.getElem?_zipWith]
  by_cases h : j < u.length
  · rw [List.getElem?_eq_getElem h, List.getElem?_eq_getElem (show j < v.length by omega)]; rfl
  · rw [List.getElem?_eq_none (by omega), List.getElem?_eq_none (by omega)]; rfl
theorem sum2_sp {M : List (List Int)} {u v : List Int} (hu : u ∈ M) (hv : v ∈ M) (hl : u.length = v.length) : InSp M (fun j => (sum2 u v)[j]?.getD 0) :=
  InSp.eq (InSp.lin 1 2 (InSp.mem hu) (InSp.mem hv)) (fun j => by rw [sum2_at hl]; omega)
/-- The same rank with one more row of the span. -/
theorem rank_more {M : List (List Int)} {m p p' : Nat} {s : List Int} (hs : InSp M (fun j => s[j]?.getD 0)) (h : RankIs M m p) (h' : RankIs (M ++ [s]) m p') : p' = p := by
  have h1 := h.le h' (fun r hr => by
    rcases List.mem_append.1 hr with hr | hr
    · exact InSp.mem hr
    · rw [List.mem_singleton.1 hr]; exact hs)
  have h2 := h'.le h (fun r hr => InSp.mem (List.mem_append.2 (.inl hr)))
  omega
/-- The same rank with a multiple of another row added to the first one. -/
theorem rank_other {M : List (List Int)} {m p p' : Nat} {u v : List Int} (hl : u.length = v.length) (h0 : M[0]? = some u) (h1 : ∃ t, t ≠ 0 ∧ t < M.length ∧ M[t]? = some v) (h : RankIs M m p) (h' : RankIs (M.set 0 (sum2 u v)) m p') : p' = p := by
  obtain ⟨t, ht0, htl, ht⟩ := h1
  have hu : u ∈ M := List.mem_of_getElem? h0
  have hv : v ∈ M := List.mem_of_getElem? ht
  have hv2 : v ∈ M.set 0 (sum2 u v) := List.mem_of_getElem? (by rw [List.getElem?_set, if_neg (fun e => ht0 e.symm)]; exact ht)
  have hs2 : sum2 u v ∈ M.set 0 (sum2 u v) := List.mem_set (by omega) _
  have k1 := h.le h' (fun r hr => by
    rcases List.mem_or_eq_of_mem_set hr with hr | rfl
    · exact InSp.mem hr
    · exact sum2_sp hu hv hl)
  have k2 := h'.le h (fun r hr => by
    obtain ⟨i, hi, rfl⟩ := List.getElem_of_mem hr
    by_cases e : i = 0
    · subst e
      have e1 : M[0] = u := by rw [List.getElem?_eq_getElem hi] at h0; simpa using h0
      rw [e1]
      exact InSp.eq (InSp.lin 1 (-2) (InSp.mem hs2) (InSp.mem hv2)) (fun j => by rw [sum2_at hl]; omega)
    · exact InSp.mem (List.mem_of_getElem? (i := i) (by rw [List.getElem?_set, if_neg (fun e' => e e'.symm)]; exact List.getElem?_eq_getElem hi)))
  omega

end Go.Proofs.YtpnghgihepnepaaDoor
