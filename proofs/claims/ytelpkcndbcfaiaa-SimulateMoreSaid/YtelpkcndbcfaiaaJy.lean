/- The region of SimulateMore that appends an arc to a row. -/
import Derived.Test.YtelpkcndbcfaiaaJx
namespace Go.Proofs.Ytelpkcndbcfaiaa
open Go.RowKit
set_option linter.unusedVariables false
/-- What the operations leave: X is the box of the system, Bb the block of its rows, rv the row at ii. -/
def PikV (zb X Bb ii n d : Nat) (bv rv p : Value) (l : List Ar) (i : Nat) (v : Value) (w : World) : Prop :=
  match i with
  | 0 => v = .pointer (some ⟨X, 0, none⟩)
  | 1 => v = bv
  | 2 => v = .int .i64 (ii : Int)
  | 3 => v = .pointer (some ⟨X, 0, none⟩)
  | 4 => v = bv
  | 5 => v = .int .i64 (ii : Int)
  | 6 => v = .pointer (some ⟨Bb, ii, none⟩)
  | 7 => v = rv
  | 8 => v = p
  | 9 => ∃ y : Int, v = .int .i64 y ∧ 0 ≤ y ∧ y < 3
  | 10 => v = p
  | 11 => v = .pointer (some ⟨X, 0, none⟩)
  | 12 => v = bv
  | 13 => v = .int .i64 (n : Int)
  | 14 => ∃ y : Int, v = .int .i64 y ∧ 0 ≤ y ∧ y < (n : Int)
  | 15 => ∃ y z : Int, v = .agg #[.int .i64 y, .int .i64 z] ∧ (0 ≤ y ∧ y < 3) ∧ 0 ≤ z ∧ z < (n : Int)
  | 16 => ∃ (g : Nat) (y z : Int), v = .slice (some ⟨g, 0, none⟩) 1 1 ∧ ((0 ≤ y ∧ y < 3) ∧ 0 ≤ z ∧ z < (n : Int)) ∧ w.heap[g]? = some (.cells #[.int .i64 y, .int .i64 z] 61 (0, 0)) ∧ g ≠ d ∧ rv.ownBlock ≠ some g
  | 17 => ∃ y z : Int, ((0 ≤ y ∧ y < 3) ∧ 0 ≤ z ∧ z < (n : Int)) ∧ OwnA w zb v (l ++ [(y, z)])
  | 18 => v = .pointer (some ⟨Bb, ii, none⟩)
  | _ => True
structure PikS (zb X Bb ii n d : Nat) (bv rv p : Value) (l : List Ar) (i : Nat) (v : Value) (w : World) : Prop where
  h : PikV zb X Bb ii n d bv rv p l i v w
def pikRow (d : Nat) (rv : Value) (i : Nat) : Option Nat := if i = 17 then rv.ownBlock else if i = 9 ∨ i = 14 then some d else none
theorem pik_block {w w' : World} {d : Nat} {rv : Value} {i g : Nat} {o : Obj} (h : w.heap[g]? = some o) (hd : g ≠ d) (hne : rv.ownBlock ≠ some g) (gr : w.grownBy w' (pikRow d rv i)) : w'.heap[g]? = some o := by
  have hn : some g ≠ pikRow d rv i := by
    unfold pikRow
    split
    · exact fun e => hne e.symm
    · split
      · simpa using hd
      · simp
  rw [gr.block g (Array.getElem?_eq_some_iff.1 h).1 hn]
  exact h
theorem PikS.keep {zb X Bb ii n d : Nat} {bv rv p : Value} {l : List Ar} (hdz : d < zb) (i j : Nat) (v : Value) (w w' : World) (hij : i ≠ j) (g : w.grownBy w' (pikRow d rv i)) (h : PikS zb X Bb ii n d bv rv p l j v w) : PikS zb X Bb ii n d bv rv p l j v w' := by
  refine ⟨?_⟩
  have h1 := h.h
  unfold PikV at h1 ⊢
  split at h1
  case h_17 =>
    obtain ⟨q, y, z, e1, e2, e3, e4, e5⟩ := h1
    exact ⟨q, y, z, e1, e2, pik_block e3 e4 e5 g, e4, e5⟩
  case h_18 =>
    obtain ⟨y, z, e1, e2⟩ := h1
    refine ⟨y, z, e1, World.ownsRow.kept e2 g ?_⟩
    unfold pikRow
    rw [if_neg hij]
    split
    · cases hv : v.ownBlock with
      | none => exact .inl rfl
      | some b => exact .inr (fun e => by cases e; have := (e2.fresh d hv).1; omega)
    · cases v.ownBlock <;> simp
  all_goals exact h1
/-- The world while the region runs. -/
structure PikI (w00 w0 : World) (zb X n ii d : Nat) (bv rv p : Value) (lb : List ArcP) (l : List Ar) (s : Nat → Bool) (w : World) : Prop where
  sd : Sd w00 w p d
  x : w.heap[X]? = some (.cells #[bv] 25 (0, 0))
  t : w.ownsRow zb 59 1 bv n (lb.map Prod.fst)
  rows : ∀ j q, lb[j]? = some q → j ≠ ii → OwnA w zb q.1 q.2
  row : s 17 = false → OwnA w zb rv l
  old : ∀ k, k < zb → k ≠ d → w.heap[k]? = w0.heap[k]?
  sz : w0.heap.size ≤ w.heap.size
theorem PikI.still {w00 w0 w w' : World} {zb X n ii d : Nat} {bv rv p : Value} {lb : List ArcP} {l : List Ar} {s : Nat → Bool} {i : Nat} (h : PikI w00 w0 zb X n ii d bv rv p lb l s w) (hz : zb ≤ w0.heap.size) (g : w.grownBy w' none) (hi : i ≠ 17) : PikI w00 w0 zb X n ii d bv rv p lb l (updS s i) w' where
  sd := h.sd.step g
  x := by rw [g.block X (Array.getElem?_eq_some_iff.1 h.x).1 (by simp)]; exact h.x
  t := h.t.kept g (by cases bv.ownBlock <;> simp)
  rows j q hj hne := (h.rows j q hj hne).kept g (by simp)
  row hs := (h.row (by unfold updS at hs; rw [if_neg hi.symm] at hs; exact hs)).kept g (by simp)
  old k hk hd := by
    have := h.sz
    rw [g.block k (by omega) (by simp)]; exact h.old k hk hd
  sz := Nat.le_trans h.sz g.size
theorem PikI.pick {w00 w0 w w' : World} {zb X n ii d : Nat} {bv rv p : Value} {lb : List ArcP} {l : List Ar} {s : Nat → Bool} {i : Nat} (h : PikI w00 w0 zb X n ii d bv rv p lb l s w) (hz : zb ≤ w0.heap.size) (hdz : d < zb) (hX : X ≠ d) (hs : Sd w00 w' p d) (g : w.grownBy w' (some d)) (hi : i ≠ 17) : PikI w00 w0 zb X n ii d bv rv p lb l (updS s i) w' where
  sd := hs
  x := by rw [g.block X (Array.getElem?_eq_some_iff.1 h.x).1 (by simpa using hX)]; exact h.x
  t := h.t.kept g (own_low h.t (by rintro k ⟨⟩; exact hdz))
  rows j q hj hne := World.ownsRow.kept (h.rows j q hj hne) g (own_low (h.rows j q hj hne) (by rintro k ⟨⟩; exact hdz))
  row hs := World.ownsRow.kept (h.row (by unfold updS at hs; rw [if_neg hi.symm] at hs; exact hs)) g (own_low (h.row (by unfold updS at hs; rw [if_neg hi.symm] at hs; exact hs)) (by rintro k ⟨⟩; exact hdz))
  old k hk hd := by
    have := h.sz
    rw [g.block k (by omega) (by simpa using hd)]; exact h.old k hk hd
  sz := Nat.le_trans h.sz g.size
theorem PikI.app {w00 w0 w w' : World} {zb X n ii d : Nat} {bv rv p : Value} {lb : List ArcP} {l : List Ar} {s : Nat → Bool} (h : PikI w00 w0 zb X n ii d bv rv p lb l s w) (hz : zb ≤ w0.heap.size) (hX : X < zb) (hdz : d < zb) (hrow : OwnA w zb rv l) (hdj : ∀ j q, lb[j]? = some q → j ≠ ii → q.1.ownBlock = none ∨ q.1.ownBlock ≠ rv.ownBlock) (g : w.grownBy w' rv.ownBlock) : PikI w00 w0 zb X n ii d bv rv p lb l (updS s 17) w' where
  sd := h.sd.row g (fun k hk => by have := (hrow.fresh k hk).1; omega)
  x := by rw [g.block X (Array.getElem?_eq_some_iff.1 h.x).1 (fun e => by have := (hrow.fresh X e.symm).1; omega)]; exact h.x
  t := h.t.kept g (own_ne h.t hrow (by decide))
  rows j q hj hne := World.ownsRow.kept (h.rows j q hj hne) g (hdj j q hj hne)
  row hs := by simp [updS] at hs
  old k hk hd := by
    have := h.sz
    rw [g.block k (by omega) (fun e => by have := (hrow.fresh k e.symm).1; omega)]; exact h.old k hk hd
  sz := Nat.le_trans h.sz g.size
theorem pik_none {w w' : World} {d i : Nat} {rv : Value} (h : i ≠ 17 ∧ i ≠ 9 ∧ i ≠ 14) (g : w.grownBy w' none) : w.grownBy w' (pikRow d rv i) := by
  unfold pikRow
  rw [if_neg h.1, if_neg (by omega)]
  exact g
theorem pik_dice {w w' : World} {d i : Nat} {rv : Value} (h : i = 9 ∨ i = 14) (g : w.grownBy w' (some d)) : w.grownBy w' (pikRow d rv i) := by
  unfold pikRow
  rw [if_neg (by omega), if_pos h]
  exact g
theorem own_first {w : World} {base n : Nat} {e : TypeId} {v : Value} {xs : List Value} (h : w.ownsRow base e 1 v n xs) (hn : 1 ≤ n) : ∃ g c, v = .slice (some ⟨g, 0, none⟩) n c := by
  rcases h.2 with ⟨-, h0⟩ | ⟨g, cap, cur, hv, -⟩
  · omega
  · exact ⟨g, cap, hv⟩
theorem run_arc1 {w : World} {zb g : Nat} {rv : Value} {l : List Ar} {y z : Int} (ty : TypeId) (h : OwnA w zb rv l) (hg : w.heap[g]? = some (.cells #[.int .i64 y, .int .i64 z] 61 (0, 0))) (hl : l.length ≤ 1000) (hz : zb ≤ w.heap.size) :
    ∃ v' w', (Builtin.append_ #[59, 59] ty #[rv, .slice (some ⟨g, 0, none⟩) 1 1]).run Try.prog w = .ok v' w' ∧ OwnA w' zb v' (l ++ [(y, z)]) ∧ w.grownBy w' rv.ownBlock := by
  obtain ⟨i, hi, hz0, hz1, hz2⟩ := info_parts info_arc
  obtain ⟨v', w', h1, h2, h3, -⟩ := run_append_own (P := Try.prog) w zb 59 ty 61 i _ 2 16 Try.underlying59 hi hz0 hz1 hz2 rfl (by decide) rv l.length (flatA l) h ⟨g, 0, none⟩ 1 1 [.int .i64 y, .int .i64 z] rfl (fun j u hu => by
    have e : (⟨g, 0, none⟩ : Addr).add j = ⟨g, j, none⟩ := by simp [Addr.add]; omega
    rw [e]
    unfold World.cell?
    dsimp only
    rw [hg]
    simpa using hu) (fun u hu => by simp only [List.mem_cons, List.not_mem_nil, or_false] at hu; rcases hu with rfl | rfl <;> rfl) (by unfold maxLen; omega) (by omega) hz
  refine ⟨v', w', h1, ?_, h3⟩
  unfold OwnA
  rw [List.length_append, flatA_app]
  exact h2
theorem sys_put {w : World} {zb n ii Bb c : Nat} {v : Value} {lb : List ArcP} {r : List Ar} (ht : w.ownsRow zb 59 1 (.slice (some ⟨Bb, 0, none⟩) n c) n (lb.map Prod.fst)) (hrows : ∀ j q, lb[j]? = some q → j ≠ ii → OwnA w zb q.1 q.2) (hv : OwnA w zb v r) (hn : lb.length = n) :
    SysB zb (w.setCell ⟨Bb, ii, none⟩ v) (.slice (some ⟨Bb, 0, none⟩) n c) (lb.set ii (v, r)) := by
  have gs := grown_set w ⟨Bb, ii, none⟩ v
  have keep : ∀ u x, OwnA w zb u x → OwnA (w.setCell ⟨Bb, ii, none⟩ v) zb u x := fun u x h => World.ownsRow.kept h gs (own_ne h ht (by decide))
  refine ⟨?_, fun q hq => ?_⟩
  · rw [List.length_set, hn, List.map_set]
    rcases ht.2 with ⟨h0, -⟩ | ⟨g, cap, cur, he, h1, h2, h3, h4, h5, h6⟩
    · cases h0
    · simp only [Value.slice.injEq, Option.some.injEq, Addr.mk.injEq, and_true] at he
      obtain ⟨⟨rfl, -⟩, -, rfl⟩ := he
      refine ⟨by rw [List.length_set]; exact ht.1, .inr ⟨Bb, c, cur.setIfInBounds ii v, rfl, h1, heap_set h2 v, h3, h4, by simpa using h5, ?_⟩⟩
      rw [Array.toList_setIfInBounds, List.take_set, h6]
  · obtain ⟨j, hj, rfl⟩ := List.mem_iff_getElem.1 hq
    rw [List.length_set] at hj
    by_cases e : ii = j
    · subst e
      rw [List.getElem_set_self]
      exact keep _ _ hv
    · rw [List.getElem_set_ne e]
      exact keep _ _ (hrows j _ (List.getElem?_eq_getElem hj) (fun e2 => e e2.symm))
theorem PikS.at17 {zb X Bb ii n d : Nat} {bv rv p : Value} {l : List Ar} {v : Value} {w : World} (h : PikS zb X Bb ii n d bv rv p l 17 v w) : ∃ y z : Int, ((0 ≤ y ∧ y < 3) ∧ 0 ≤ z ∧ z < (n : Int)) ∧ OwnA w zb v (l ++ [(y, z)]) := by
  have h1 := h.h
  simp only [PikV] at h1
  exact h1
theorem PikS.at18 {zb X Bb ii n d : Nat} {bv rv p : Value} {l : List Ar} {v : Value} {w : World} (h : PikS zb X Bb ii n d bv rv p l 18 v w) : v = .pointer (some ⟨Bb, ii, none⟩) := by
  have h1 := h.h
  simp only [PikV] at h1
  exact h1
set_option maxRecDepth 100000 in
theorem last_row {a : Act} {w : World} {K : Act → World → Prop} {Q : Exit → Act → World → Prop} (o : Oper) (p q : Nat) (hop : o.op = .store 59 (.tmp p) (.tmp q)) (hd : o.dst = none) (B ii : Nat) (old v : Value) (hv : ∃ ad n c, v = .slice ad n c)
    (hp : a.eval (.tmp p) = .pointer (some ⟨B, ii, none⟩)) (hq : a.eval (.tmp q) = v) (c0 : w.cell? ⟨B, ii, none⟩ = some old) (f0 : w.frozen? ⟨B, ii, none⟩ = false)
    (hk : K a (w.setCell ⟨B, ii, none⟩ v)) : Oper.wp Try.prog o a w K Q := by
  obtain ⟨dst, op, ty, pos, af, gd⟩ := o
  dsimp only at hop hd
  subst hop hd
  obtain ⟨ad, n, c, rfl⟩ := hv
  have HK := Lib.hid hk
  clear hk
  unfold Oper.wp
  simp only [execOp, hp, hq]
  go_simp
  exact HK.out
theorem wp_pik {id : Nat} {ops : List Oper} {a0 : Act} {w00 w0 : World} {Q : Exit → Act → World → Prop} (zb X Bb ii n d c : Nat) (rv p : Value) (lb : List ArcP) (l : List Ar) (he : ops.dropLast ++ [ops.getLastD dfO] = ops) (hB : lastB ops a0.tmps.size = true)
    (hop : (ops.getLastD dfO).op = .store 59 (.tmp 62) (.tmp 61)) (hdst : (ops.getLastD dfO).dst = none) (d17 : dstOf ops.dropLast 17 = some 61) (d18 : dstOf ops.dropLast 18 = some 62) (hnd : (ops.dropLast.filterMap (·.dst)).Nodup) (hsz : 62 < a0.tmps.size)
    (hdz : d < zb) (hlb : lb.length = n) (hii : ii < n)
    (hI0 : PikI w00 w0 zb X n ii d (.slice (some ⟨Bb, 0, none⟩) n c) rv p lb l (fun _ => false) w0)
    (hstep : TellAll Try.prog Q ops (ops.dropLast.filterMap (·.dst)) a0 (PikI w00 w0 zb X n ii d (.slice (some ⟨Bb, 0, none⟩) n c) rv p lb l) (pikRow d rv) (PikS zb X Bb ii n d (.slice (some ⟨Bb, 0, none⟩) n c) rv p l) ops.dropLast 0)
    (hk : ∀ (vs : Nat → Value) (v : Value) (y z : Int) (s : Nat → Bool) (w' : World), ((0 ≤ y ∧ y < 3) ∧ 0 ≤ z ∧ z < (n : Int)) → SysB zb w' (.slice (some ⟨Bb, 0, none⟩) n c) (lb.set ii (v, l ++ [(y, z)])) → Sd w00 w' p d → w'.heap[X]? = some (.cells #[.slice (some ⟨Bb, 0, none⟩) n c] 25 (0, 0)) → (∀ k, k < zb → k ≠ d → w'.heap[k]? = w0.heap[k]?) → Q .normal (putAll vs ops.dropLast 0 a0) w') :
    (Code.region id ops.toArray true).wp Try.prog Q a0 w0 := by
  refine wp_rows_of (PikS zb X Bb ii n d (.slice (some ⟨Bb, 0, none⟩) n c) rv p l) (PikI w00 w0 zb X n ii d (.slice (some ⟨Bb, 0, none⟩) n c) rv p lb l) (pikRow d rv) dfO (by kernel_rfl) he hB ?_ (fun i j v w w' h1 h2 h3 => PikS.keep hdz i j v w w' h1 h2 h3) hstep ?_
  · have g := grown_drew w0 none
    exact ⟨hI0.sd.step g, hI0.x, hI0.t, hI0.rows, hI0.row, hI0.old, hI0.sz⟩
  intro vs s w hI hv
  obtain ⟨y, z, hyz, ho⟩ := PikS.at17 (hv 17 61 d17)
  have e18 := PikS.at18 (hv 18 62 d18)
  unfold LastWp
  have hc := World.ownsRow.cellAt hI.t ii (by omega)
  have hf := World.ownsRow.frozenAt hI.t ii
  have hcell : ∃ old, w.cell? ⟨Bb, ii, none⟩ = some old := by
    rw [hc, List.getElem?_map, List.getElem?_eq_getElem (by omega)]
    exact ⟨_, rfl⟩
  obtain ⟨old, hold⟩ := hcell
  obtain ⟨va, vc, hva⟩ := own_slice ho
  have hBb := hI.t.lt Bb rfl
  refine last_row _ 62 61 hop hdst Bb ii old (vs 17) ⟨va, _, vc, hva⟩ ((eval_put hnd d18 hsz).trans e18) (eval_put hnd d17 (by omega)) hold hf ?_
  have gs := grown_set w ⟨Bb, ii, none⟩ (vs 17)
  refine hk vs (vs 17) y z s _ hyz (sys_put hI.t hI.rows ho hlb) (hI.sd.row gs (by rintro k ⟨⟩; show d < Bb; omega)) ?_ (fun k hk hd => ?_)
  · have hne : X ≠ Bb := fun e => by
      rcases hI.t.2 with ⟨h0, -⟩ | ⟨g, cap, cur, he2, h1, h2, -⟩
      · cases h0
      · simp only [Value.slice.injEq, Option.some.injEq, Addr.mk.injEq, and_true] at he2
        obtain ⟨⟨rfl, -⟩, -, -⟩ := he2
        have h3 := hI.x
        rw [e, h2] at h3
        simp only [Option.some.injEq, Obj.cells.injEq] at h3
        exact absurd h3.2.1 (by decide)
    rw [gs.block X (Array.getElem?_eq_some_iff.1 hI.x).1 (by simpa using hne)]
    exact hI.x
  · rw [gs.block k (by have := hI.sz; omega) (by simp; omega)]
    exact hI.old k hk hd
end Go.Proofs.Ytelpkcndbcfaiaa
