/- The region of SimulateMore that copies a row of arcs to the end of another system. -/
import Derived.Test.YtelpkcndbcfaiaaJw
namespace Go.Proofs.Ytelpkcndbcfaiaa
open Go.RowKit
set_option linter.unusedVariables false
theorem take_snd {ls : List ArcP} {k : Nat} (h : k < ls.length) : (ls.map Prod.snd).take (k + 1) = (ls.map Prod.snd).take k ++ [ls[k].2] := by
  rw [List.take_succ_eq_append_getElem (by rw [List.length_map]; exact h)]
  simp
def OffB (v bv : Value) : Prop := v.ownBlock = none ∨ v.ownBlock ≠ bv.ownBlock
/-- What the operations leave: X is the box of the system that grows, bv its rows. -/
def CopV (zb zr X : Nat) (bv lv : Value) (l : List Ar) (n : Nat) (vals : List Value) (i : Nat) (v : Value) (w : World) : Prop :=
  match i with
  | 0 => v = .pointer (some ⟨X, 0, none⟩)
  | 1 => v = bv
  | 2 => ∃ E, v = .slice (some ⟨E, 0, none⟩) 0 0 ∧ zr ≤ E ∧ w.heap[E]? = some (.cells #[] 61 (0, 0)) ∧ bv.ownBlock ≠ some E
  | 3 => v = lv
  | 4 => OwnA w zr v l ∧ OffB v bv
  | 5 => ∃ g rv, v = .slice (some ⟨g, 0, none⟩) 1 1 ∧ w.heap[g]? = some (.cells #[rv] 59 (0, 0)) ∧ bv.ownBlock ≠ some g ∧ OwnA w zr rv l ∧ OffB rv bv
  | 6 => ∃ rv a c, v = .slice a (n + 1) c ∧ w.ownsRow zb 59 1 v (n + 1) (vals ++ [rv]) ∧ OwnA w zr rv l
  | 7 => v = .pointer (some ⟨X, 0, none⟩)
  | _ => True
structure CopS (zb zr X : Nat) (bv lv : Value) (l : List Ar) (n : Nat) (vals : List Value) (i : Nat) (v : Value) (w : World) : Prop where
  h : CopV zb zr X bv lv l n vals i v w
def copRow (bv : Value) (i : Nat) : Option Nat := if i = 6 then bv.ownBlock else none
theorem OffB.kept {w w' : World} {zb : Nat} {v bv : Value} {l : List Ar} (h : OwnA w zb v l) (ho : OffB v bv) {i : Nat} (g : w.grownBy w' (copRow bv i)) : OwnA w' zb v l := by
  unfold copRow at g
  split at g
  · exact World.ownsRow.kept h g ho
  · exact World.ownsRow.kept h g (by cases v.ownBlock <;> simp)
theorem cop_block {w w' : World} {bv : Value} {i g : Nat} {o : Obj} (h : w.heap[g]? = some o) (hne : bv.ownBlock ≠ some g) (gr : w.grownBy w' (copRow bv i)) : w'.heap[g]? = some o := by
  have hn : some g ≠ copRow bv i := by
    unfold copRow
    split
    · exact fun e => hne e.symm
    · simp
  rw [gr.block g (Array.getElem?_eq_some_iff.1 h).1 hn]
  exact h
theorem CopS.keep {zb zr X : Nat} {bv lv : Value} {l : List Ar} {n : Nat} {vals : List Value} (i j : Nat) (v : Value) (w w' : World) (hij : i ≠ j) (g : w.grownBy w' (copRow bv i)) (h : CopS zb zr X bv lv l n vals j v w) : CopS zb zr X bv lv l n vals j v w' := by
  refine ⟨?_⟩
  have h1 := h.h
  unfold CopV at h1 ⊢
  split at h1
  · exact h1
  · exact h1
  · obtain ⟨E, e1, e2, e3, e4⟩ := h1
    exact ⟨E, e1, e2, cop_block e3 e4 g, e4⟩
  · exact h1
  · exact ⟨OffB.kept h1.1 h1.2 g, h1.2⟩
  · obtain ⟨q, rv, e1, e2, e3, e4, e5⟩ := h1
    exact ⟨q, rv, e1, cop_block e2 e3 g, e3, OffB.kept e4 e5 g, e5⟩
  · obtain ⟨rv, a, c, e1, e2, e3⟩ := h1
    have hr : copRow bv i = none := if_neg hij
    rw [hr] at g
    exact ⟨rv, a, c, e1, e2.kept g (by cases (v.ownBlock) <;> simp), e3.kept g (by simp)⟩
  · exact h1
  · trivial
/-- The world while the region runs: s tells what is done. -/
def CopI (w0 : World) (zb : Nat) (bv : Value) (n : Nat) (vals : List Value) (s : Nat → Bool) (w : World) : Prop := w0.grownBy w bv.ownBlock ∧ (s 6 = false → w.ownsRow zb 59 1 bv n vals)
theorem CopI.none {w0 w w' : World} {zb : Nat} {bv : Value} {n : Nat} {vals : List Value} {s : Nat → Bool} {i : Nat} (h : CopI w0 zb bv n vals s w) (g : w.grownBy w' none) (hi : i ≠ 6) : CopI w0 zb bv n vals (updS s i) w' :=
  ⟨grown_then h.1 g (by simp), fun hs => (h.2 (by unfold updS at hs; rw [if_neg hi.symm] at hs; exact hs)).kept g (by cases bv.ownBlock <;> simp)⟩
theorem CopS.at6 {zb zr X : Nat} {bv lv : Value} {l : List Ar} {n : Nat} {vals : List Value} {v : Value} {w : World} (h : CopS zb zr X bv lv l n vals 6 v w) : ∃ rv a c, v = .slice a (n + 1) c ∧ w.ownsRow zb 59 1 v (n + 1) (vals ++ [rv]) ∧ OwnA w zr rv l := by
  have h1 := h.h
  simp only [CopV] at h1
  exact h1
theorem CopS.at7 {zb zr X : Nat} {bv lv : Value} {l : List Ar} {n : Nat} {vals : List Value} {v : Value} {w : World} (h : CopS zb zr X bv lv l n vals 7 v w) : v = .pointer (some ⟨X, 0, none⟩) := by
  have h1 := h.h
  simp only [CopV] at h1
  exact h1
theorem cop_none {w w' : World} {bv : Value} {i : Nat} (h : i ≠ 6) (g : w.grownBy w' none) : w.grownBy w' (copRow bv i) := by
  unfold copRow
  rw [if_neg h]
  exact g
theorem CopI.box {w0 w : World} {zb X n : Nat} {bv : Value} {vals : List Value} {s : Nat → Bool} {o : Obj} (h : CopI w0 zb bv n vals s w) (hX : w0.heap[X]? = some o) (hXz : X < zb) (hbv : w0.ownsRow zb 59 1 bv n vals) : w.heap[X]? = some o := by
  rw [h.1.block X (Array.getElem?_eq_some_iff.1 hX).1 (fun e => by have := (hbv.lt X e.symm).1; omega)]
  exact hX
theorem own_box {w : World} {base n sz X : Nat} {e T : TypeId} {v : Value} {xs : List Value} {cs : Array Value} (h : w.ownsRow base e sz v n xs) (hX : w.heap[X]? = some (.cells cs T (0, 0))) (hne : e ≠ T) : v.ownBlock = none ∨ v.ownBlock ≠ some X := by
  rcases h.2 with ⟨rfl, _⟩ | ⟨g, cap, cur, rfl, _, hh, _⟩
  · exact .inl rfl
  · refine .inr (fun e2 => hne ?_)
    cases e2
    rw [hh] at hX
    simp only [Option.some.injEq, Obj.cells.injEq] at hX
    exact hX.2.1
theorem SysB.boxed {base X : Nat} {w w' : World} {v : Value} {ls : List ArcP} {cs : Array Value} (h : SysB base w v ls) (hX : w.heap[X]? = some (.cells cs 25 (0, 0))) (g : w.grownBy w' (some X)) : SysB base w' v ls :=
  ⟨h.1.kept g (own_box h.1 hX (by decide)), fun q hq => World.ownsRow.kept (h.2 q hq) g (own_box (h.2 q hq) hX (by decide))⟩
/-- The rows lie in different blocks. -/
def DisjR (ls : List ArcP) : Prop := ls.Pairwise (fun q r => q.1.ownBlock = none ∨ q.1.ownBlock ≠ r.1.ownBlock)
theorem DisjR.nil : DisjR [] := List.Pairwise.nil
theorem DisjR.more {zb : Nat} {w w1 : World} {bv rv : Value} {ls : List ArcP} {l : List Ar} (h : DisjR ls) (hb : SysB zb w bv ls) (hr : OwnA w1 w.heap.size rv l) : DisjR (ls ++ [(rv, l)]) := by
  unfold DisjR
  rw [List.pairwise_append]
  refine ⟨h, by simp, fun q hq r hr2 => ?_⟩
  rw [List.mem_singleton.1 hr2]
  cases hv : q.1.ownBlock with
  | none => exact .inl rfl
  | some g =>
    refine .inr (fun e => ?_)
    have h1 := ((hb.2 q hq).fresh g hv).2
    have h2 := (hr.fresh g e.symm).1
    omega
/-- A row more. -/
theorem SysB.more {zb zr X : Nat} {w0 w1 w' : World} {bv bv' rv : Value} {ls : List ArcP} {l : List Ar} (h : SysB zb w0 bv ls) (g1 : w0.grownBy w1 bv.ownBlock) (ho : w1.ownsRow zb 59 1 bv' (ls.length + 1) (ls.map Prod.fst ++ [rv])) (hr : OwnA w1 zr rv l) (hzr : zb ≤ zr) (g2 : w1.grownBy w' (some X)) (hX : X < zb) : SysB zb w' bv' (ls ++ [(rv, l)]) := by
  have low : ∀ k, (some X : Option Nat) = some k → k < zb := by rintro k ⟨⟩; exact hX
  refine ⟨?_, fun q hq => ?_⟩
  · rw [List.length_append, List.map_append]
    exact ho.kept g2 (own_low ho low)
  · rcases List.mem_append.1 hq with hq | hq
    · have h2 : OwnA w1 zb q.1 q.2 := World.ownsRow.kept (h.2 q hq) g1 (own_ne (h.2 q hq) h.1 (by decide))
      exact World.ownsRow.kept h2 g2 (own_low h2 low)
    · rw [List.mem_singleton.1 hq]
      exact World.ownsRow.kept (own_base hr hzr) g2 (own_low (own_base hr hzr) low)
set_option maxRecDepth 100000 in
theorem last_store1 {a : Act} {w : World} {K : Act → World → Prop} {Q : Exit → Act → World → Prop} (o : Oper) (p q : Nat) (hop : o.op = .store 23 (.tmp p) (.tmp q)) (hd : o.dst = none) (X : Nat) (old v : Value) (hv : ∃ ad n c, v = .slice ad n c)
    (h16 : a.eval (.tmp p) = .pointer (some ⟨X, 0, none⟩)) (h83 : a.eval (.tmp q) = v) (hX : w.heap[X]? = some (.cells #[old] 25 (0, 0)))
    (hk : ∀ w', w'.heap[X]? = some (.cells #[v] 25 (0, 0)) → w.grownBy w' (some X) → K a w') : Oper.wp Try.prog o a w K Q := by
  obtain ⟨dst, op, ty, pos, af, gd⟩ := o
  dsimp only at hop hd
  subst hop hd
  obtain ⟨ad, n, c, rfl⟩ := hv
  have c0 : w.cell? ⟨X, 0, none⟩ = some old := by unfold World.cell?; dsimp only; rw [hX]; rfl
  have f0 : w.frozen? ⟨X, 0, none⟩ = false := by unfold World.frozen?; dsimp only; rw [hX]; rfl
  have HK := Lib.hid (hk _ (heap_set (o := 0) hX (.slice ad n c)) (grown_set _ _ _))
  clear hk hX
  unfold Oper.wp
  simp only [execOp, h16, h83]
  go_simp
  exact HK.out
theorem wp_cop {id : Nat} {ops : List Oper} {a0 : Act} {w0 : World} {Q : Exit → Act → World → Prop} (zb zr X : Nat) (bv lv : Value) (l : List Ar) (n : Nat) (vals : List Value) (he : ops.dropLast ++ [ops.getLastD dfO] = ops) (hB : lastB ops a0.tmps.size = true)
    (hop : (ops.getLastD dfO).op = .store 23 (.tmp 37) (.tmp 36)) (hdst : (ops.getLastD dfO).dst = none) (d6 : dstOf ops.dropLast 6 = some 36) (d7 : dstOf ops.dropLast 7 = some 37) (hnd : (ops.dropLast.filterMap (·.dst)).Nodup) (hsz : 37 < a0.tmps.size)
    (hX : w0.heap[X]? = some (.cells #[bv] 25 (0, 0))) (hXz : X < zb) (hbv : w0.ownsRow zb 59 1 bv n vals)
    (hstep : TellAll Try.prog Q ops (ops.dropLast.filterMap (·.dst)) a0 (CopI w0 zb bv n vals) (copRow bv) (CopS zb zr X bv lv l n vals) ops.dropLast 0)
    (hk : ∀ (vs : Nat → Value) (rv : Value) (ad : Option Addr) (c : Nat) (w1 w' : World), w0.grownBy w1 bv.ownBlock → w1.ownsRow zb 59 1 (.slice ad (n + 1) c) (n + 1) (vals ++ [rv]) → OwnA w1 zr rv l → w1.grownBy w' (some X) → w'.heap[X]? = some (.cells #[.slice ad (n + 1) c] 25 (0, 0)) → vs 6 = .slice ad (n + 1) c → Q .normal (putAll vs ops.dropLast 0 a0) w') :
    (Code.region id ops.toArray true).wp Try.prog Q a0 w0 := by
  refine wp_rows_of (CopS zb zr X bv lv l n vals) (CopI w0 zb bv n vals) (copRow bv) dfO (by kernel_rfl) he hB ⟨grown_drew w0 _, fun _ => hbv.kept (grown_drew w0 none) (by cases bv.ownBlock <;> simp)⟩ (fun i j v w w' h1 h2 h3 => CopS.keep i j v w w' h1 h2 h3) hstep ?_
  intro vs s w hI hv
  obtain ⟨rv, ad, c, e6, ho, hr⟩ := CopS.at6 (hv 6 36 d6)
  have e7 := CopS.at7 (hv 7 37 d7)
  have hXw : w.heap[X]? = some (.cells #[bv] 25 (0, 0)) := by
    rw [hI.1.block X (Array.getElem?_eq_some_iff.1 hX).1 (fun e => by have := (hbv.lt X e.symm).1; omega)]
    exact hX
  unfold LastWp
  refine last_store1 _ 37 36 hop hdst X bv _ ⟨ad, n + 1, c, rfl⟩ ((eval_put hnd d7 hsz).trans e7) ((eval_put hnd d6 (by omega)).trans e6) hXw (fun w' h1 h2 => ?_)
  rw [e6] at ho
  exact hk vs rv ad c w w' hI.1 ho hr h2 h1 e6
end Go.Proofs.Ytelpkcndbcfaiaa
