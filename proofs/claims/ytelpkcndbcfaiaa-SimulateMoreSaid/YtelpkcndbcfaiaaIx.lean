/- What Trace holds between two of its steps. -/
import Derived.Test.YtelpkcndbcfaiaaIw
import Derived.Test.YtelpkcndbcfaiaaIm
import Derived.Test.YtelpkcndbcfaiaaLs
import Derived.Test.YtelpkcndbcfaiaaCn
namespace Go.Proofs.Ytelpkcndbcfaiaa
open Go.RowKit
set_option linter.unusedVariables false
theorem seen_heap {w : World} {M : Nat} {S : List (Nat × Nat)} (h : SeenR w M S) : ∃ es clock, w.heap[M]? = some (.map es clock) := by
  obtain ⟨D, ⟨es, clock, h1, -⟩, -⟩ := h
  exact ⟨es, clock, h1⟩
theorem QRow.not_map {w : World} {R M : Nat} {v : Value} {qs : List Qe} {S : List (Nat × Nat)} (h : QRow w R v qs) (hs : SeenR w M S) : v.ownBlock ≠ some M := by
  obtain ⟨b, off, cap, cur, rfl, h1, h2, h3⟩ := h
  obtain ⟨es, clock, h4⟩ := seen_heap hs
  intro e
  cases e
  rw [h2] at h4
  cases h4
theorem QRow.low {w : World} {R : Nat} {v : Value} {qs : List Qe} (h : QRow w R v qs) : ∀ g, v.ownBlock = some g → R ≤ g ∧ g < w.heap.size := by
  obtain ⟨b, off, cap, cur, rfl, h1, h2, h3⟩ := h
  intro g e
  cases e
  exact ⟨h1, (Array.getElem?_eq_some_iff.1 h2).1⟩
theorem own_not_map {w : World} {R M : Nat} {v : Value} {u : List Int} {S : List (Nat × Nat)} (h : OwnI w R v u) (hs : SeenR w M S) : v.ownBlock = none ∨ v.ownBlock ≠ some M := by
  rcases h.2 with ⟨rfl, -⟩ | ⟨g, cap, cur, rfl, h1, h2, -⟩
  · exact .inl rfl
  · refine .inr (fun e => ?_)
    cases e
    obtain ⟨es, clock, h4⟩ := seen_heap hs
    rw [h2] at h4
    cases h4
theorem own_not_queue {w : World} {R R' : Nat} {v qv : Value} {u : List Int} {qs : List Qe} (h : OwnI w R v u) (hq : QRow w R' qv qs) : v.ownBlock = none ∨ v.ownBlock ≠ qv.ownBlock := by
  rcases h.2 with ⟨rfl, -⟩ | ⟨g, cap, cur, rfl, h1, h2, -⟩
  · exact .inl rfl
  · refine .inr (fun e => ?_)
    obtain ⟨b, off, cap', cur', rfl, -, h4, -⟩ := hq
    cases e
    rw [h2] at h4
    simp only [Option.some.injEq, Obj.cells.injEq] at h4
    exact absurd h4.2.1 (by decide)
def IntB (x : Int) : Prop := -9223372036854775808 ≤ x ∧ x ≤ 9223372036854775807
/-- Between two steps of Trace: the words E have been met, the first p are done; the queue qv holds the others. -/
structure TrI (w0 w : World) (M : Nat) (A B : Sys) (E : List Nd) (p : Nat) (done : List Int) (qv : Value) (qs : List Qe) : Prop where
  bfs : Bfs A B E p done
  q : QRow w w0.heap.size qv qs
  qe : qs.map Prod.snd = E.drop p
  lab : ∀ q ∈ qs, OwnI w w0.heap.size q.1 q.2.w
  seen : SeenR w M (pairs E)
  g : w0.grownBy w none
  mr : w0.heap.size ≤ M
  lb : ∀ q ∈ qs, ∀ x ∈ q.2.w, IntB x
theorem TrI.same {w0 w w' : World} {M p : Nat} {A B : Sys} {E : List Nd} {done : List Int} {qv : Value} {qs : List Qe} (h : TrI w0 w M A B E p done qv qs) (g : w.grownBy w' none) : TrI w0 w' M A B E p done qv qs :=
  ⟨h.bfs, h.q.same g, h.qe, fun q hq => (h.lab q hq).kept g (by simp), h.seen.same g, grown_trans h.g g, h.mr, h.lb⟩
theorem TrI.at {w0 w : World} {M p : Nat} {A B : Sys} {E : List Nd} {done : List Int} {qv : Value} {q : Qe} {qs : List Qe} (h : TrI w0 w M A B E p done qv (q :: qs)) : E[p]? = some q.2 := by
  have h1 := h.qe
  have h2 : (E.drop p)[0]? = some q.2 := by rw [← h1]; rfl
  rw [List.getElem?_drop] at h2
  exact h2
theorem TrI.old {w0 w : World} {M p : Nat} {A B : Sys} {E : List Nd} {done : List Int} {qv : Value} {q : Qe} {qs : List Qe} (h : TrI w0 w M A B E p done qv (q :: qs)) {y : Int} (hy : ∀ z ∈ done, z < y) (hb : behN B q.2.b y ≠ 0) (hm : (behN A q.2.a y, behN B q.2.b y) ∈ pairs E) : TrI w0 w M A B E p (done ++ [y]) qv (q :: qs) :=
  ⟨h.bfs.seen h.at hy hb hm, h.q, h.qe, h.lab, h.seen, h.g, h.mr, h.lb⟩
theorem TrI.push {w0 w w1 w2 w3 : World} {M p : Nat} {A B : Sys} {E : List Nd} {done : List Int} {qv qv' lv : Value} {q : Qe} {qs : List Qe} (h : TrI w0 w M A B E p done qv (q :: qs)) {y : Int} (hy : ∀ z ∈ done, z < y) (ha : behN A q.2.a y ≠ 0) (hb : behN B q.2.b y ≠ 0) (hm : (behN A q.2.a y, behN B q.2.b y) ∉ pairs E)
    (hs : SeenR w1 M (pairs E ++ [(behN A q.2.a y, behN B q.2.b y)])) (g1 : w.grownBy w1 (some M)) (g2 : w1.grownBy w2 none) (hq : QRow w3 w0.heap.size qv' ((q :: qs) ++ [(lv, ⟨q.2.w ++ [y], behN A q.2.a y, behN B q.2.b y⟩)])) (g3 : w2.grownBy w3 qv.ownBlock) (hl : OwnI w w0.heap.size lv (q.2.w ++ [y])) (hyb : IntB y) :
    TrI w0 w3 M A B (E ++ [⟨q.2.w ++ [y], behN A q.2.a y, behN B q.2.b y⟩]) p (done ++ [y]) qv' (q :: (qs ++ [(lv, ⟨q.2.w ++ [y], behN A q.2.a y, behN B q.2.b y⟩)])) := by
  have hq1 : QRow w1 w0.heap.size qv (q :: qs) := h.q.kept g1 (h.q.not_map h.seen)
  have hq2 := hq1.same g2
  have keep : ∀ v u, OwnI w w0.heap.size v u → OwnI w3 w0.heap.size v u := fun v u ho => by
    have o1 : OwnI w1 w0.heap.size v u := World.ownsRow.kept ho g1 (own_not_map ho h.seen)
    have o2 : OwnI w2 w0.heap.size v u := o1.kept g2 (by simp)
    exact World.ownsRow.kept o2 g3 (own_not_queue o2 hq2)
  have hpl : p < E.length := (List.getElem?_eq_some_iff.1 h.at).1
  refine ⟨h.bfs.more h.at hy ha hb hm, hq, ?_, fun r hr => ?_, ?_, ?_, h.mr, fun r hr => ?_⟩
  · rw [List.drop_append_of_le_length (by omega), ← h.qe]
    simp
  · rw [← List.cons_append] at hr
    rcases List.mem_append.1 hr with hr | hr
    · exact keep _ _ (h.lab r hr)
    · rw [List.mem_singleton.1 hr]; exact keep _ _ hl
  · have e : pairs (E ++ [⟨q.2.w ++ [y], behN A q.2.a y, behN B q.2.b y⟩]) = pairs E ++ [(behN A q.2.a y, behN B q.2.b y)] := by simp [pairs]
    rw [e]
    exact (hs.same g2).kept g3 (fun e => hq2.not_map (hs.same g2) e)
  · have hlow := hq2.low
    exact grown_then (grown_then (grown_then h.g g1 (by rintro j ⟨⟩; exact .inl h.mr)) g2 (by simp)) g3 (fun j hj => .inl (hlow j hj).1)
  · rw [← List.cons_append] at hr
    rcases List.mem_append.1 hr with hr | hr
    · exact h.lb r hr
    · rw [List.mem_singleton.1 hr]
      intro x hx
      rcases List.mem_append.1 hx with hx | hx
      · exact h.lb q (by simp) x hx
      · rw [List.mem_singleton.1 hx]; exact hyb
theorem TrI.pop {w0 w : World} {M p : Nat} {A B : Sys} {E : List Nd} {L : List Int} {qv qv' : Value} {q : Qe} {qs : List Qe} (h : TrI w0 w M A B E p L qv (q :: qs)) (hL : IsLab A q.2.a L) (hq : QRow w w0.heap.size qv' qs) : TrI w0 w M A B E (p + 1) [] qv' qs :=
  ⟨h.bfs.next h.at hL, hq, by rw [← List.drop_drop, ← h.qe]; rfl, fun r hr => h.lab r (List.mem_cons_of_mem _ hr), h.seen, h.g, h.mr, fun r hr => h.lb r (List.mem_cons_of_mem _ hr)⟩
theorem IntsR.kept {w w' : World} {v : Value} {xs : List Int} {row : Option Nat} (h : IntsR w v xs) (g : w.grownBy w' row) (hr : ∀ k, row = some k → v.ownBlock ≠ some k) : IntsR w' v xs := by
  obtain ⟨a, cap, rfl, hl, hc⟩ := h
  refine ⟨a, cap, rfl, hl, ?_⟩
  rcases hc with hc | ⟨b, off, rfl, hc⟩
  · exact .inl hc
  · refine .inr ⟨b, off, rfl, fun i hi => ?_⟩
    have h1 := hc i hi
    rw [List.getElem?_eq_getElem hi] at h1 ⊢
    exact g.cell h1 (fun e => hr b e.symm rfl)
/-- The copy of the front word, and the labels; what may be written. -/
structure KpI (w : World) (Wb : Nat) (q : Qe) (lv : Value) (L : List Int) : Prop where
  box : w.heap[Wb]? = some (.cells #[q.1, .int .u64 (q.2.a : Int), .int .u64 0, .int .u64 (q.2.b : Int), .int .u64 0] 90 (0, 0))
  lab : IntsR w lv L
def Safe (Wb : Nat) (lv : Value) (row : Option Nat) : Prop := row ≠ some Wb ∧ ∀ k, row = some k → lv.ownBlock ≠ some k
theorem KpI.kept {w w' : World} {Wb : Nat} {q : Qe} {lv : Value} {L : List Int} {row : Option Nat} (h : KpI w Wb q lv L) (g : w.grownBy w' row) (hr : Safe Wb lv row) : KpI w' Wb q lv L :=
  ⟨by rw [g.block Wb (Array.getElem?_eq_some_iff.1 h.box).1 (fun e => hr.1 e.symm)]; exact h.box, h.lab.kept g hr.2⟩
theorem safe_none (Wb : Nat) (lv : Value) : Safe Wb lv none := ⟨by simp, by simp⟩
theorem KpI.same {w w' : World} {Wb : Nat} {q : Qe} {lv : Value} {L : List Int} (h : KpI w Wb q lv L) (g : w.grownBy w' none) : KpI w' Wb q lv L := h.kept g (safe_none _ _)
theorem word_cells {W : World} {b : Nat} {x0 x1 x2 x3 x4 : Value} {e : TypeId} (h : W.heap[b]? = some (.cells #[x0, x1, x2, x3, x4] e (0, 0))) : W.cell? ⟨b, 0, none⟩ = some x0 ∧ W.cell? ⟨b, 1, none⟩ = some x1 ∧ W.cell? ⟨b, 2, none⟩ = some x2 ∧ W.cell? ⟨b, 3, none⟩ = some x3 ∧ W.cell? ⟨b, 4, none⟩ = some x4 := by
  refine ⟨?_, ?_, ?_, ?_, ?_⟩ <;> (unfold World.cell?; dsimp only; rw [h]; rfl)
theorem met_cells {W : World} {b : Nat} {x0 x1 x2 x3 : Value} {e : TypeId} (h : W.heap[b]? = some (.cells #[x0, x1, x2, x3] e (0, 0))) : W.cell? ⟨b, 0, none⟩ = some x0 ∧ W.cell? ⟨b, 1, none⟩ = some x1 ∧ W.cell? ⟨b, 2, none⟩ = some x2 ∧ W.cell? ⟨b, 3, none⟩ = some x3 := by
  refine ⟨?_, ?_, ?_, ?_⟩ <;> (unfold World.cell?; dsimp only; rw [h]; rfl)
/-- What the operations of next leave. -/
def NextV (z0 Wb : Nat) (va vb : Value) (a b : Nat) (y : Int) (a' b' : Nat) (i : Nat) (v : Value) (w : World) : Prop :=
  match i with
  | 0 | 1 | 6 => v = .pointer (some ⟨Wb, 1, none⟩)
  | 2 => v = .agg #[.int .u64 (a : Int), .int .u64 0]
  | 3 => v = va
  | 4 | 10 => v = .int .i64 y
  | 5 => v = .agg #[.int .u64 (a' : Int), .int .u64 0]
  | 7 => v = .pointer (some ⟨Wb, 3, none⟩)
  | 8 => v = .agg #[.int .u64 (b : Int), .int .u64 0]
  | 9 => v = vb
  | 11 => v = .agg #[.int .u64 (b' : Int), .int .u64 0]
  | 12 => v = .agg #[.int .u64 (a' : Int), .int .u64 0, .int .u64 (b' : Int), .int .u64 0]
  | 13 => ∃ N, v = .pointer (some ⟨N, 0, none⟩) ∧ z0 ≤ N ∧ w.heap[N]? = some (.cells #[.int .u64 0, .int .u64 0, .int .u64 0, .int .u64 0] 87 (0, 0))
  | _ => True
theorem NextV.mono {z0 Wb : Nat} {va vb : Value} {a b : Nat} {y : Int} {a' b' : Nat} (i : Nat) (v : Value) (w w' : World) (g : w.grownBy w' none) (h : NextV z0 Wb va vb a b y a' b' i v w) : NextV z0 Wb va vb a b y a' b' i v w' := by
  unfold NextV at *
  split at h <;> first
    | exact h
    | (obtain ⟨N, h1, h2, h3⟩ := h; exact ⟨N, h1, h2, by rw [g.block N (Array.getElem?_eq_some_iff.1 h3).1 (by simp)]; exact h3⟩)
/-- The same, shut. -/
structure NextS (z0 Wb : Nat) (va vb : Value) (a b : Nat) (y : Int) (a' b' : Nat) (i : Nat) (v : Value) (w : World) : Prop where
  h : NextV z0 Wb va vb a b y a' b' i v w
theorem NextS.mono {z0 Wb : Nat} {va vb : Value} {a b : Nat} {y : Int} {a' b' : Nat} (i : Nat) (v : Value) (w w' : World) (g : w.grownBy w' none) (h : NextS z0 Wb va vb a b y a' b' i v w) : NextS z0 Wb va vb a b y a' b' i v w' := ⟨NextV.mono i v w w' g h.h⟩
theorem NextS.at13 {z0 Wb : Nat} {va vb : Value} {a b : Nat} {y : Int} {a' b' : Nat} {v : Value} {w : World} (h : NextS z0 Wb va vb a b y a' b' 13 v w) : ∃ N, v = .pointer (some ⟨N, 0, none⟩) ∧ z0 ≤ N ∧ w.heap[N]? = some (.cells #[.int .u64 0, .int .u64 0, .int .u64 0, .int .u64 0] 87 (0, 0)) := by
  have h1 := h.h
  simp only [NextV] at h1
  exact h1
theorem NextS.at12 {z0 Wb : Nat} {va vb : Value} {a b : Nat} {y : Int} {a' b' : Nat} {v : Value} {w : World} (h : NextS z0 Wb va vb a b y a' b' 12 v w) : v = .agg #[.int .u64 (a' : Int), .int .u64 0, .int .u64 (b' : Int), .int .u64 0] := by
  have h1 := h.h
  simp only [NextV] at h1
  exact h1
def dfO : Oper := { dst := none, op := .move (.const undef), type := 0, pos := "", after := #[], guard := none }
theorem put_four {w : World} {g : Nat} {a b c d x y z u : Value} {e : TypeId} (h : w.heap[g]? = some (.cells #[a, b, c, d] e (0, 0))) :
    ((((w.setCell ⟨g, 0, none⟩ x).setCell ⟨g, 1, none⟩ y).setCell ⟨g, 2, none⟩ z).setCell ⟨g, 3, none⟩ u).heap[g]? = some (.cells #[x, y, z, u] e (0, 0)) :=
  heap_set (o := 3) (heap_set (o := 2) (heap_set (o := 1) (heap_set (o := 0) h x) y) z) u
theorem eval_put {vs : Nat → Value} {ops : List Oper} {a0 : Act} {j s : Nat} (hn : (ops.filterMap (·.dst)).Nodup) (h : dstOf ops j = some s) (hs : s < a0.tmps.size) : (putAll vs ops 0 a0).eval (.tmp s) = vs j := by
  have := putAll_own vs ops 0 a0 hn h hs
  rw [Nat.zero_add] at this
  simp [Act.eval, Array.getD_eq_getD_getElem?, this]
set_option maxRecDepth 100000 in
set_option maxHeartbeats 1000000 in
theorem last_store {a : Act} {w : World} {K : Act → World → Prop} {Q : Exit → Act → World → Prop} (o : Oper) (hop : o.op = .store 87 (.tmp 16) (.tmp 83)) (hd : o.dst = none) (N : Nat) (x y : Int)
    (h16 : a.eval (.tmp 16) = .pointer (some ⟨N, 0, none⟩)) (h83 : a.eval (.tmp 83) = .agg #[.int .u64 x, .int .u64 0, .int .u64 y, .int .u64 0]) (hN : w.heap[N]? = some (.cells #[.int .u64 0, .int .u64 0, .int .u64 0, .int .u64 0] 87 (0, 0)))
    (hk : ∀ w', w'.heap[N]? = some (.cells #[.int .u64 x, .int .u64 0, .int .u64 y, .int .u64 0] 87 (0, 0)) → w.grownBy w' (some N) → K a w') : Oper.wp Try.prog o a w K Q := by
  obtain ⟨dst, op, ty, pos, af, gd⟩ := o
  dsimp only at hop hd
  subst hop hd
  have c0 : w.cell? ⟨N, 0, none⟩ = some (.int .u64 0) := (met_cells hN).1
  have f0 : w.frozen? ⟨N, 0, none⟩ = false := by unfold World.frozen?; dsimp only; rw [hN]; rfl
  have h1 := heap_set (o := 0) hN (.int .u64 x)
  have c1 : (w.setCell ⟨N, 0, none⟩ (.int .u64 x)).cell? ⟨N, 1, none⟩ = some (.int .u64 0) := (met_cells h1).2.1
  have f1 : (w.setCell ⟨N, 0, none⟩ (.int .u64 x)).frozen? ⟨N, 1, none⟩ = false := by unfold World.frozen?; dsimp only; rw [h1]; rfl
  have h2 := heap_set (o := 1) h1 (.int .u64 0)
  have c2 : ((w.setCell ⟨N, 0, none⟩ (.int .u64 x)).setCell ⟨N, 1, none⟩ (.int .u64 0)).cell? ⟨N, 2, none⟩ = some (.int .u64 0) := (met_cells h2).2.2.1
  have f2 : ((w.setCell ⟨N, 0, none⟩ (.int .u64 x)).setCell ⟨N, 1, none⟩ (.int .u64 0)).frozen? ⟨N, 2, none⟩ = false := by unfold World.frozen?; dsimp only; rw [h2]; rfl
  have h3 := heap_set (o := 2) h2 (.int .u64 y)
  have c3 : (((w.setCell ⟨N, 0, none⟩ (.int .u64 x)).setCell ⟨N, 1, none⟩ (.int .u64 0)).setCell ⟨N, 2, none⟩ (.int .u64 y)).cell? ⟨N, 3, none⟩ = some (.int .u64 0) := (met_cells h3).2.2.2
  have f3 : (((w.setCell ⟨N, 0, none⟩ (.int .u64 x)).setCell ⟨N, 1, none⟩ (.int .u64 0)).setCell ⟨N, 2, none⟩ (.int .u64 y)).frozen? ⟨N, 3, none⟩ = false := by unfold World.frozen?; dsimp only; rw [h3]; rfl
  have HK := Lib.hid (hk _ (put_four (x := .int .u64 x) (y := .int .u64 0) (z := .int .u64 y) (u := .int .u64 0) hN) (grown_trans (grown_set _ _ _) (grown_trans (grown_set _ _ _) (grown_trans (grown_set _ _ _) (grown_set _ _ _)))))
  clear hk hN h1 h2 h3
  unfold Oper.wp
  simp only [execOp, h16, h83]
  go_simp
  exact HK.out
/-- The region that reckons next. -/
theorem wp_next {id : Nat} {ops : List Oper} {a0 : Act} {w0 : World} {Q : Exit → Act → World → Prop} (Wb : Nat) (va vb : Value) (a b : Nat) (y : Int) (a' b' : Nat) (he : ops.dropLast ++ [ops.getLastD dfO] = ops) (hB : lastB ops a0.tmps.size = true)
    (hop : (ops.getLastD dfO).op = .store 87 (.tmp 16) (.tmp 83)) (hdst : (ops.getLastD dfO).dst = none) (d13 : dstOf ops.dropLast 13 = some 16) (d12 : dstOf ops.dropLast 12 = some 83) (hnd : (ops.dropLast.filterMap (·.dst)).Nodup) (hsz : 83 < a0.tmps.size)
    (hstep : ToldAll Try.prog Q ops (ops.dropLast.filterMap (·.dst)) a0 w0 (NextS w0.heap.size Wb va vb a b y a' b') ops.dropLast 0)
    (hk : ∀ (vs : Nat → Value) (N : Nat) (w' : World), w0.grownBy w' none → w0.heap.size ≤ N → w'.heap[N]? = some (.cells #[.int .u64 (a' : Int), .int .u64 0, .int .u64 (b' : Int), .int .u64 0] 87 (0, 0)) → vs 13 = .pointer (some ⟨N, 0, none⟩) → Q .normal (putAll vs ops.dropLast 0 a0) w') :
    (Code.region id ops.toArray true).wp Try.prog Q a0 w0 := by
  refine wp_last_of (NextS w0.heap.size Wb va vb a b y a' b') dfO (by kernel_rfl) he hB NextS.mono hstep ?_
  intro vs w hg hv
  obtain ⟨N, e13, hN, hbN⟩ := NextS.at13 (hv 13 16 d13)
  have e12 := NextS.at12 (hv 12 83 d12)
  unfold LastWp
  refine last_store _ hop hdst N a' b' ((eval_put hnd d13 (by omega)).trans e13) ((eval_put hnd d12 hsz).trans e12) hbN (fun w' h1 h2 => ?_)
  exact hk vs N w' (grown_then hg h2 (by rintro j ⟨⟩; exact .inl hN)) hN h1 e13
end Go.Proofs.Ytelpkcndbcfaiaa
