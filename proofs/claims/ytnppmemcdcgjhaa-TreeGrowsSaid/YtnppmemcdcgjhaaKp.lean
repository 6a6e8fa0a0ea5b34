/- A tree with a subtree more: what holds while its row is being made, in whatever order. -/
import Derived.Test.YtnppmemcdcgjhaaKo
namespace Go.Proofs.Ytnppmemcdcgjhaa
open Go.RowKit Tr
set_option linter.unusedVariables false

theorem blk_lt {w : World} {g : Nat} {o : Obj} (h : w.heap[g]? = some o) : g < w.heap.size := (Array.getElem?_eq_some_iff.1 h).1
theorem blk_keep {w1 w2 : World} {g : Nat} {o : Obj} {row : Option Nat} (h : w1.heap[g]? = some o) (hg : w1.grownBy w2 row) (hr : row ≠ some g) : w2.heap[g]? = some o := (hg.block g (blk_lt h) (fun e => hr e.symm)).trans h
theorem size_alloc (w : World) (o : Obj) : (w.alloc o).heap.size = w.heap.size + 1 := by show (w.heap.push _).size = _; simp
theorem heap_new1 {w : World} (o o' : Obj) : ((w.alloc o).alloc o').heap[w.heap.size + 1]? = some o' := heap_new o' (size_alloc w o).symm
/-- The state: F is the new tree's block, once it is there. -/
def S7 (w0 W : World) (p : Value) (d : Nat) (ab ta : Option Addr) (us1 us2 : List (Value × Tr)) (F : Option Nat) (w : World) : Prop :=
  St w0 w p d ∧ W.grownBy w (some d) ∧ d < W.heap.size ∧ (∀ g, F = some g → w.heap[g]? = some (.cells #[.int .i64 0, .slice none 0 0] 45 (0, 0)) ∧ W.heap.size ≤ g) ∧
    TsR (fun j => d < j ∧ j < W.heap.size) w ab us1 ∧ TsR (fun j => d < j ∧ j < W.heap.size) w ta us2
section
variable {w0 W w w' : World} {p : Value} {d : Nat} {ab ta : Option Addr} {us1 us2 : List (Value × Tr)} {F : Option Nat}
theorem S7.app {row : Option Nat} (h : S7 w0 W p d ab ta us1 us2 F w) (g : w.grownBy w' row) (hr : ∀ j, row = some j → W.heap.size ≤ j ∧ F ≠ some j) : S7 w0 W p d ab ta us1 us2 F w' := by
  obtain ⟨h1, h2, h3, h4, h5, h6⟩ := h
  refine ⟨h1.out g (fun j hj => by have := (hr j hj).1; omega), grown_then h2 g (fun j hj => .inl (hr j hj).1), h3, fun k hk => ⟨blk_keep (h4 k hk).1 g (fun e => (hr k e).2 hk), (h4 k hk).2⟩, h5.kept g ?_, h6.kept g ?_⟩
  · intro k hk hp; have := (hr k hk).1; have := hp.2; omega
  · intro k hk hp; have := (hr k hk).1; have := hp.2; omega
theorem S7.grown (h : S7 w0 W p d ab ta us1 us2 F w) : W.grownBy w (some d) := h.2.1
theorem S7.same (h : S7 w0 W p d ab ta us1 us2 F w) (g : w.grownBy w' none) : S7 w0 W p d ab ta us1 us2 F w' := h.app g (fun j hj => by cases hj)
theorem S7.deal (h : S7 w0 W p d ab ta us1 us2 F w) (hs : St w0 w' p d) (g : w.grownBy w' (some d)) : S7 w0 W p d ab ta us1 us2 F w' := by
  obtain ⟨h1, h2, h3, h4, h5, h6⟩ := h
  refine ⟨hs, grown_deal h2 g, h3, fun k hk => ⟨blk_keep (h4 k hk).1 g (by have := (h4 k hk).2; simp; omega), (h4 k hk).2⟩, h5.kept g ?_, h6.kept g ?_⟩
  · rintro k ⟨⟩ hp; omega
  · rintro k ⟨⟩ hp; omega
theorem S7.zero (h : S7 w0 W p d ab ta us1 us2 none w) : S7 w0 W p d ab ta us1 us2 (some w.heap.size) (w.alloc (.cells #[.int .i64 0, .slice none 0 0] 45)) := by
  have h' := h.same (World.grownBy_alloc w (.cells #[.int .i64 0, .slice none 0 0] 45) none)
  refine ⟨h'.1, h'.2.1, h'.2.2.1, ?_, h'.2.2.2.2⟩
  rintro k ⟨⟩
  exact ⟨heap_new _ rfl, h.2.1.size⟩
theorem S7.zd {w : World} (h : S7 w0 W p d ab ta us1 us2 none w.drew) : S7 w0 W p d ab ta us1 us2 (some w.heap.size) (w.drew.alloc (.cells #[.int .i64 0, .slice none 0 0] 45)) := h.zero
theorem S7.xz (h : S7 w0 W p d ab ta us1 us2 none w) (o : Obj) : S7 w0 W p d ab ta us1 us2 (some (w.heap.size + 1)) ((w.alloc o).alloc (.cells #[.int .i64 0, .slice none 0 0] 45)) := by
  have := (h.same (World.grownBy_alloc w o none)).zero
  rwa [size_alloc] at this
theorem S7.blk {g : Nat} (h : S7 w0 W p d ab ta us1 us2 (some g) w) : w.heap[g]? = some (.cells #[.int .i64 0, .slice none 0 0] 45 (0, 0)) := (h.2.2.2.1 g rfl).1
theorem S7.ne {g a : Nat} (h : S7 w0 W p d ab ta us1 us2 (some g) w) (ha : a < W.heap.size) : a ≠ g := by have := (h.2.2.2.1 g rfl).2; omega
/-- A tree that lies neither in an own row nor in the new tree. -/
def T7 (d : Nat) (F : Option Nat) (v : Value) (w : World) (u : Value × Tr) : Prop := TrK (fun j => d < j ∧ v.ownBlock ≠ some j ∧ F ≠ some j ∧ j < w.heap.size) w u.1 u.2
theorem T7.same {v : Value} {u : Value × Tr} (h : T7 d F v w u) (g : w.grownBy w' none) : T7 d F v w' u := (TrK.same h g).weak (fun j hj => ⟨hj.1, hj.2.1, hj.2.2.1, Nat.lt_of_lt_of_le hj.2.2.2 g.size⟩)
theorem T7.zero {v : Value} {u : Value × Tr} {o : Obj} (h : T7 d none v w u) : T7 d (some w.heap.size) v (w.alloc o) u :=
  (TrK.same h (World.grownBy_alloc w o none)).weak (fun j hj => ⟨hj.1, hj.2.1, by have := hj.2.2.2; simp; omega, Nat.lt_of_lt_of_le hj.2.2.2 (World.grownBy_alloc w o none).size⟩)
theorem T7.xz {v : Value} {u : Value × Tr} (h : T7 d none v w u) (o o' : Obj) : T7 d (some (w.heap.size + 1)) v ((w.alloc o).alloc o') u := by
  have := (h.same (World.grownBy_alloc w o none)).zero (o := o')
  rwa [size_alloc] at this
theorem T7.row {v' : Value} {u : Value × Tr} (h : T7 d F (.slice none 0 0) w u) (g : w.grownBy w' none) (hb : ∀ j, v'.ownBlock = some j → (Value.slice none 0 0).ownBlock = some j ∨ w.heap.size ≤ j) : T7 d F v' w' u :=
  (TrK.same h g).weak (fun j hj => ⟨hj.1, fun e => by
    rcases hb j e with h' | h'
    · cases h'
    · have := hj.2.2.2; omega, hj.2.2.1, Nat.lt_of_lt_of_le hj.2.2.2 g.size⟩)
theorem T7.new {v : Value} {u : Value × Tr} (hs : S7 w0 W p d ab ta us1 us2 F w) (hv : ∀ j, v.ownBlock = some j → j < w.heap.size) (h : TrK (fun b => w.heap.size ≤ b) w' u.1 u.2) : T7 d F v w' u :=
  h.bound.weak (fun j hj => ⟨by have := hs.1.lt; omega, fun e => by have := hv j e; omega, fun e => by have := blk_lt (hs.2.2.2.1 j e).1; omega, hj.2⟩)
/-- The row, as far as it is made. -/
def R7 (W : World) (d : Nat) (F : Option Nat) (v : Value) (us : List (Value × Tr)) (w : World) : Prop := OwnTs w W.heap.size v us ∧ (∀ j, v.ownBlock = some j → F ≠ some j) ∧ ∀ u ∈ us, T7 d F v w u
theorem R7.same {v : Value} {us : List (Value × Tr)} (h : R7 W d F v us w) (g : w.grownBy w' none) : R7 W d F v us w' := ⟨World.ownsRow.kept h.1 g (by cases v.ownBlock <;> simp), h.2.1, fun u hu => (h.2.2 u hu).same g⟩
theorem R7.zero {v : Value} {us : List (Value × Tr)} {o : Obj} (h : R7 W d none v us w) : R7 W d (some w.heap.size) v us (w.alloc o) :=
  ⟨World.ownsRow.kept h.1 (World.grownBy_alloc w o none) (by cases v.ownBlock <;> simp), fun j hj => by have := (h.1.fresh j hj).2; simp; omega, fun u hu => (h.2.2 u hu).zero⟩
theorem R7.deal {v : Value} {us : List (Value × Tr)} (h : R7 W d F v us w) (hd : d < W.heap.size) (g : w.grownBy w' (some d)) : R7 W d F v us w' :=
  ⟨World.ownsRow.kept h.1 g (by
    cases hv : v.ownBlock with
    | none => exact .inl rfl
    | some b => exact .inr (fun e => by have := (h.1.fresh b hv).1; cases e; omega)), h.2.1, fun u hu => (TrK.kept (h.2.2 u hu) g (by rintro k ⟨⟩ hp; omega)).weak (fun j hj => ⟨hj.1, hj.2.1, hj.2.2.1, Nat.lt_of_lt_of_le hj.2.2.2 g.size⟩)⟩
theorem R7.xz {v : Value} {us : List (Value × Tr)} (h : R7 W d none v us w) (o o' : Obj) : R7 W d (some (w.heap.size + 1)) v us ((w.alloc o).alloc o') := by
  have := (h.same (World.grownBy_alloc w o none)).zero (o := o')
  rwa [size_alloc] at this
theorem R7.lt {v : Value} {us : List (Value × Tr)} (h : R7 W d F v us w) : ∀ j, v.ownBlock = some j → j < w.heap.size := fun j hj => (h.1.fresh j hj).2
theorem R7.push {v v' : Value} {us ns : List (Value × Tr)} (h : R7 W d F v us w) (hs : S7 w0 W p d ab ta us1 us2 F w) (hn : ∀ u ∈ ns, T7 d F v w u) (ho : OwnTs w' W.heap.size v' (us ++ ns)) (hg : w.grownBy w' v.ownBlock)
    (hb : ∀ j, v'.ownBlock = some j → v.ownBlock = some j ∨ w.heap.size ≤ j) : R7 W d F v' (us ++ ns) w' := by
  refine ⟨ho, fun j hj e => ?_, fun u hu => ?_⟩
  · rcases hb j hj with h1 | h1
    · exact h.2.1 j h1 e
    · have := blk_lt (hs.2.2.2.1 j e).1; omega
  · have hq : T7 d F v w u := by
      rcases List.mem_append.1 hu with hu | hu
      · exact h.2.2 u hu
      · exact hn u hu
    exact (TrK.kept hq hg (fun k hk hp => hp.2.1 hk)).weak (fun j hj => ⟨hj.1, fun e => by
      rcases hb j e with h1 | h1
      · exact hj.2.1 h1
      · have := hj.2.2.2; omega, hj.2.2.1, Nat.lt_of_lt_of_le hj.2.2.2 hg.size⟩)
theorem R7.nil : R7 W d F (.slice none 0 0) [] w := ⟨World.ownsRow_nil _ _ _ _, (fun j hj => by cases hj), by simp⟩
theorem S7.old {v : Value} {a : Option Addr} {us : List (Value × Tr)} (hs : S7 w0 W p d ab ta us1 us2 F w) (hv : ∀ j, v.ownBlock = some j → W.heap.size ≤ j) (h : TsR (fun j => d < j ∧ j < W.heap.size) w a us) : ∀ u ∈ us, T7 d F v w u := fun u hu =>
  (h.mem u hu).weak (fun j hj => ⟨hj.1, fun e => by have := hv j e; omega, fun e => by have := (hs.2.2.2.1 j e).2; omega, Nat.lt_of_lt_of_le hj.2 hs.2.1.size⟩)
theorem R7.tree {v : Value} {us : List (Value × Tr)} (h : R7 W d F v us w) (hd : d < W.heap.size) {l : Int} (hl : -9223372036854775808 ≤ l ∧ l ≤ 9223372036854775807) : TrK (fun j => d < j ∧ F ≠ some j) w v (.node l (us.map Prod.snd)) := by
  have hm : (us.map Prod.snd).length = us.length := List.length_map _
  rcases h.1.2 with ⟨rfl, h0⟩ | ⟨g, cap, cur, rfl, hbg, hg, hnc, hcm, hcs, htake⟩
  · have : us = [] := List.eq_nil_of_length_eq_zero h0
    subst this
    exact .mk l [] none 0 (fun _ => .slice none 0 0) hl (Nat.le_refl _) (Nat.zero_le _) (fun _ => rfl) (fun i hi => by simp at hi) (fun i hi => by simp at hi)
  · have hc := World.ownsRow.cells h.1 (g := g) rfl
    have hF : F ≠ some g := h.2.1 g rfl
    have := TrK.mk (P := fun j => d < j ∧ F ≠ some j) (w := w) l (us.map Prod.snd) (some ⟨g, 0, none⟩) cap (fun i => (us[i]?.getD (.slice none 0 0, .node 0 [])).1) hl (by rw [hm]; exact hnc) hcm (fun e => by cases e) (fun i hi => by
      rw [hm] at hi
      obtain ⟨c0, c1⟩ := cellsT_at us i hi
      refine ⟨g, 0, rfl, ⟨by omega, hF⟩, ?_, ?_⟩
      · have := hc _ _ c0
        rw [add_zero_off] at this
        simpa using this
      · have := hc _ _ c1
        rw [add_zero_off] at this
        simpa [List.getElem?_eq_getElem hi, Nat.add_assoc] using this) (fun i hi => by
      rw [hm] at hi
      have := h.2.2 _ (List.getElem_mem hi)
      simp only [List.getElem?_eq_getElem hi, Option.getD_some, List.getElem_map]
      exact TrK.weak this (fun b hb => ⟨hb.1, hb.2.2.1⟩))
    rwa [hm] at this
theorem tsr_one {x : Tr} {vx : Value} {B : Nat} {e : TypeId} {Q : Nat → Prop} (h : w.heap[B]? = some (.cells #[.int .i64 x.label, vx] e (0, 0))) (hx : TrK Q w vx x) : TsR (fun _ => True) w (some ⟨B, 0, none⟩) [(vx, x)] := fun i hi => by
  obtain rfl : i = 0 := by simp at hi; exact hi
  exact ⟨⟨B, 0, rfl, trivial, (cells_of h).1, (cells_of h).2⟩, hx.weak (fun _ _ => trivial)⟩
/-! ### The calls -/
section
variable {ops : Array Oper} {o : Oper} {a : Act} {K : Act → World → Prop} {Q : Exit → Act → World → Prop} {E : Prop}
theorem step40 (hgd : o.guard = none) (s x : Operand) (ho : o.op = .call { callee := .builtin .append, args := #[s, x], argTypes := #[43, 43] }) (hs : a.eval s = .slice none 0 0) {n c : Nat} (hx : a.eval x = .slice ab n c) (hn : us1.length = n) (hk : n ≤ 1000000)
    (hS : S7 w0 W p d ab ta us1 us2 F w) (h : ∀ a' n' c' w', S7 w0 W p d ab ta us1 us2 F w' → R7 W d F (.slice a' n' c') us1 w' → K (a.put o.dst (.slice a' n' c')) w') : if Region.wanted o (yielded ops a.tmps) = true then Oper.wp Try.prog o a w K Q else E :=
  step_app_trees hgd s x ho W.heap.size (.slice none 0 0) [] hs (World.ownsRow_nil _ _ _ _) ab n c us1 hx hn hS.2.2.2.2.1 (by simp; omega) hS.2.1.size (fun v' w' h1 h2 h3 => by
    obtain ⟨a', n', c', rfl⟩ := h1.slice
    exact h a' n' c' w' (hS.same h2) (R7.nil.push hS (hS.old (fun j hj => by cases hj) hS.2.2.2.2.1) h1 h2 h3))
theorem step40x (hgd : o.guard = none) (s x : Operand) (ho : o.op = .call { callee := .builtin .append, args := #[s, x], argTypes := #[43, 43] }) (hs : a.eval s = .slice none 0 0) {n c : Nat} (hx : a.eval x = .slice ab n c) (hn : us1.length = n) (hk : n ≤ 1000000)
    {u : Value × Tr} (hS : S7 w0 W p d ab ta us1 us2 F w) (hX : T7 d F (.slice none 0 0) w u) (h : ∀ a' n' c' w', S7 w0 W p d ab ta us1 us2 F w' → R7 W d F (.slice a' n' c') us1 w' → T7 d F (.slice a' n' c') w' u → w.grownBy w' none → K (a.put o.dst (.slice a' n' c')) w') : if Region.wanted o (yielded ops a.tmps) = true then Oper.wp Try.prog o a w K Q else E :=
  step_app_trees hgd s x ho W.heap.size (.slice none 0 0) [] hs (World.ownsRow_nil _ _ _ _) ab n c us1 hx hn hS.2.2.2.2.1 (by simp; omega) hS.2.1.size (fun v' w' h1 h2 h3 => by
    obtain ⟨a', n', c', rfl⟩ := h1.slice
    exact h a' n' c' w' (hS.same h2) (R7.nil.push hS (hS.old (fun j hj => by cases hj) hS.2.2.2.2.1) h1 h2 h3) (hX.row h2 h3) h2)
theorem step44 (hgd : o.guard = none) (s x : Operand) (ho : o.op = .call { callee := .builtin .append, args := #[s, x], argTypes := #[43, 43] }) {v : Value} (hs : a.eval s = v) {B : Nat} (hx : a.eval x = .slice (some ⟨B, 0, none⟩) 1 1) (hk : us1.length ≤ 1000000)
    {t : Tr} {vx : Value} (hS : S7 w0 W p d ab ta us1 us2 F w) (hR : R7 W d F v us1 w) (hX : T7 d F v w (vx, t)) {e : TypeId} (hB : w.heap[B]? = some (.cells #[.int .i64 t.label, vx] e (0, 0)))
    (h : ∀ a' n' c' w', S7 w0 W p d ab ta us1 us2 F w' → R7 W d F (.slice a' n' c') (us1 ++ [(vx, t)]) w' → K (a.put o.dst (.slice a' n' c')) w') : if Region.wanted o (yielded ops a.tmps) = true then Oper.wp Try.prog o a w K Q else E :=
  step_app_trees hgd s x ho W.heap.size v us1 hs hR.1 (some ⟨B, 0, none⟩) 1 1 [(vx, t)] hx rfl (tsr_one hB hX) (by omega) hS.2.1.size (fun v' w' h1 h2 h3 => by
    obtain ⟨a', n', c', rfl⟩ := h1.slice
    exact h a' n' c' w' (hS.app h2 (fun j hj => ⟨(hR.1.fresh j hj).1, hR.2.1 j hj⟩)) (hR.push hS (by simpa using hX) h1 h2 h3))
theorem step49 (hgd : o.guard = none) (s x : Operand) (ho : o.op = .call { callee := .builtin .append, args := #[s, x], argTypes := #[43, 43] }) {v : Value} (hs : a.eval s = v) {n c : Nat} (hx : a.eval x = .slice ta n c) (hn : us2.length = n) {us : List (Value × Tr)} (hk : us.length + n ≤ 1000000000)
    (hS : S7 w0 W p d ab ta us1 us2 F w) (hR : R7 W d F v us w)
    (h : ∀ a' n' c' w', S7 w0 W p d ab ta us1 us2 F w' → R7 W d F (.slice a' n' c') (us ++ us2) w' → K (a.put o.dst (.slice a' n' c')) w') : if Region.wanted o (yielded ops a.tmps) = true then Oper.wp Try.prog o a w K Q else E :=
  step_app_trees hgd s x ho W.heap.size v us hs hR.1 ta n c us2 hx hn hS.2.2.2.2.2 hk hS.2.1.size (fun v' w' h1 h2 h3 => by
    obtain ⟨a', n', c', rfl⟩ := h1.slice
    exact h a' n' c' w' (hS.app h2 (fun j hj => ⟨(hR.1.fresh j hj).1, hR.2.1 j hj⟩)) (hR.push hS (hS.old (fun j hj => (hR.1.fresh j hj).1) hS.2.2.2.2.2) h1 h2 h3))
end
def Dealt7 (w0 W : World) (p : Value) (d : Nat) (ab ta : Option Addr) (us1 us2 : List (Value × Tr)) (F : Option Nat) (v : Value) (e : Ending) (w' : World) : Prop :=
  ∃ ax cx x, e = .returned (.agg #[.int .i64 x.label, .slice ax x.kids.length cx]) ∧ S7 w0 W p d ab ta us1 us2 F w' ∧ T7 d F v w' (.slice ax x.kids.length cx, x) ∧ size x ≤ 2 ∧ Lab 2 x
theorem tree42 (hS : S7 w0 W p d ab ta us1 us2 F w) : Calls Try.prog 32 #[p, .int .i64 2, .int .i64 2] w (Dealt7 w0 W p d ab ta us1 us2 F (.slice none 0 0)) :=
  (tree_st 2 (by omega) (by omega) 2 (by omega) (by omega) hS.1).mono (by
    rintro e w' ⟨y, x, rfl, hk, hz, hl, hs, hg⟩
    obtain ⟨ax, cx, rfl⟩ := hk.slice
    exact ⟨ax, cx, x, rfl, hS.deal hs hg, T7.new hS (fun j hj => by cases hj) hk, hz, hl⟩)
theorem tree42r {v : Value} {us : List (Value × Tr)} (hS : S7 w0 W p d ab ta us1 us2 F w) (hR : R7 W d F v us w) : Calls Try.prog 32 #[p, .int .i64 2, .int .i64 2] w (fun e w' => Dealt7 w0 W p d ab ta us1 us2 F v e w' ∧ R7 W d F v us w') :=
  (tree_st 2 (by omega) (by omega) 2 (by omega) (by omega) hS.1).mono (by
    rintro e w' ⟨y, x, rfl, hk, hz, hl, hs, hg⟩
    obtain ⟨ax, cx, rfl⟩ := hk.slice
    exact ⟨⟨ax, cx, x, rfl, hS.deal hs hg, T7.new hS hR.lt hk, hz, hl⟩, hR.deal hS.2.2.1 hg⟩)
/-- What there is behind the tree with a subtree more. -/
def Rel7 (w0 w W : World) (p : Value) (d g8 : Nat) (a8 : Option Addr) (n8 c8 : Nat) (l : Int) (ks : List Tr) : Prop :=
  St w0 w p d ∧ W.grownBy w (some d) ∧ n8 = ks.length ∧ BoxT w d g8 (.int .i64 l) (.slice a8 n8 c8) ∧ TrK (fun b => d < b) w (.slice a8 n8 c8) (.node l ks)
theorem rel7_a {a8 : Option Addr} {n8 c8 : Nat} {us : List (Value × Tr)} {ks : List Tr} {l : Int} (hu : us.map Prod.snd = ks) (hl : -9223372036854775808 ≤ l ∧ l ≤ 9223372036854775807) (hS : S7 w0 W p d ab ta us1 us2 F w) (hR : R7 W d F (.slice a8 n8 c8) us w) :
    Rel7 w0 (w.alloc (.cells #[.int .i64 l, .slice a8 n8 c8] 45)) W p d w.heap.size a8 n8 c8 l ks := by
  have h1 := hR.tree hS.2.2.1 hl
  rw [hu] at h1
  have g := World.grownBy_alloc w (.cells #[.int .i64 l, .slice a8 n8 c8] 45) none
  obtain ⟨a', c', hv⟩ := h1.slice
  simp only [Value.slice.injEq] at hv
  exact ⟨hS.1.step g, (hS.same g).2.1, hv.2.1, BoxT.mk (heap_new _ rfl) hS.1.lt, (h1.same g).weak (fun b hb => hb.1)⟩
theorem rel7_b {g8 : Nat} {a8 : Option Addr} {n8 c8 : Nat} {us : List (Value × Tr)} {ks : List Tr} {l : Int} (hu : us.map Prod.snd = ks) (hl : -9223372036854775808 ≤ l ∧ l ≤ 9223372036854775807) (hS : S7 w0 W p d ab ta us1 us2 (some g8) w) (hR : R7 W d (some g8) (.slice a8 n8 c8) us w) :
    Rel7 w0 ((w.setCell ⟨g8, 0, none⟩ (.int .i64 l)).setCell ⟨g8, 1, none⟩ (.slice a8 n8 c8)) W p d g8 a8 n8 c8 l ks := by
  have h1 := hR.tree hS.2.2.1 hl
  rw [hu] at h1
  have g : w.grownBy ((w.setCell ⟨g8, 0, none⟩ (.int .i64 l)).setCell ⟨g8, 1, none⟩ (.slice a8 n8 c8)) (some g8) := grown_trans (grown_set _ _ _) (grown_set _ _ _)
  obtain ⟨a', c', hv⟩ := h1.slice
  simp only [Value.slice.injEq] at hv
  have h8 := (hS.2.2.2.1 g8 rfl).2
  have hd := hS.2.2.1
  exact ⟨hS.1.out g (by rintro j ⟨⟩; omega), grown_then hS.2.1 g (by rintro j ⟨⟩; exact .inl h8), hv.2.1, BoxT.mk (put_set hS.blk).1 (by omega), (h1.kept g (by rintro j ⟨⟩ hp; exact hp.2 rfl)).weak (fun b hb => hb.1)⟩
end

end Go.Proofs.Ytnppmemcdcgjhaa
