/- Texts Gp, Go, Rw in one. -/
import Derived.WalkKit
import Derived.ProofKit
import Derived.Below
import Derived.Deep.QuietTactic
import Derived.BigQuiet
import Derived.Lib.Hide
import Derived.OpenShut
import Derived.OwnWalk
import Derived.Deep.RegionLaw
import Derived.Test.YtpnghgihepnepaaDoorRows
import Derived.Test.YtpnghgihepnepaaDoorSh
import Derived.Deep.AppendLies
import Derived.Laws.AppendOwnNone
namespace Go.Proofs.YtpnghgihepnepaaDoor
open Go.RowKit
set_option linter.unusedVariables false

/-- The slice value v reads as the integers xs in the world w. -/
def Ints (w : World) (v : Value) (xs : List Int) : Prop :=
  ∃ a cap, v = .slice a xs.length cap ∧ xs.length ≤ maxLen ∧ (∀ x ∈ xs, -9223372036854775808 ≤ x ∧ x ≤ 9223372036854775807) ∧
    (xs = [] ∨ ∃ b off, a = some ⟨b, off, none⟩ ∧ ∀ i, i < xs.length → w.cell? ⟨b, off + i, none⟩ = some (.int .i64 (xs[i]?.getD 0)))

theorem Ints.kept {w w' : World} {v : Value} {xs : List Int} {row : Option Nat} (h : Ints w v xs) (g : w.grownBy w' row) (hr : ∀ k, row = some k → v.ownBlock ≠ some k) : Ints w' v xs := by
  obtain ⟨a, cap, rfl, hl, hb, hc⟩ := h
  refine ⟨a, cap, rfl, hl, hb, ?_⟩
  rcases hc with hc | ⟨b, off, rfl, hc⟩
  · exact .inl hc
  · refine .inr ⟨b, off, rfl, fun i hi => ?_⟩
    exact g.cell (hc i hi) (by intro e; exact hr b e.symm rfl)

theorem Ints.same {w w' : World} {v : Value} {xs : List Int} (h : Ints w v xs) (g : w.grownBy w' none) : Ints w' v xs := h.kept g (by simp)

theorem Ints.drewN {w : World} {v : Value} {xs : List Int} (h : Ints w v xs) (n : Nat) : Ints (w.drewN n) v xs := h

theorem take_snoc' (l : List Int) (k : Nat) (h : k < l.length) : l.take (k + 1) = l.take k ++ [l[k]?.getD 0] := by
  rw [List.take_succ_eq_append_getElem h]; simp [h]

theorem all_snoc (p : Int → Bool) (l : List Int) (k : Nat) (h : k < l.length) : (l.take (k + 1)).all p = ((l.take k).all p && p (l[k]?.getD 0)) := by
  rw [take_snoc' l k h]; simp

theorem all_of_false (p : Int → Bool) (l : List Int) (k : Nat) (h : (l.take k).all p = false) : l.all p = false := by
  cases hq : l.all p
  · rfl
  · rw [List.all_eq_true] at hq
    rw [← h, eq_comm, List.all_eq_true]
    exact fun x hx => hq x (List.mem_of_mem_take hx)

theorem Ints.at {w : World} {a : Option Addr} {xs : List Int} {k : Nat}
    (hc : xs = [] ∨ ∃ b off, a = some ⟨b, off, none⟩ ∧ ∀ i, i < xs.length → w.cell? ⟨b, off + i, none⟩ = some (.int .i64 (xs[i]?.getD 0))) (h : k < xs.length) :
    ∃ b off, a = some ⟨b, off, none⟩ ∧ w.cell? ⟨b, off + k, none⟩ = some (.int .i64 (xs[k]?.getD 0)) := by
  rcases hc with rfl | ⟨b, off, rfl, hc⟩
  · simp at h
  · exact ⟨b, off, rfl, hc k h⟩

theorem Ints.bd {xs : List Int} {k : Nat} (hb : ∀ x ∈ xs, -9223372036854775808 ≤ x ∧ x ≤ 9223372036854775807) (h : k < xs.length) :
    -9223372036854775808 ≤ xs[k]?.getD 0 ∧ xs[k]?.getD 0 ≤ 9223372036854775807 := by
  have := hb (xs[k]) (List.getElem_mem h)
  simpa [h] using this

theorem ret_bool {a b : Bool} (h : a = b) : Ending.returned (.bool a) = .returned (.bool b) := by rw [h]
theorem ret_int {k : IntKind} {a b : Int} (h : a = b) : Ending.returned (.int k a) = .returned (.int k b) := by rw [h]

/-! ### Worlds -/
theorem grown_refl (w : World) (row : Option Nat) : w.grownBy w row := ⟨rfl, rfl, rfl, Nat.le_refl _, fun _ _ _ => rfl⟩
theorem grown_drewN (w : World) (n : Nat) (row : Option Nat) : w.grownBy (w.drewN n) row := ⟨rfl, rfl, rfl, Nat.le_refl _, fun _ _ _ => rfl⟩
theorem grown_trans {a b c : World} {row : Option Nat} (h : a.grownBy b row) (k : b.grownBy c row) : a.grownBy c row :=
  ⟨k.os.trans h.os, k.tape.trans h.tape, k.output.trans h.output, Nat.le_trans h.size k.size,
    fun i hi hr => (k.block i (Nat.lt_of_lt_of_le hi h.size) hr).trans (h.block i hi hr)⟩
theorem grown_set (w : World) (a : Addr) (u : Value) : w.grownBy (w.setCell a u) (some a.block) :=
  ⟨rfl, rfl, rfl, by simp [World.setCell], fun k _ hr => Below.heap_setCell _ _ _ _ (by intro e; exact hr (by rw [e]))⟩
theorem heap_set {w : World} {d o : Nat} {c : Array Value} {e : TypeId} {f : Nat × Nat} (h : w.heap[d]? = some (.cells c e f)) (u : Value) :
    (w.setCell ⟨d, o, none⟩ u).heap[d]? = some (.cells (c.setIfInBounds o u) e f) := by
  simp [World.setCell, Array.getElem?_modify, h]
theorem wf_u64 {n : Int} (h : (Lit.int .u64 n).wf = true) : 0 ≤ n ∧ n ≤ 18446744073709551615 := by
  simpa [Lit.wf, IntKind.min, IntKind.max, IntKind.signed, IntKind.bits] using h
theorem ints_blk {w : World} {g : Nat} {cs : Array Value} {e : TypeId} {f : Nat × Nat} (xs : List Int) (n cap : Nat) (h : w.heap[g]? = some (.cells cs e f)) (hn : xs.length = n) (hm : n ≤ maxLen)
    (hb : ∀ x ∈ xs, -9223372036854775808 ≤ x ∧ x ≤ 9223372036854775807) (hc : cs.toList.take n = xs.map (Value.int .i64)) : Ints w (.slice (some ⟨g, 0, none⟩) n cap) xs := by
  subst hn
  refine ⟨_, cap, rfl, hm, hb, .inr ⟨g, 0, rfl, fun i hi => ?_⟩⟩
  simp only [World.cell?, h, Nat.zero_add]
  have h1 : (cs.toList.take xs.length)[i]? = (xs.map (Value.int .i64))[i]? := by rw [hc]
  rw [List.getElem?_take, if_pos hi] at h1
  simp only [Array.getElem?_toList] at h1
  simp only [Option.isSome_none, Bool.false_eq_true, if_false]
  rw [h1]
  simp [hi]

/-- w' is w after some draws. -/
def Drew (w w' : World) : Prop := ∃ n, w' = w.drewN n
theorem Drew.refl (w : World) : Drew w w := ⟨0, rfl⟩
theorem Drew.trans {a b c : World} (h : Drew a b) (k : Drew b c) : Drew a c := by
  obtain ⟨n, rfl⟩ := h
  obtain ⟨m, rfl⟩ := k
  exact ⟨n + m, by simp⟩
theorem Drew.grown {w w' : World} (h : Drew w w') (row : Option Nat) : w.grownBy w' row := by
  obtain ⟨n, rfl⟩ := h
  exact grown_drewN w n row
theorem Drew.mk (w : World) (n : Nat) : Drew w (w.drewN n) := ⟨n, rfl⟩

/-- A contract of a callee that leaves the world alone, inside a quiet region. -/
theorem quiet_any {P : Program} {f : FuncId} {args : Array Value} {W : World} {v : Value} {Q : World → Prop}
    (h : Calls P f args W fun e w' => e = .returned v ∧ w' = W) (hq : Q W) : Calls P f args W fun e w'' => e = .returned v ∧ Q w'' :=
  h.mono fun _ _ ⟨he, hw⟩ => ⟨he, hw ▸ hq⟩
theorem drew_ex (w : World) (a n : Nat) : ∃ m, w.drewN (a + n) = w.drewN (a + m) := ⟨n, rfl⟩


theorem grown_then {a b c : World} {row row' : Option Nat} (h : a.grownBy b row) (k : b.grownBy c row') (hr : ∀ j, row' = some j → a.heap.size ≤ j ∨ row = some j) : a.grownBy c row :=
  ⟨k.os.trans h.os, k.tape.trans h.tape, k.output.trans h.output, Nat.le_trans h.size k.size,
    fun i hi hne => (k.block i (Nat.lt_of_lt_of_le hi h.size) (by
      intro e
      rcases hr i e.symm with h1 | h1
      · omega
      · exact hne h1.symm)).trans (h.block i hi hne)⟩


theorem heap_new {w : World} {g : Nat} (o : Obj) (h : g = w.heap.size) : (w.alloc o).heap[g]? = some o := by subst h; exact heap_alloc_new w o
theorem heap_old {w : World} {g : Nat} {x : Obj} (o : Obj) (h : w.heap[g]? = some x) : (w.alloc o).heap[g]? = some x := by
  rw [Below.heap_alloc _ _ _ (Array.getElem?_eq_some_iff.1 h).1]; exact h


theorem cell_new {w : World} {g : Nat} {v : Value} {e : TypeId} (h : g = w.heap.size) : (w.alloc (.cells #[v] e)).cell? ⟨g, 0, none⟩ = some v := by subst h; simp
theorem cell_new_drew {w : World} {g : Nat} {v : Value} {e : TypeId} (h : g = w.heap.size) : (w.alloc (.cells #[v] e)).drew.cell? ⟨g, 0, none⟩ = some v := cell_new h
theorem grown_drew (w : World) (row : Option Nat) : w.grownBy w.drew row := ⟨rfl, rfl, rfl, Nat.le_refl _, fun _ _ _ => rfl⟩

theorem zip_bd (f : Int → Int → Int) (P Q R : Int → Prop) (hf : ∀ x y, P x → Q y → R (f x y)) : ∀ xs ys : List Int, (∀ x ∈ xs, P x) → (∀ y ∈ ys, Q y) → ∀ z ∈ List.zipWith f xs ys, R z
  | [], _, _, _ => by simp
  | _ :: _, [], _, _ => by simp
  | x :: xs, y :: ys, h, h' => by
    intro z hz
    simp only [List.zipWith_cons_cons, List.mem_cons] at hz
    rcases hz with rfl | hz
    · exact hf _ _ (h x (by simp)) (h' y (by simp))
    · exact zip_bd f P Q R hf xs ys (fun a ha => h a (by simp [ha])) (fun a ha => h' a (by simp [ha])) z hz


theorem set_take (zs l : List Int) (k : Nat) (hz : zs.length = l.length) (h : k < l.length) (ht : zs.take k = l.take k) : (zs.set k (l[k]?.getD 0)).take (k + 1) = l.take (k + 1) := by
  rw [take_snoc' l k h, take_snoc' _ k (by simp; omega), List.take_set_of_le (Nat.le_refl _), ht]
  simp [hz, h]

theorem zip_at (f : Int → Int → Int) : ∀ (xs ys : List Int) (k : Nat), k < xs.length → k < ys.length → (List.zipWith f xs ys)[k]?.getD 0 = f (xs[k]?.getD 0) (ys[k]?.getD 0)
  | [], _, _, h, _ => by simp at h
  | _ :: _, [], _, _, h => by simp at h
  | x :: xs, y :: ys, 0, _, _ => by simp
  | x :: xs, y :: ys, k + 1, h, h' => by simpa using zip_at f xs ys k (by simpa using h) (by simpa using h')

theorem mem_at {P : Int → Prop} {xs : List Int} (h : ∀ x ∈ xs, P x) {k : Nat} (hk : k < xs.length) : P (xs[k]?.getD 0) := by
  have := h (xs[k]) (List.getElem_mem hk)
  simpa [hk] using this

theorem mem_snoc {P : Int → Prop} {xs : List Int} {y : Int} (h : ∀ x ∈ xs, P x) (hy : P y) : ∀ x ∈ xs ++ [y], P x := by
  intro x hx
  rcases List.mem_append.1 hx with hx | hx
  · exact h x hx
  · rw [List.mem_singleton.1 hx]; exact hy

end Go.Proofs.YtpnghgihepnepaaDoor

namespace Go.Proofs.YtpnghgihepnepaaDoor
open Go.RowKit
set_option linter.unusedVariables false

theorem info_int : (Tryd.prog.info? 3).map (fun i => (i.zero, i.size, i.bytes)) = some (some (.int .i64 0), 1, 8) := by kernel_rfl

/-- v is a slice of the call's own (from block base on) that reads as xs. -/
def OwnI (w : World) (base : Nat) (v : Value) (xs : List Int) : Prop := w.ownsRow base 3 1 v xs.length (xs.map (Value.int .i64))

theorem OwnI.ints {w : World} {base : Nat} {v : Value} {xs : List Int} (h : OwnI w base v xs) (hb : ∀ x ∈ xs, -9223372036854775808 ≤ x ∧ x ≤ 9223372036854775807) : Ints w v xs := by
  rcases h.2 with ⟨rfl, h0⟩ | ⟨g, cap, cur, rfl, hg, hh, hn, hm, hs, ht⟩
  · have : xs = [] := List.eq_nil_of_length_eq_zero h0
    subst this
    exact ⟨none, 0, rfl, Nat.zero_le _, hb, .inl rfl⟩
  · refine ⟨_, cap, rfl, Nat.le_trans hn hm, hb, .inr ⟨g, 0, rfl, fun i hi => ?_⟩⟩
    have := World.ownsRow.cellAt h i (by omega)
    rw [Nat.zero_add, this]
    simp [hi]

theorem OwnI.fresh {w : World} {base : Nat} {v : Value} {xs : List Int} (h : OwnI w base v xs) : ∀ g, v.ownBlock = some g → base ≤ g ∧ g < w.heap.size := World.ownsRow.lt h

theorem OwnI.nil (w : World) (base : Nat) : OwnI w base (.slice none 0 0) [] := World.ownsRow_nil w base _ _

theorem OwnI.kept {w w' : World} {base : Nat} {v : Value} {xs : List Int} {row : Option Nat} (h : OwnI w base v xs) (g : w.grownBy w' row) (hr : ∀ k, row = some k → k < base) : OwnI w' base v xs := by
  refine World.ownsRow.kept h g ?_
  cases hv : v.ownBlock with
  | none => exact .inl rfl
  | some k =>
    refine .inr ?_
    intro e
    have := hr k e.symm
    have := (h.fresh k hv).1
    omega

theorem app_int {ops : Array Oper} {rest : List Oper} {o : Oper} {a : Act} {w : World} {Q : Exit → Act → World → Prop} (hgd : o.guard = none) (s x : Operand)
    (ho : o.op = .call { callee := .builtin .append, args := #[s, x], argTypes := #[22, 22] }) (base : Nat) (v : Value) (xs : List Int) (hs : a.eval s = v)
    (hown : OwnI w base v xs) (b : Nat) (y : Int) (hx : a.eval x = .slice (some ⟨b, 0, none⟩) 1 1) (hnew : w.cell? ⟨b, 0, none⟩ = some (.int .i64 y))
    (hlen : xs.length ≤ 1000000000000) (hbase : base ≤ w.heap.size)
    (h : ∀ v' w', OwnI w' base v' (xs ++ [y]) → w.grownBy w' v.ownBlock → wpList Tryd.prog ops Q rest (a.put o.dst v') w') : wpList Tryd.prog ops Q (o :: rest) a w := by
  obtain ⟨i, hi, hz0, hz1, hz2⟩ := info_parts info_int
  refine wpList_append_own (w := w) hgd s x 22 ho base 3 i (.int .i64 0) 1 8 Tryd.underlying22 hi hz0 hz1 hz2 rfl (by decide) v xs.length (xs.map (Value.int .i64)) hs hown ⟨b, 0, none⟩ 1 1 [.int .i64 y] hx rfl ?_ ?_ ?_ ?_ hbase ?_
  · intro j u hu
    cases j with
    | zero => simp at hu; subst hu; simpa [Addr.add] using hnew
    | succ j => simp at hu
  · intro u hu; simp at hu; subst hu; rfl
  · unfold maxLen; omega
  · omega
  · intro v' w' h1 h2 _
    refine h v' w' ?_ h2
    unfold OwnI
    simpa using h1

theorem make_int {ops : Array Oper} {rest : List Oper} {o : Oper} {a : Act} {w : World} {Q : Exit → Act → World → Prop} (hgd : o.guard = none) (l c : Operand)
    (hop : o.op = Op.makeSlice 22 l c) (n : Nat) (hl : a.eval l = .int .i64 (n : Int)) (hc : a.eval c = .int .i64 (n : Int)) (hn : n ≤ 1000000000000)
    (h : ∀ w', OwnI w' w.heap.size (.slice (some ⟨w.heap.size, 0, none⟩) n n) (List.replicate n 0) → w.grownBy w' none → wpList Tryd.prog ops Q rest (a.put o.dst (.slice (some ⟨w.heap.size, 0, none⟩) n n)) w') :
    wpList Tryd.prog ops Q (o :: rest) a w := by
  obtain ⟨i, hi, hz0, hz1, hz2⟩ := info_parts info_int
  refine wpList_make_full w hgd l c 22 hop w.heap.size 3 i (.int .i64 0) 1 Tryd.underlying22 hi hz0 hz1 .i64 .i64 n n n hl hc rfl rfl (by rw [hz2]; omega) (by unfold maxLen; omega) (Nat.le_refl _) ?_
  intro w' h1 h2
  refine h w' ?_ h2
  unfold OwnI
  rw [List.length_replicate, List.map_replicate]
  rw [Nat.mul_one] at h1
  simpa [Value.cells, toList_madeCells_one] using h1

theorem OwnI.stored {w : World} {base g n cap : Nat} {xs : List Int} (h : OwnI w base (.slice (some ⟨g, 0, none⟩) n cap) xs) (k : Nat) (z : Int) :
    OwnI (w.setCell ⟨g, k, none⟩ (.int .i64 z)) base (.slice (some ⟨g, 0, none⟩) n cap) (xs.set k z) := by
  have hn : xs.length = n := by
    rcases h.2 with ⟨h', _⟩ | ⟨g', cap', cur, h', _⟩
    · simp at h'
    · simp only [Value.slice.injEq] at h'
      exact h'.2.1.symm
  subst hn
  have := (World.ownsRow.stored h k (.int .i64 z)).1
  unfold OwnI
  rw [List.length_set, List.map_set]
  exact this

theorem OwnI.cell {w : World} {base g n cap : Nat} {xs : List Int} (h : OwnI w base (.slice (some ⟨g, 0, none⟩) n cap) xs) (k : Nat) (hk : k < xs.length) :
    w.cell? ⟨g, k, none⟩ = some (.int .i64 (xs[k]?.getD 0)) ∧ w.frozen? ⟨g, k, none⟩ = false := by
  have hn : xs.length = n := by
    rcases h.2 with ⟨h', _⟩ | ⟨g', cap', cur, h', _⟩
    · simp at h'
    · simp only [Value.slice.injEq] at h'
      exact h'.2.1.symm
  subst hn
  refine ⟨?_, World.ownsRow.frozenAt h k⟩
  rw [World.ownsRow.cellAt h k (by omega)]
  simp [hk]

theorem step_app_int {ops : Array Oper} {o : Oper} {a : Act} {w : World} {K : Act → World → Prop} {Q : Exit → Act → World → Prop} {E : Prop} (hgd : o.guard = none) (s x : Operand)
    (ho : o.op = .call { callee := .builtin .append, args := #[s, x], argTypes := #[22, 22] }) (base : Nat) (v : Value) (xs : List Int) (hs : a.eval s = v)
    (hown : OwnI w base v xs) (b : Nat) (y : Int) (hx : a.eval x = .slice (some ⟨b, 0, none⟩) 1 1) (hnew : w.cell? ⟨b, 0, none⟩ = some (.int .i64 y))
    (hlen : xs.length ≤ 1000000000000) (hbase : base ≤ w.heap.size)
    (h : ∀ v' w', OwnI w' base v' (xs ++ [y]) → w.grownBy w' v.ownBlock → K (a.put o.dst v') w') : if Region.wanted o (yielded ops a.tmps) = true then Oper.wp Tryd.prog o a w K Q else E := by
  have hw : Region.wanted o (yielded ops a.tmps) = true := by simp [Region.wanted, hgd]
  rw [if_pos hw]
  obtain ⟨i, hi, hz0, hz1, hz2⟩ := info_parts info_int
  refine wp_append_own (w := w) s x 22 ho base 3 i (.int .i64 0) 1 8 Tryd.underlying22 hi hz0 hz1 hz2 rfl (by decide) v xs.length (xs.map (Value.int .i64)) hs hown ⟨b, 0, none⟩ 1 1 [.int .i64 y] hx rfl ?_ ?_ ?_ ?_ hbase ?_
  · intro j u hu
    cases j with
    | zero => simp at hu; subst hu; simpa [Addr.add] using hnew
    | succ j => simp at hu
  · intro u hu; simp at hu; subst hu; rfl
  · unfold maxLen; omega
  · omega
  · intro v' w' h1 h2 _
    refine h v' w' ?_ h2
    unfold OwnI
    simpa using h1
theorem zs_snoc {Z zs : List Int} {k : Nat} {z : Int} (h : zs = Z.take k) (hk : k < Z.length) (hz : Z[k]?.getD 0 = z) : zs ++ [z] = Z.take (k + 1) := by
  rw [take_snoc' Z k hk, h, hz]
end Go.Proofs.YtpnghgihepnepaaDoor

namespace Go.Proofs.YtpnghgihepnepaaDoor
open Go.RowKit
set_option linter.unusedVariables false

/-- A slice value without an array has no room. -/
def Good (v : Value) : Prop := (∀ n c, v = .slice none n c → n = 0 ∧ c = 0) ∧ ∀ a n c, v = .slice a n c → n ≤ c
theorem Good.some (a : Addr) {n c : Nat} (h : n ≤ c) : Good (.slice (some a) n c) := ⟨(by intro _ _ h; cases h), by intro _ _ _ e; cases e; exact h⟩
theorem Good.nil : Good (.slice none 0 0) := ⟨by intro _ _ h; cases h; exact ⟨rfl, rfl⟩, by intro _ _ _ e; cases e; exact Nat.le_refl _⟩
theorem OwnI.good {w : World} {base : Nat} {v : Value} {xs : List Int} (h : OwnI w base v xs) : Good v := by
  rcases h.2 with ⟨rfl, h0⟩ | ⟨g, cap, cur, rfl, _, _, hn, _⟩
  · exact Good.nil
  · exact Good.some _ hn

/-- A slice value, with the integers that it reads as. -/
abbrev Row := Value × List Int
/-- What is told of a row beside others. -/
def RowOk (w : World) (p : Row) : Prop := Ints w p.1 p.2 ∧ Good p.1 ∧ ∀ g, p.1.ownBlock = some g → g < w.heap.size
theorem RowOk.kept {w w' : World} {p : Row} {row : Option Nat} (h : RowOk w p) (g : w.grownBy w' row) (hr : ∀ k, row = some k → p.1.ownBlock ≠ some k) : RowOk w' p :=
  ⟨h.1.kept g hr, h.2.1, fun k hk => Nat.lt_of_lt_of_le (h.2.2 k hk) g.size⟩
theorem RowOk.same {w w' : World} {p : Row} (h : RowOk w p) (g : w.grownBy w' none) : RowOk w' p := h.kept g (by simp)
theorem OwnI.row {w : World} {base : Nat} {v : Value} {xs : List Int} (h : OwnI w base v xs) (hb : ∀ x ∈ xs, -9223372036854775808 ≤ x ∧ x ≤ 9223372036854775807) : RowOk w (v, xs) :=
  ⟨h.ints hb, h.good, fun g hg => (h.fresh g hg).2⟩

/-- v reads as a slice of slices. -/
def RowsP (w : World) (v : Value) (ps : List Row) : Prop :=
  ∃ a cap, v = .slice a ps.length cap ∧ ps.length ≤ maxLen ∧ (ps = [] ∨ ∃ b off, a = some ⟨b, off, none⟩ ∧ ∀ i, i < ps.length → w.cell? ⟨b, off + i, none⟩ = some (ps[i]?.map Prod.fst |>.getD (.slice none 0 0))) ∧ ∀ p ∈ ps, RowOk w p
theorem RowsP.same {w w' : World} {v : Value} {ps : List Row} (h : RowsP w v ps) (g : w.grownBy w' none) : RowsP w' v ps := by
  obtain ⟨a, cap, hv, hl, hc, hp⟩ := h
  refine ⟨a, cap, hv, hl, ?_, fun p hp' => (hp p hp').same g⟩
  rcases hc with hc | ⟨b, off, ha, hc⟩
  · exact .inl hc
  · exact .inr ⟨b, off, ha, fun i hi => g.cell (hc i hi) (by simp)⟩
theorem RowsP.at {w : World} {a : Option Addr} {ps : List Row} {k : Nat}
    (hc : ps = [] ∨ ∃ b off, a = some ⟨b, off, none⟩ ∧ ∀ i, i < ps.length → w.cell? ⟨b, off + i, none⟩ = some (ps[i]?.map Prod.fst |>.getD (.slice none 0 0))) (h : k < ps.length) :
    ∃ b off, a = some ⟨b, off, none⟩ ∧ w.cell? ⟨b, off + k, none⟩ = some (ps[k]).1 := by
  rcases hc with rfl | ⟨b, off, rfl, hc⟩
  · simp at h
  · exact ⟨b, off, rfl, by rw [hc k h]; simp [h]⟩
theorem rows_blk {w : World} {g : Nat} {cs : Array Value} {e : TypeId} {f : Nat × Nat} (ps : List Row) (n cap : Nat) (h : w.heap[g]? = some (.cells cs e f)) (hn : ps.length = n) (hm : n ≤ maxLen)
    (hc : cs.toList.take n = ps.map Prod.fst) (hp : ∀ p ∈ ps, RowOk w p) : RowsP w (.slice (some ⟨g, 0, none⟩) n cap) ps := by
  subst hn
  refine ⟨_, cap, rfl, hm, .inr ⟨g, 0, rfl, fun i hi => ?_⟩, hp⟩
  simp only [World.cell?, h, Nat.zero_add]
  have h1 : (cs.toList.take ps.length)[i]? = (ps.map Prod.fst)[i]? := by rw [hc]
  rw [List.getElem?_take, if_pos hi] at h1
  simp only [Array.getElem?_toList] at h1
  simp only [Option.isSome_none, Bool.false_eq_true, if_false]
  rw [h1]
  simp [hi]

/-- A slice of slices of the call's own. -/
def OwnP (w : World) (base : Nat) (v : Value) (ps : List Row) : Prop :=
  w.ownsRow base 22 1 v ps.length (ps.map Prod.fst) ∧ ∀ p ∈ ps, RowOk w p ∧ ∀ g, p.1.ownBlock = some g → v.ownBlock ≠ some g
theorem OwnP.nil (w : World) (base : Nat) : OwnP w base (.slice none 0 0) [] := ⟨World.ownsRow_nil w base _ _, by simp⟩
theorem OwnP.fresh {w : World} {base : Nat} {v : Value} {ps : List Row} (h : OwnP w base v ps) : ∀ g, v.ownBlock = some g → base ≤ g ∧ g < w.heap.size := World.ownsRow.lt h.1
theorem OwnP.same {w w' : World} {base : Nat} {v : Value} {ps : List Row} (h : OwnP w base v ps) (g : w.grownBy w' none) : OwnP w' base v ps := by
  refine ⟨World.ownsRow.kept h.1 g ?_, fun p hp => ⟨(h.2 p hp).1.same g, (h.2 p hp).2⟩⟩
  cases v.ownBlock
  · exact .inl rfl
  · exact .inr (by simp)
theorem OwnP.mono {w : World} {base base' : Nat} {v : Value} {ps : List Row} (h : OwnP w base v ps) (hb : base' ≤ base) : OwnP w base' v ps := by
  refine ⟨⟨h.1.1, ?_⟩, h.2⟩
  rcases h.1.2 with h1 | ⟨g, cap, cur, h1, h2, h3⟩
  · exact .inl h1
  · exact .inr ⟨g, cap, cur, h1, Nat.le_trans hb h2, h3⟩
theorem OwnI.mono {w : World} {base base' : Nat} {v : Value} {xs : List Int} (h : OwnI w base v xs) (hb : base' ≤ base) : OwnI w base' v xs := by
  refine ⟨h.1, ?_⟩
  rcases h.2 with h1 | ⟨g, cap, cur, h1, h2, h3⟩
  · exact .inl h1
  · exact .inr ⟨g, cap, cur, h1, Nat.le_trans hb h2, h3⟩
theorem OwnP.rows {w : World} {base : Nat} {v : Value} {ps : List Row} (h : OwnP w base v ps) : RowsP w v ps := by
  rcases h.1.2 with ⟨rfl, h0⟩ | ⟨g, cap, cur, rfl, hg, hh, hn, hm, hs, ht⟩
  · have : ps = [] := List.eq_nil_of_length_eq_zero h0
    subst this
    exact ⟨none, 0, rfl, Nat.zero_le _, .inl rfl, by simp⟩
  · refine ⟨_, cap, rfl, Nat.le_trans hn hm, .inr ⟨g, 0, rfl, fun i hi => ?_⟩, fun p hp => (h.2 p hp).1⟩
    have := World.ownsRow.cellAt h.1 i (by omega)
    rw [Nat.zero_add, this]
    simp [hi]
theorem OwnP.slice {w : World} {base : Nat} {v : Value} {ps : List Row} (h : OwnP w base v ps) : ∃ a cap, v = .slice a ps.length cap := by
  rcases h.1.2 with ⟨rfl, h0⟩ | ⟨g, cap, cur, rfl, _⟩
  · exact ⟨none, 0, by rw [h0]⟩
  · exact ⟨_, cap, rfl⟩

/-- A vector that a call makes. -/
def Made (xs : List Int) (w : World) (e : Ending) (w' : World) : Prop := ∃ v, e = .returned v ∧ OwnI w' w.heap.size v xs ∧ w.grownBy w' none

theorem info_row : (Tryd.prog.info? 22).map (fun i => (i.zero, i.size, i.bytes)) = some (some (.slice none 0 0), 1, 24) := by kernel_rfl

theorem slice_one {w : World} {p : Row} (h : RowOk w p) : p.1.oneCell' = true := by
  obtain ⟨⟨a, cap, hv, -⟩, -⟩ := h
  rw [hv]; rfl

/-- One more row. -/
theorem app_row {ops : Array Oper} {rest : List Oper} {o : Oper} {a : Act} {w : World} {Q : Exit → Act → World → Prop} (hgd : o.guard = none) (s x : Operand)
    (ho : o.op = .call { callee := .builtin .append, args := #[s, x], argTypes := #[23, 23] }) (base : Nat) (v : Value) (ps : List Row) (hs : a.eval s = v)
    (hown : OwnP w base v ps) (b : Nat) (p : Row) (hx : a.eval x = .slice (some ⟨b, 0, none⟩) 1 1) (hnew : w.cell? ⟨b, 0, none⟩ = some p.1) (hp : RowOk w p) (hd : ∀ g, p.1.ownBlock = some g → v.ownBlock ≠ some g)
    (hlen : ps.length ≤ 1000000000000) (hbase : base ≤ w.heap.size)
    (h : ∀ v' w', OwnP w' base v' (ps ++ [p]) → w.grownBy w' v.ownBlock → wpList Tryd.prog ops Q rest (a.put o.dst v') w') : wpList Tryd.prog ops Q (o :: rest) a w := by
  obtain ⟨i, hi, hz0, hz1, hz2⟩ := info_parts info_row
  refine wpList_plain hgd fun K hK => wp_append_lies w s x 23 ho base 22 i (.slice none 0 0) 1 24 Tryd.underlying23 hi hz0 hz1 hz2 rfl (by decide) v ps.length (ps.map Prod.fst) hs hown.1 ⟨b, 0, none⟩ 1 1 [p.1] hx rfl ?_ ?_ (by decide) ?_ ?_ hbase w.heap.size rfl ?_
  · intro j u hu
    cases j with
    | zero => simp at hu; subst hu; simpa [Addr.add] using hnew
    | succ j => simp at hu
  · intro u hu; simp at hu; subst hu; exact slice_one hp
  · unfold maxLen; omega
  · omega
  · intro g cap w' h1 h2 h3 _
    refine hK _ _ (h _ w' ⟨by simpa using h1, ?_⟩ h2)
    intro q hq
    have hq' : RowOk w q ∧ ∀ g, q.1.ownBlock = some g → v.ownBlock ≠ some g := by
      rcases List.mem_append.1 hq with hq | hq
      · exact hown.2 q hq
      · rw [List.mem_singleton.1 hq]; exact ⟨hp, hd⟩
    refine ⟨hq'.1.kept h2 (fun k hk e => hq'.2 k e hk), fun g' hg e => ?_⟩
    simp only [Value.ownBlock, Option.some.injEq] at e
    subst e
    rcases h3 with h3 | h3
    · exact hq'.2 _ hg h3
    · have := hq'.1.2.2 _ hg; omega

/-- All of a row behind a row of the call's own. -/
theorem app_ints {ops : Array Oper} {rest : List Oper} {o : Oper} {a : Act} {w : World} {Q : Exit → Act → World → Prop} (hgd : o.guard = none) (s x : Operand)
    (ho : o.op = .call { callee := .builtin .append, args := #[s, x], argTypes := #[22, 22] }) (base : Nat) (v : Value) (xs : List Int) (hs : a.eval s = v)
    (hown : OwnI w base v xs) (u : Value) (ys : List Int) (hx : a.eval x = u) (hu : Ints w u ys) (hgu : Good u) (hlen : xs.length + ys.length ≤ 1000000000000) (hbase : base ≤ w.heap.size)
    (h : ∀ v' w', OwnI w' base v' (xs ++ ys) → w.grownBy w' v.ownBlock → wpList Tryd.prog ops Q rest (a.put o.dst v') w') : wpList Tryd.prog ops Q (o :: rest) a w := by
  obtain ⟨i, hi, hz0, hz1, hz2⟩ := info_parts info_int
  obtain ⟨au, cu, rfl, hm, hb, hc⟩ := hu
  have one : ∀ z : Value, (∃ y, z = .int .i64 y) → z.oneCell' = true := by rintro _ ⟨y, rfl⟩; rfl
  cases au with
  | none =>
    obtain ⟨h0, rfl⟩ := hgu.1 _ _ rfl
    have : ys = [] := List.eq_nil_of_length_eq_zero h0
    subst this
    refine wpList_append_own_none hgd s x 22 ho base 3 i 1 Tryd.underlying22 hi v xs.length (xs.map (Value.int .i64)) hs hown hx ?_
    exact h v w (by rw [List.append_nil]; exact hown) (grown_refl _ _)
  | some ad =>
    refine wpList_append_own (w := w) hgd s x 22 ho base 3 i (.int .i64 0) 1 8 Tryd.underlying22 hi hz0 hz1 hz2 rfl (by decide) v xs.length (xs.map (Value.int .i64)) hs hown ad ys.length cu (ys.map (Value.int .i64)) hx (by simp) ?_ ?_ ?_ ?_ hbase ?_
    · intro j z hz
      rcases hc with rfl | ⟨b, off, hab, hc⟩
      · simp at hz
      · have hj : j < ys.length := by
          rcases Nat.lt_or_ge j ys.length with h1 | h1
          · exact h1
          · rw [List.getElem?_eq_none (by simpa using h1)] at hz; cases hz
        simp only [Option.some.injEq] at hab
        subst hab
        rw [show (Addr.mk b off none).add j = ⟨b, off + j, none⟩ by unfold Addr.add; split <;> simp_all, hc j hj, ← hz]
        simp [hj]
    · intro z hz
      obtain ⟨y, -, rfl⟩ := List.mem_map.1 hz
      exact one _ ⟨y, rfl⟩
    · unfold maxLen; omega
    · omega
    · intro v' w' h1 h2 _
      refine h v' w' ?_ h2
      unfold OwnI
      simpa using h1

end Go.Proofs.YtpnghgihepnepaaDoor
