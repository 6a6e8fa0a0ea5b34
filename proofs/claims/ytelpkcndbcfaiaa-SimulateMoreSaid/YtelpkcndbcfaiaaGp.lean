/- Plain lemmas: how slices of integers read, worlds, draws. -/
import Derived.WalkKit
import Derived.ProofKit
import Derived.Below
import Derived.Deep.QuietTactic
import Derived.BigQuiet
import Derived.Lib.Hide
import Derived.OpenShut
import Derived.OwnWalk
import Derived.Deep.RegionLaw
namespace Go.Proofs.Ytelpkcndbcfaiaa
open Go.RowKit
set_option linter.unusedVariables false

/-- The slice value v reads as the integers xs in the world w. -/
def Ints (w : World) (v : Value) (xs : List Int) : Prop :=
  ∃ a cap, v = .slice a xs.length cap ∧ xs.length ≤ maxLen ∧ (∀ x ∈ xs, -9223372036854775808 ≤ x ∧ x ≤ 9223372036854775807) ∧
    (xs = [] ∨ ∃ b off, a = some ⟨b, off, none⟩ ∧ ∀ i, i < xs.length → w.cell? ⟨b, off + i, none⟩ = some (.int .i64 (xs[i]?.getD 0)))

theorem Ints.kept {w w' : World} {v : Value} {xs : List Int} {row : Option Nat} (h : Ints w v xs) (g : w.grownBy w' row) (hr : ∀ k, row = some k → v.ownBlock ≠ some k) : Ints w' v xs := by
  obtain ⟨a, cap, rfl, hl, hb, hc⟩ := h
  refine ⟨a, cap, rfl, hl, hb, ?_⟩
  rcases hc with hc | ⟨b, off, rfl, hc⟩
  · exact .inl hc
  · refine .inr ⟨b, off, rfl, fun i hi => ?_⟩
    exact g.cell (hc i hi) (by intro e; exact hr b e.symm rfl)

theorem Ints.same {w w' : World} {v : Value} {xs : List Int} (h : Ints w v xs) (g : w.grownBy w' none) : Ints w' v xs := h.kept g (by simp)

theorem Ints.drewN {w : World} {v : Value} {xs : List Int} (h : Ints w v xs) (n : Nat) : Ints (w.drewN n) v xs := h

theorem take_snoc' (l : List Int) (k : Nat) (h : k < l.length) : l.take (k + 1) = l.take k ++ [l[k]?.getD 0] := by
  rw [List.take_succ_eq_append_getElem h]; simp [h]

theorem all_snoc (p : Int → Bool) (l : List Int) (k : Nat) (h : k < l.length) : (l.take (k + 1)).all p = ((l.take k).all p && p (l[k]?.getD 0)) := by
  rw [take_snoc' l k h]; simp

theorem all_of_false (p : Int → Bool) (l : List Int) (k : Nat) (h : (l.take k).all p = false) : l.all p = false := by
  cases hq : l.all p
  · rfl
  · rw [List.all_eq_true] at hq
    rw [← h, eq_comm, List.all_eq_true]
    exact fun x hx => hq x (List.mem_of_mem_take hx)

theorem Ints.at {w : World} {a : Option Addr} {xs : List Int} {k : Nat}
    (hc : xs = [] ∨ ∃ b off, a = some ⟨b, off, none⟩ ∧ ∀ i, i < xs.length → w.cell? ⟨b, off + i, none⟩ = some (.int .i64 (xs[i]?.getD 0))) (h : k < xs.length) :
    ∃ b off, a = some ⟨b, off, none⟩ ∧ w.cell? ⟨b, off + k, none⟩ = some (.int .i64 (xs[k]?.getD 0)) := by
  rcases hc with rfl | ⟨b, off, rfl, hc⟩
  · simp at h
  · exact ⟨b, off, rfl, hc k h⟩

theorem Ints.bd {xs : List Int} {k : Nat} (hb : ∀ x ∈ xs, -9223372036854775808 ≤ x ∧ x ≤ 9223372036854775807) (h : k < xs.length) :
    -9223372036854775808 ≤ xs[k]?.getD 0 ∧ xs[k]?.getD 0 ≤ 9223372036854775807 := by
  have := hb (xs[k]) (List.getElem_mem h)
  simpa [h] using this

theorem ret_bool {a b : Bool} (h : a = b) : Ending.returned (.bool a) = .returned (.bool b) := by rw [h]
theorem ret_int {k : IntKind} {a b : Int} (h : a = b) : Ending.returned (.int k a) = .returned (.int k b) := by rw [h]

/-! ### Worlds -/
theorem grown_refl (w : World) (row : Option Nat) : w.grownBy w row := ⟨rfl, rfl, rfl, Nat.le_refl _, fun _ _ _ => rfl⟩
theorem grown_drewN (w : World) (n : Nat) (row : Option Nat) : w.grownBy (w.drewN n) row := ⟨rfl, rfl, rfl, Nat.le_refl _, fun _ _ _ => rfl⟩
theorem grown_trans {a b c : World} {row : Option Nat} (h : a.grownBy b row) (k : b.grownBy c row) : a.grownBy c row :=
  ⟨k.os.trans h.os, k.tape.trans h.tape, k.output.trans h.output, Nat.le_trans h.size k.size,
    fun i hi hr => (k.block i (Nat.lt_of_lt_of_le hi h.size) hr).trans (h.block i hi hr)⟩
theorem grown_set (w : World) (a : Addr) (u : Value) : w.grownBy (w.setCell a u) (some a.block) :=
  ⟨rfl, rfl, rfl, by simp [World.setCell], fun k _ hr => Below.heap_setCell _ _ _ _ (by intro e; exact hr (by rw [e]))⟩
theorem heap_set {w : World} {d o : Nat} {c : Array Value} {e : TypeId} {f : Nat × Nat} (h : w.heap[d]? = some (.cells c e f)) (u : Value) :
    (w.setCell ⟨d, o, none⟩ u).heap[d]? = some (.cells (c.setIfInBounds o u) e f) := by
  simp [World.setCell, Array.getElem?_modify, h]
theorem wf_u64 {n : Int} (h : (Lit.int .u64 n).wf = true) : 0 ≤ n ∧ n ≤ 18446744073709551615 := by
  simpa [Lit.wf, IntKind.min, IntKind.max, IntKind.signed, IntKind.bits] using h
theorem ints_blk {w : World} {g : Nat} {cs : Array Value} {e : TypeId} {f : Nat × Nat} (xs : List Int) (n cap : Nat) (h : w.heap[g]? = some (.cells cs e f)) (hn : xs.length = n) (hm : n ≤ maxLen)
    (hb : ∀ x ∈ xs, -9223372036854775808 ≤ x ∧ x ≤ 9223372036854775807) (hc : cs.toList.take n = xs.map (Value.int .i64)) : Ints w (.slice (some ⟨g, 0, none⟩) n cap) xs := by
  subst hn
  refine ⟨_, cap, rfl, hm, hb, .inr ⟨g, 0, rfl, fun i hi => ?_⟩⟩
  simp only [World.cell?, h, Nat.zero_add]
  have h1 : (cs.toList.take xs.length)[i]? = (xs.map (Value.int .i64))[i]? := by rw [hc]
  rw [List.getElem?_take, if_pos hi] at h1
  simp only [Array.getElem?_toList] at h1
  simp only [Option.isSome_none, Bool.false_eq_true, if_false]
  rw [h1]
  simp [hi]

/-- w' is w after some draws. -/
def Drew (w w' : World) : Prop := ∃ n, w' = w.drewN n
theorem Drew.refl (w : World) : Drew w w := ⟨0, rfl⟩
theorem Drew.trans {a b c : World} (h : Drew a b) (k : Drew b c) : Drew a c := by
  obtain ⟨n, rfl⟩ := h
  obtain ⟨m, rfl⟩ := k
  exact ⟨n + m, by simp⟩
theorem Drew.grown {w w' : World} (h : Drew w w') (row : Option Nat) : w.grownBy w' row := by
  obtain ⟨n, rfl⟩ := h
  exact grown_drewN w n row
theorem Drew.mk (w : World) (n : Nat) : Drew w (w.drewN n) := ⟨n, rfl⟩

/-- A contract of a callee that leaves the world alone, inside a quiet region. -/
theorem quiet_any {P : Program} {f : FuncId} {args : Array Value} {W : World} {v : Value} {Q : World → Prop}
    (h : Calls P f args W fun e w' => e = .returned v ∧ w' = W) (hq : Q W) : Calls P f args W fun e w'' => e = .returned v ∧ Q w'' :=
  h.mono fun _ _ ⟨he, hw⟩ => ⟨he, hw ▸ hq⟩
theorem drew_ex (w : World) (a n : Nat) : ∃ m, w.drewN (a + n) = w.drewN (a + m) := ⟨n, rfl⟩


theorem grown_then {a b c : World} {row row' : Option Nat} (h : a.grownBy b row) (k : b.grownBy c row') (hr : ∀ j, row' = some j → a.heap.size ≤ j ∨ row = some j) : a.grownBy c row :=
  ⟨k.os.trans h.os, k.tape.trans h.tape, k.output.trans h.output, Nat.le_trans h.size k.size,
    fun i hi hne => (k.block i (Nat.lt_of_lt_of_le hi h.size) (by
      intro e
      rcases hr i e.symm with h1 | h1
      · omega
      · exact hne h1.symm)).trans (h.block i hi hne)⟩


theorem heap_new {w : World} {g : Nat} (o : Obj) (h : g = w.heap.size) : (w.alloc o).heap[g]? = some o := by subst h; exact heap_alloc_new w o
theorem heap_old {w : World} {g : Nat} {x : Obj} (o : Obj) (h : w.heap[g]? = some x) : (w.alloc o).heap[g]? = some x := by
  rw [Below.heap_alloc _ _ _ (Array.getElem?_eq_some_iff.1 h).1]; exact h


theorem cell_new {w : World} {g : Nat} {v : Value} {e : TypeId} (h : g = w.heap.size) : (w.alloc (.cells #[v] e)).cell? ⟨g, 0, none⟩ = some v := by subst h; simp
theorem cell_new_drew {w : World} {g : Nat} {v : Value} {e : TypeId} (h : g = w.heap.size) : (w.alloc (.cells #[v] e)).drew.cell? ⟨g, 0, none⟩ = some v := cell_new h
theorem grown_drew (w : World) (row : Option Nat) : w.grownBy w.drew row := ⟨rfl, rfl, rfl, Nat.le_refl _, fun _ _ _ => rfl⟩

theorem zip_bd (f : Int → Int → Int) (P Q R : Int → Prop) (hf : ∀ x y, P x → Q y → R (f x y)) : ∀ xs ys : List Int, (∀ x ∈ xs, P x) → (∀ y ∈ ys, Q y) → ∀ z ∈ List.zipWith f xs ys, R z
  | [], _, _, _ => by simp
  | _ :: _, [], _, _ => by simp
  | x :: xs, y :: ys, h, h' => by
    intro z hz
    simp only [List.zipWith_cons_cons, List.mem_cons] at hz
    rcases hz with rfl | hz
    · exact hf _ _ (h x (by simp)) (h' y (by simp))
    · exact zip_bd f P Q R hf xs ys (fun a ha => h a (by simp [ha])) (fun a ha => h' a (by simp [ha])) z hz


theorem set_take (zs l : List Int) (k : Nat) (hz : zs.length = l.length) (h : k < l.length) (ht : zs.take k = l.take k) : (zs.set k (l[k]?.getD 0)).take (k + 1) = l.take (k + 1) := by
  rw [take_snoc' l k h, take_snoc' _ k (by simp; omega), List.take_set_of_le (Nat.le_refl _), ht]
  simp [hz, h]

theorem zip_at (f : Int → Int → Int) : ∀ (xs ys : List Int) (k : Nat), k < xs.length → k < ys.length → (List.zipWith f xs ys)[k]?.getD 0 = f (xs[k]?.getD 0) (ys[k]?.getD 0)
  | [], _, _, h, _ => by simp at h
  | _ :: _, [], _, _, h => by simp at h
  | x :: xs, y :: ys, 0, _, _ => by simp
  | x :: xs, y :: ys, k + 1, h, h' => by simpa using zip_at f xs ys k (by simpa using h) (by simpa using h')

theorem mem_at {P : Int → Prop} {xs : List Int} (h : ∀ x ∈ xs, P x) {k : Nat} (hk : k < xs.length) : P (xs[k]?.getD 0) := by
  have := h (xs[k]) (List.getElem_mem hk)
  simpa [hk] using this

theorem mem_snoc {P : Int → Prop} {xs : List Int} {y : Int} (h : ∀ x ∈ xs, P x) (hy : P y) : ∀ x ∈ xs ++ [y], P x := by
  intro x hx
  rcases List.mem_append.1 hx with hx | hx
  · exact h x hx
  · rw [List.mem_singleton.1 hx]; exact hy

end Go.Proofs.Ytelpkcndbcfaiaa
