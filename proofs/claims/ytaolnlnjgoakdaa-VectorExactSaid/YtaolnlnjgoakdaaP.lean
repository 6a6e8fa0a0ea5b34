/- Plain functions and lemmas on lists of integers, and how a slice of integers reads. -/
import Derived.WalkKit
import Derived.ProofKit
import Derived.Below
import Derived.Deep.QuietTactic
import Derived.BigQuiet
import Derived.Lib.Hide
import Derived.OpenShut
namespace Go.Proofs.Ytaolnlnjgoakdaa
open Go.RowKit
set_option linter.unusedVariables false

/-- The slice value v reads as the integers xs in the world w. -/
def Ints (w : World) (v : Value) (xs : List Int) : Prop :=
  ∃ a cap, v = .slice a xs.length cap ∧ xs.length ≤ maxLen ∧ (∀ x ∈ xs, -9223372036854775808 ≤ x ∧ x ≤ 9223372036854775807) ∧
    (xs = [] ∨ ∃ b off, a = some ⟨b, off, none⟩ ∧ ∀ i, i < xs.length → w.cell? ⟨b, off + i, none⟩ = some (.int .i64 (xs[i]?.getD 0)))

theorem Ints.kept {w w' : World} {v : Value} {xs : List Int} {row : Option Nat} (h : Ints w v xs) (g : w.grownBy w' row) (hr : ∀ k, row = some k → v.ownBlock ≠ some k) : Ints w' v xs := by
  obtain ⟨a, cap, rfl, hl, hb, hc⟩ := h
  refine ⟨a, cap, rfl, hl, hb, ?_⟩
  rcases hc with hc | ⟨b, off, rfl, hc⟩
  · exact .inl hc
  · refine .inr ⟨b, off, rfl, fun i hi => ?_⟩
    exact g.cell (hc i hi) (by intro e; exact hr b e.symm rfl)

theorem Ints.same {w w' : World} {v : Value} {xs : List Int} (h : Ints w v xs) (g : w.grownBy w' none) : Ints w' v xs := h.kept g (by simp)

theorem Ints.drewN {w : World} {v : Value} {xs : List Int} (h : Ints w v xs) (n : Nat) : Ints (w.drewN n) v xs := h

def numB (x : Int) : Bool := decide (0 ≤ x) && decide (x ≤ 1048576)
def elemB (x : Int) : Bool := x == 1099511627776 || numB x
def validB (xs : List Int) : Bool := decide (xs.length ≤ 6) && xs.all elemB
def finiteB (xs : List Int) : Bool := decide (xs.length ≤ 6) && xs.all numB
def atMostB : List Int → List Int → Bool
  | [], _ => true
  | x :: xs, y :: ys => decide (x ≤ y) && atMostB xs ys
  | _ :: _, [] => false
def leqB (a b : List Int) : Bool := validB a && validB b && a.length == b.length && atMostB a b
def orderI (a b : Int) : Int := if a < b then -1 else if b < a then 1 else 0
def lexI : List Int → List Int → Int
  | [], [] => 0
  | [], _ :: _ => -1
  | _ :: _, [] => 1
  | x :: xs, y :: ys => if x < y then -1 else if y < x then 1 else lexI xs ys
def compareI (a b : List Int) : Int := if a.length < b.length then -1 else if b.length < a.length then 1 else lexI a b

theorem take_snoc' (l : List Int) (k : Nat) (h : k < l.length) : l.take (k + 1) = l.take k ++ [l[k]?.getD 0] := by
  rw [List.take_succ_eq_append_getElem h]; simp [h]

theorem all_snoc (p : Int → Bool) (l : List Int) (k : Nat) (h : k < l.length) : (l.take (k + 1)).all p = ((l.take k).all p && p (l[k]?.getD 0)) := by
  rw [take_snoc' l k h]; simp

theorem all_of_false (p : Int → Bool) (l : List Int) (k : Nat) (h : (l.take k).all p = false) : l.all p = false := by
  cases hq : l.all p
  · rfl
  · rw [List.all_eq_true] at hq
    rw [← h, eq_comm, List.all_eq_true]
    exact fun x hx => hq x (List.mem_of_mem_take hx)

theorem Ints.at {w : World} {a : Option Addr} {xs : List Int} {k : Nat}
    (hc : xs = [] ∨ ∃ b off, a = some ⟨b, off, none⟩ ∧ ∀ i, i < xs.length → w.cell? ⟨b, off + i, none⟩ = some (.int .i64 (xs[i]?.getD 0))) (h : k < xs.length) :
    ∃ b off, a = some ⟨b, off, none⟩ ∧ w.cell? ⟨b, off + k, none⟩ = some (.int .i64 (xs[k]?.getD 0)) := by
  rcases hc with rfl | ⟨b, off, rfl, hc⟩
  · simp at h
  · exact ⟨b, off, rfl, hc k h⟩

theorem Ints.bd {xs : List Int} {k : Nat} (hb : ∀ x ∈ xs, -9223372036854775808 ≤ x ∧ x ≤ 9223372036854775807) (h : k < xs.length) :
    -9223372036854775808 ≤ xs[k]?.getD 0 ∧ xs[k]?.getD 0 ≤ 9223372036854775807 := by
  have := hb (xs[k]) (List.getElem_mem h)
  simpa [h] using this

theorem validB_false {xs : List Int} {k : Nat} (h : (xs.take k).all elemB = false) : validB xs = false := by
  rw [validB, all_of_false _ _ _ h, Bool.and_false]
theorem finiteB_false {xs : List Int} {k : Nat} (h : (xs.take k).all numB = false) : finiteB xs = false := by
  rw [finiteB, all_of_false _ _ _ h, Bool.and_false]
theorem ret_bool {a b : Bool} (h : a = b) : Ending.returned (.bool a) = .returned (.bool b) := by rw [h]
theorem ret_int {k : IntKind} {a b : Int} (h : a = b) : Ending.returned (.int k a) = .returned (.int k b) := by rw [h]

theorem atMostB_split : ∀ (a b : List Int) (k : Nat), k < a.length → k < b.length → atMostB (a.take (k + 1)) (b.take (k + 1)) = (atMostB (a.take k) (b.take k) && decide (a[k]?.getD 0 ≤ b[k]?.getD 0))
  | [], _, k, h, _ => by simp at h
  | _ :: _, [], k, _, h => by simp at h
  | x :: xs, y :: ys, 0, _, _ => by simp [atMostB]
  | x :: xs, y :: ys, k + 1, h, h' => by
    have := atMostB_split xs ys k (by simpa using h) (by simpa using h')
    simp [atMostB, this, Bool.and_assoc]

theorem atMostB_false : ∀ (a b : List Int) (k : Nat), k ≤ a.length → k ≤ b.length → atMostB (a.take k) (b.take k) = false → atMostB a b = false
  | _, _, 0, _, _, h => by simp [atMostB] at h
  | [], _, k + 1, h, _, _ => by simp at h
  | _ :: _, [], k + 1, _, h, _ => by simp at h
  | x :: xs, y :: ys, k + 1, h, h', e => by
    simp only [List.take_succ_cons, atMostB, Bool.and_eq_false_iff] at e ⊢
    rcases e with e | e
    · exact .inl e
    · exact .inr (atMostB_false xs ys k (by simpa using h) (by simpa using h') e)

theorem lexI_take : ∀ (a b : List Int) (k : Nat), k ≤ a.length → k ≤ b.length → lexI (a.take k) (b.take k) = 0 → lexI a b = lexI (a.drop k) (b.drop k)
  | _, _, 0, _, _, _ => by simp
  | [], _, k + 1, h, _, _ => by simp at h
  | _ :: _, [], k + 1, _, h, _ => by simp at h
  | x :: xs, y :: ys, k + 1, h, h', e => by
    simp only [List.take_succ_cons, lexI, List.drop_succ_cons] at e ⊢
    split at e
    · simp at e
    · rename_i h1
      split at e
      · simp at e
      · rename_i h2
        rw [if_neg h1, if_neg h2]
        exact lexI_take xs ys k (by simpa using h) (by simpa using h') e

theorem lexI_snoc : ∀ (a b : List Int) (k : Nat), k < a.length → k < b.length → lexI (a.take k) (b.take k) = 0 → lexI (a.take (k + 1)) (b.take (k + 1)) = orderI (a[k]?.getD 0) (b[k]?.getD 0)
  | [], _, k, h, _, _ => by simp at h
  | _ :: _, [], k, _, h, _ => by simp at h
  | x :: xs, y :: ys, 0, _, _, _ => by simp [lexI, orderI]
  | x :: xs, y :: ys, k + 1, h, h', e => by
    simp only [List.take_succ_cons, lexI] at e ⊢
    split at e
    · simp at e
    · rename_i h1
      split at e
      · simp at e
      · rename_i h2
        rw [if_neg h1, if_neg h2]
        simpa using lexI_snoc xs ys k (by simpa using h) (by simpa using h') e

theorem lexI_at (a b : List Int) (k : Nat) (ha : k < a.length) (hb : k < b.length) (h : lexI (a.take k) (b.take k) = 0) (hne : orderI (a[k]?.getD 0) (b[k]?.getD 0) ≠ 0) :
    lexI a b = orderI (a[k]?.getD 0) (b[k]?.getD 0) := by
  rw [lexI_take a b k (by omega) (by omega) h]
  rw [List.drop_eq_getElem_cons ha, List.drop_eq_getElem_cons hb]
  simp only [List.getElem?_eq_getElem ha, List.getElem?_eq_getElem hb, Option.getD_some] at hne ⊢
  unfold lexI
  unfold orderI at hne ⊢
  split
  · rfl
  · split
    · rfl
    · simp_all

/-! ### Worlds -/
theorem grown_refl (w : World) (row : Option Nat) : w.grownBy w row := ⟨rfl, rfl, rfl, Nat.le_refl _, fun _ _ _ => rfl⟩
theorem grown_drewN (w : World) (n : Nat) (row : Option Nat) : w.grownBy (w.drewN n) row := ⟨rfl, rfl, rfl, Nat.le_refl _, fun _ _ _ => rfl⟩
theorem grown_trans {a b c : World} {row : Option Nat} (h : a.grownBy b row) (k : b.grownBy c row) : a.grownBy c row :=
  ⟨k.os.trans h.os, k.tape.trans h.tape, k.output.trans h.output, Nat.le_trans h.size k.size,
    fun i hi hr => (k.block i (Nat.lt_of_lt_of_le hi h.size) hr).trans (h.block i hi hr)⟩
theorem grown_set (w : World) (a : Addr) (u : Value) : w.grownBy (w.setCell a u) (some a.block) :=
  ⟨rfl, rfl, rfl, by simp [World.setCell], fun k _ hr => Below.heap_setCell _ _ _ _ (by intro e; exact hr (by rw [e]))⟩
theorem heap_set {w : World} {d o : Nat} {c : Array Value} {e : TypeId} {f : Nat × Nat} (h : w.heap[d]? = some (.cells c e f)) (u : Value) :
    (w.setCell ⟨d, o, none⟩ u).heap[d]? = some (.cells (c.setIfInBounds o u) e f) := by
  simp [World.setCell, Array.getElem?_modify, h]
theorem wf_u64 {n : Int} (h : (Lit.int .u64 n).wf = true) : 0 ≤ n ∧ n ≤ 18446744073709551615 := by
  simpa [Lit.wf, IntKind.min, IntKind.max, IntKind.signed, IntKind.bits] using h
theorem ints_blk {w : World} {g : Nat} {cs : Array Value} {e : TypeId} {f : Nat × Nat} (xs : List Int) (n cap : Nat) (h : w.heap[g]? = some (.cells cs e f)) (hn : xs.length = n) (hm : n ≤ maxLen)
    (hb : ∀ x ∈ xs, -9223372036854775808 ≤ x ∧ x ≤ 9223372036854775807) (hc : cs.toList.take n = xs.map (Value.int .i64)) : Ints w (.slice (some ⟨g, 0, none⟩) n cap) xs := by
  subst hn
  refine ⟨_, cap, rfl, hm, hb, .inr ⟨g, 0, rfl, fun i hi => ?_⟩⟩
  simp only [World.cell?, h, Nat.zero_add]
  have h1 : (cs.toList.take xs.length)[i]? = (xs.map (Value.int .i64))[i]? := by rw [hc]
  rw [List.getElem?_take, if_pos hi] at h1
  simp only [Array.getElem?_toList] at h1
  simp only [Option.isSome_none, Bool.false_eq_true, if_false]
  rw [h1]
  simp [hi]
end Go.Proofs.Ytaolnlnjgoakdaa
