/- Texts Gp, Gl, Wp, Wk in one. -/
import Derived.WalkKit
import Derived.ProofKit
import Derived.Below
import Derived.Deep.QuietTactic
import Derived.BigQuiet
import Derived.Lib.Hide
import Derived.OpenShut
import Derived.OwnWalk
import Derived.Deep.RegionLaw
import Derived.Test.YtoaoheblaidhmaaRows
namespace Go.Proofs.Ytoaoheblaidhmaa
open Go.RowKit
set_option linter.unusedVariables false

/-- The slice value v reads as the integers xs in the world w. -/
def Ints (w : World) (v : Value) (xs : List Int) : Prop :=
  ∃ a cap, v = .slice a xs.length cap ∧ xs.length ≤ maxLen ∧ (∀ x ∈ xs, -9223372036854775808 ≤ x ∧ x ≤ 9223372036854775807) ∧
    (xs = [] ∨ ∃ b off, a = some ⟨b, off, none⟩ ∧ ∀ i, i < xs.length → w.cell? ⟨b, off + i, none⟩ = some (.int .i64 (xs[i]?.getD 0)))

theorem Ints.kept {w w' : World} {v : Value} {xs : List Int} {row : Option Nat} (h : Ints w v xs) (g : w.grownBy w' row) (hr : ∀ k, row = some k → v.ownBlock ≠ some k) : Ints w' v xs := by
  obtain ⟨a, cap, rfl, hl, hb, hc⟩ := h
  refine ⟨a, cap, rfl, hl, hb, ?_⟩
  rcases hc with hc | ⟨b, off, rfl, hc⟩
  · exact .inl hc
  · refine .inr ⟨b, off, rfl, fun i hi => ?_⟩
    exact g.cell (hc i hi) (by intro e; exact hr b e.symm rfl)

theorem Ints.same {w w' : World} {v : Value} {xs : List Int} (h : Ints w v xs) (g : w.grownBy w' none) : Ints w' v xs := h.kept g (by simp)

theorem Ints.drewN {w : World} {v : Value} {xs : List Int} (h : Ints w v xs) (n : Nat) : Ints (w.drewN n) v xs := h

theorem take_snoc' (l : List Int) (k : Nat) (h : k < l.length) : l.take (k + 1) = l.take k ++ [l[k]?.getD 0] := by
  rw [List.take_succ_eq_append_getElem h]; simp [h]

theorem all_snoc (p : Int → Bool) (l : List Int) (k : Nat) (h : k < l.length) : (l.take (k + 1)).all p = ((l.take k).all p && p (l[k]?.getD 0)) := by
  rw [take_snoc' l k h]; simp

theorem all_of_false (p : Int → Bool) (l : List Int) (k : Nat) (h : (l.take k).all p = false) : l.all p = false := by
  cases hq : l.all p
  · rfl
  · rw [List.all_eq_true] at hq
    rw [← h, eq_comm, List.all_eq_true]
    exact fun x hx => hq x (List.mem_of_mem_take hx)

theorem Ints.at {w : World} {a : Option Addr} {xs : List Int} {k : Nat}
    (hc : xs = [] ∨ ∃ b off, a = some ⟨b, off, none⟩ ∧ ∀ i, i < xs.length → w.cell? ⟨b, off + i, none⟩ = some (.int .i64 (xs[i]?.getD 0))) (h : k < xs.length) :
    ∃ b off, a = some ⟨b, off, none⟩ ∧ w.cell? ⟨b, off + k, none⟩ = some (.int .i64 (xs[k]?.getD 0)) := by
  rcases hc with rfl | ⟨b, off, rfl, hc⟩
  · simp at h
  · exact ⟨b, off, rfl, hc k h⟩

theorem Ints.bd {xs : List Int} {k : Nat} (hb : ∀ x ∈ xs, -9223372036854775808 ≤ x ∧ x ≤ 9223372036854775807) (h : k < xs.length) :
    -9223372036854775808 ≤ xs[k]?.getD 0 ∧ xs[k]?.getD 0 ≤ 9223372036854775807 := by
  have := hb (xs[k]) (List.getElem_mem h)
  simpa [h] using this

theorem ret_bool {a b : Bool} (h : a = b) : Ending.returned (.bool a) = .returned (.bool b) := by rw [h]
theorem ret_int {k : IntKind} {a b : Int} (h : a = b) : Ending.returned (.int k a) = .returned (.int k b) := by rw [h]

/-! ### Worlds -/
theorem grown_refl (w : World) (row : Option Nat) : w.grownBy w row := ⟨rfl, rfl, rfl, Nat.le_refl _, fun _ _ _ => rfl⟩
theorem grown_drewN (w : World) (n : Nat) (row : Option Nat) : w.grownBy (w.drewN n) row := ⟨rfl, rfl, rfl, Nat.le_refl _, fun _ _ _ => rfl⟩
theorem grown_trans {a b c : World} {row : Option Nat} (h : a.grownBy b row) (k : b.grownBy c row) : a.grownBy c row :=
  ⟨k.os.trans h.os, k.tape.trans h.tape, k.output.trans h.output, Nat.le_trans h.size k.size,
    fun i hi hr => (k.block i (Nat.lt_of_lt_of_le hi h.size) hr).trans (h.block i hi hr)⟩
theorem grown_set (w : World) (a : Addr) (u : Value) : w.grownBy (w.setCell a u) (some a.block) :=
  ⟨rfl, rfl, rfl, by simp [World.setCell], fun k _ hr => Below.heap_setCell _ _ _ _ (by intro e; exact hr (by rw [e]))⟩
theorem heap_set {w : World} {d o : Nat} {c : Array Value} {e : TypeId} {f : Nat × Nat} (h : w.heap[d]? = some (.cells c e f)) (u : Value) :
    (w.setCell ⟨d, o, none⟩ u).heap[d]? = some (.cells (c.setIfInBounds o u) e f) := by
  simp [World.setCell, Array.getElem?_modify, h]
theorem wf_u64 {n : Int} (h : (Lit.int .u64 n).wf = true) : 0 ≤ n ∧ n ≤ 18446744073709551615 := by
  simpa [Lit.wf, IntKind.min, IntKind.max, IntKind.signed, IntKind.bits] using h
theorem ints_blk {w : World} {g : Nat} {cs : Array Value} {e : TypeId} {f : Nat × Nat} (xs : List Int) (n cap : Nat) (h : w.heap[g]? = some (.cells cs e f)) (hn : xs.length = n) (hm : n ≤ maxLen)
    (hb : ∀ x ∈ xs, -9223372036854775808 ≤ x ∧ x ≤ 9223372036854775807) (hc : cs.toList.take n = xs.map (Value.int .i64)) : Ints w (.slice (some ⟨g, 0, none⟩) n cap) xs := by
  subst hn
  refine ⟨_, cap, rfl, hm, hb, .inr ⟨g, 0, rfl, fun i hi => ?_⟩⟩
  simp only [World.cell?, h, Nat.zero_add]
  have h1 : (cs.toList.take xs.length)[i]? = (xs.map (Value.int .i64))[i]? := by rw [hc]
  rw [List.getElem?_take, if_pos hi] at h1
  simp only [Array.getElem?_toList] at h1
  simp only [Option.isSome_none, Bool.false_eq_true, if_false]
  rw [h1]
  simp [hi]

/-- w' is w after some draws. -/
def Drew (w w' : World) : Prop := ∃ n, w' = w.drewN n
theorem Drew.refl (w : World) : Drew w w := ⟨0, rfl⟩
theorem Drew.trans {a b c : World} (h : Drew a b) (k : Drew b c) : Drew a c := by
  obtain ⟨n, rfl⟩ := h
  obtain ⟨m, rfl⟩ := k
  exact ⟨n + m, by simp⟩
theorem Drew.grown {w w' : World} (h : Drew w w') (row : Option Nat) : w.grownBy w' row := by
  obtain ⟨n, rfl⟩ := h
  exact grown_drewN w n row
theorem Drew.mk (w : World) (n : Nat) : Drew w (w.drewN n) := ⟨n, rfl⟩

/-- A contract of a callee that leaves the world alone, inside a quiet region. -/
theorem quiet_any {P : Program} {f : FuncId} {args : Array Value} {W : World} {v : Value} {Q : World → Prop}
    (h : Calls P f args W fun e w' => e = .returned v ∧ w' = W) (hq : Q W) : Calls P f args W fun e w'' => e = .returned v ∧ Q w'' :=
  h.mono fun _ _ ⟨he, hw⟩ => ⟨he, hw ▸ hq⟩
theorem drew_ex (w : World) (a n : Nat) : ∃ m, w.drewN (a + n) = w.drewN (a + m) := ⟨n, rfl⟩


theorem grown_then {a b c : World} {row row' : Option Nat} (h : a.grownBy b row) (k : b.grownBy c row') (hr : ∀ j, row' = some j → a.heap.size ≤ j ∨ row = some j) : a.grownBy c row :=
  ⟨k.os.trans h.os, k.tape.trans h.tape, k.output.trans h.output, Nat.le_trans h.size k.size,
    fun i hi hne => (k.block i (Nat.lt_of_lt_of_le hi h.size) (by
      intro e
      rcases hr i e.symm with h1 | h1
      · omega
      · exact hne h1.symm)).trans (h.block i hi hne)⟩


theorem heap_new {w : World} {g : Nat} (o : Obj) (h : g = w.heap.size) : (w.alloc o).heap[g]? = some o := by subst h; exact heap_alloc_new w o
theorem heap_old {w : World} {g : Nat} {x : Obj} (o : Obj) (h : w.heap[g]? = some x) : (w.alloc o).heap[g]? = some x := by
  rw [Below.heap_alloc _ _ _ (Array.getElem?_eq_some_iff.1 h).1]; exact h


theorem cell_new {w : World} {g : Nat} {v : Value} {e : TypeId} (h : g = w.heap.size) : (w.alloc (.cells #[v] e)).cell? ⟨g, 0, none⟩ = some v := by subst h; simp
theorem cell_new_drew {w : World} {g : Nat} {v : Value} {e : TypeId} (h : g = w.heap.size) : (w.alloc (.cells #[v] e)).drew.cell? ⟨g, 0, none⟩ = some v := cell_new h
theorem grown_drew (w : World) (row : Option Nat) : w.grownBy w.drew row := ⟨rfl, rfl, rfl, Nat.le_refl _, fun _ _ _ => rfl⟩

theorem zip_bd (f : Int → Int → Int) (P Q R : Int → Prop) (hf : ∀ x y, P x → Q y → R (f x y)) : ∀ xs ys : List Int, (∀ x ∈ xs, P x) → (∀ y ∈ ys, Q y) → ∀ z ∈ List.zipWith f xs ys, R z
  | [], _, _, _ => by simp
  | _ :: _, [], _, _ => by simp
  | x :: xs, y :: ys, h, h' => by
    intro z hz
    simp only [List.zipWith_cons_cons, List.mem_cons] at hz
    rcases hz with rfl | hz
    · exact hf _ _ (h x (by simp)) (h' y (by simp))
    · exact zip_bd f P Q R hf xs ys (fun a ha => h a (by simp [ha])) (fun a ha => h' a (by simp [ha])) z hz


theorem set_take (zs l : List Int) (k : Nat) (hz : zs.length = l.length) (h : k < l.length) (ht : zs.take k = l.take k) : (zs.set k (l[k]?.getD 0)).take (k + 1) = l.take (k + 1) := by
  rw [take_snoc' l k h, take_snoc' _ k (by simp; omega), List.take_set_of_le (Nat.le_refl _), ht]
  simp [hz, h]

theorem zip_at (f : Int → Int → Int) : ∀ (xs ys : List Int) (k : Nat), k < xs.length → k < ys.length → (List.zipWith f xs ys)[k]?.getD 0 = f (xs[k]?.getD 0) (ys[k]?.getD 0)
  | [], _, _, h, _ => by simp at h
  | _ :: _, [], _, _, h => by simp at h
  | x :: xs, y :: ys, 0, _, _ => by simp
  | x :: xs, y :: ys, k + 1, h, h' => by simpa using zip_at f xs ys k (by simpa using h) (by simpa using h')

theorem mem_at {P : Int → Prop} {xs : List Int} (h : ∀ x ∈ xs, P x) {k : Nat} (hk : k < xs.length) : P (xs[k]?.getD 0) := by
  have := h (xs[k]) (List.getElem_mem hk)
  simpa [hk] using this

theorem mem_snoc {P : Int → Prop} {xs : List Int} {y : Int} (h : ∀ x ∈ xs, P x) (hy : P y) : ∀ x ∈ xs ++ [y], P x := by
  intro x hx
  rcases List.mem_append.1 hx with hx | hx
  · exact h x hx
  · rw [List.mem_singleton.1 hx]; exact hy

end Go.Proofs.Ytoaoheblaidhmaa

namespace Go.Proofs.Ytoaoheblaidhmaa
open Go.RowKit
set_option linter.unusedVariables false

def orderI (a b : Int) : Int := if a < b then -1 else if b < a then 1 else 0
def lexI : List Int → List Int → Int
  | [], [] => 0
  | [], _ :: _ => -1
  | _ :: _, [] => 1
  | x :: xs, y :: ys => if x < y then -1 else if y < x then 1 else lexI xs ys
def compareI (a b : List Int) : Int := if a.length < b.length then -1 else if b.length < a.length then 1 else lexI a b

theorem lexI_take : ∀ (a b : List Int) (k : Nat), k ≤ a.length → k ≤ b.length → lexI (a.take k) (b.take k) = 0 → lexI a b = lexI (a.drop k) (b.drop k)
  | _, _, 0, _, _, _ => by simp
  | [], _, k + 1, h, _, _ => by simp at h
  | _ :: _, [], k + 1, _, h, _ => by simp at h
  | x :: xs, y :: ys, k + 1, h, h', e => by
    simp only [List.take_succ_cons, lexI, List.drop_succ_cons] at e ⊢
    split at e
    · simp at e
    · rename_i h1
      split at e
      · simp at e
      · rename_i h2
        rw [if_neg h1, if_neg h2]
        exact lexI_take xs ys k (by simpa using h) (by simpa using h') e

theorem lexI_snoc : ∀ (a b : List Int) (k : Nat), k < a.length → k < b.length → lexI (a.take k) (b.take k) = 0 → lexI (a.take (k + 1)) (b.take (k + 1)) = orderI (a[k]?.getD 0) (b[k]?.getD 0)
  | [], _, k, h, _, _ => by simp at h
  | _ :: _, [], k, _, h, _ => by simp at h
  | x :: xs, y :: ys, 0, _, _, _ => by simp [lexI, orderI]
  | x :: xs, y :: ys, k + 1, h, h', e => by
    simp only [List.take_succ_cons, lexI] at e ⊢
    split at e
    · simp at e
    · rename_i h1
      split at e
      · simp at e
      · rename_i h2
        rw [if_neg h1, if_neg h2]
        simpa using lexI_snoc xs ys k (by simpa using h) (by simpa using h') e

theorem lexI_at (a b : List Int) (k : Nat) (ha : k < a.length) (hb : k < b.length) (h : lexI (a.take k) (b.take k) = 0) (hne : orderI (a[k]?.getD 0) (b[k]?.getD 0) ≠ 0) :
    lexI a b = orderI (a[k]?.getD 0) (b[k]?.getD 0) := by
  rw [lexI_take a b k (by omega) (by omega) h]
  rw [List.drop_eq_getElem_cons ha, List.drop_eq_getElem_cons hb]
  simp only [List.getElem?_eq_getElem ha, List.getElem?_eq_getElem hb, Option.getD_some] at hne ⊢
  unfold lexI
  unfold orderI at hne ⊢
  split
  · rfl
  · split
    · rfl
    · simp_all

theorem orderI_zero {x y : Int} : orderI x y = 0 ↔ x = y := by
  unfold orderI; split
  · omega
  · split <;> omega

theorem lexI_zero : ∀ a b : List Int, lexI a b = 0 ↔ a = b
  | [], [] => by simp [lexI]
  | [], _ :: _ => by simp [lexI]
  | _ :: _, [] => by simp [lexI]
  | x :: xs, y :: ys => by
    unfold lexI
    split
    · simp; omega
    · split
      · simp; omega
      · rw [lexI_zero xs ys]; simp; omega

theorem compareI_zero (a b : List Int) : compareI a b = 0 ↔ a = b := by
  unfold compareI
  split
  · simp; intro h; subst h; omega
  · split
    · simp; intro h; subst h; omega
    · exact lexI_zero a b

end Go.Proofs.Ytoaoheblaidhmaa

namespace Go.Proofs.Ytoaoheblaidhmaa
open Go.RowKit
set_option linter.unusedVariables false

def letterB (x : Int) : Bool := decide (0 ≤ x) && decide (x < 16)
def validW (xs : List Int) : Bool := decide (xs.length ≤ 12) && xs.all letterB
/-- The least places of a in b, from an index on. -/
def placesL : List Int → List Int → Nat → Option (List Int)
  | [], _, _ => some []
  | _ :: _, [], _ => none
  | x :: xs, y :: ys, i => if x = y then (placesL xs ys (i + 1)).map (fun l => (i : Int) :: l) else placesL (x :: xs) ys (i + 1)
def embedR (a b : List Int) : Option (List Int) := if validW a && validW b then placesL a b 0 else none
def leqW (a b : List Int) : Bool := (embedR a b).isSome
/-- Are the places ascending indices of b behind 'before', with the letters of a? -/
def provesL (b : List Int) : List Int → List Int → Int → Bool
  | [], [], _ => true
  | x :: xs, p :: ps, before => decide (before < p) && decide (p < b.length) && (b[p.toNat]?.getD 0 == x) && provesL b xs ps p
  | _, _, _ => false
def provesW (a b ps : List Int) : Bool := validW a && validW b && provesL b a ps (-1)

theorem validW_false {xs : List Int} {k : Nat} (h : (xs.take k).all letterB = false) : validW xs = false := by
  rw [validW, all_of_false _ _ _ h, Bool.and_false]
theorem validW_le {xs : List Int} (h : validW xs = true) : xs.length ≤ 12 ∧ ∀ x ∈ xs, 0 ≤ x ∧ x < 16 := by
  unfold validW at h
  rw [Bool.and_eq_true, List.all_eq_true] at h
  refine ⟨by simpa using h.1, fun x hx => ?_⟩
  have := h.2 x hx
  unfold letterB at this
  simpa using this

/-- The places that are found in the first letters of b: a fold. -/
def place1 (a acc : List Int) (i : Nat) (y : Int) : List Int := if acc.length < a.length ∧ a[acc.length]?.getD 0 = y then acc ++ [(i : Int)] else acc
def greedy (a : List Int) : List Int → Nat → List Int → List Int
  | [], _, acc => acc
  | y :: ys, i, acc => greedy a ys (i + 1) (place1 a acc i y)
theorem greedy_snoc (a : List Int) : ∀ (l : List Int) (y : Int) (i : Nat) (acc : List Int), greedy a (l ++ [y]) i acc = place1 a (greedy a l i acc) (i + l.length) y
  | [], y, i, acc => rfl
  | z :: l, y, i, acc => by
    simp only [List.cons_append, greedy]
    rw [greedy_snoc a l y (i + 1), List.length_cons, show i + 1 + l.length = i + (l.length + 1) by omega]
theorem greedy_take (a b : List Int) (k : Nat) (h : k < b.length) : greedy a (b.take (k + 1)) 0 [] = place1 a (greedy a (b.take k) 0 []) k (b[k]?.getD 0) := by
  rw [take_snoc' b k h, greedy_snoc, List.length_take, Nat.min_eq_left (Nat.le_of_lt h), Nat.zero_add]
theorem greedy_len (a : List Int) : ∀ (l : List Int) (i : Nat) (acc : List Int), acc.length ≤ a.length → (greedy a l i acc).length ≤ a.length
  | [], i, acc, h => by simpa [greedy] using h
  | z :: l, i, acc, h => by
    unfold greedy
    apply greedy_len
    unfold place1
    split
    · simp; omega
    · exact h
theorem greedy_places : ∀ (l a : List Int) (i : Nat) (acc : List Int), acc.length ≤ a.length →
    greedy a l i acc = (match placesL (a.drop acc.length) l i with | some ps => acc ++ ps | none => greedy a l i acc) ∧
    (placesL (a.drop acc.length) l i).isSome = decide ((greedy a l i acc).length = a.length)
  | [], a, i, acc, h => by
    unfold greedy
    by_cases he : acc.length = a.length
    · rw [he, List.drop_length]; simp [placesL]
    · rw [List.drop_eq_getElem_cons (by omega)]; simp [placesL, he]
  | y :: l, a, i, acc, h => by
    unfold greedy place1
    by_cases he : acc.length = a.length
    · rw [if_neg (by omega)]
      have ih := greedy_places l a (i + 1) acc h
      rw [he, List.drop_length] at ih ⊢
      simp only [placesL, List.append_nil] at ih ⊢
      exact ⟨ih.1, ih.2⟩
    · have hlt : acc.length < a.length := by omega
      rw [List.drop_eq_getElem_cons hlt]
      have hg : a[acc.length]?.getD 0 = a[acc.length] := by simp [hlt]
      by_cases hy : a[acc.length] = y
      · rw [if_pos ⟨hlt, by rw [hg]; exact hy⟩]
        have ih := greedy_places l a (i + 1) (acc ++ [(i : Int)]) (by simp; omega)
        rw [show (acc ++ [(i : Int)]).length = acc.length + 1 by simp] at ih
        unfold placesL
        rw [if_pos hy]
        cases hp : placesL (a.drop (acc.length + 1)) l (i + 1) with
        | none => rw [hp] at ih; exact ⟨by simp, by simpa using ih.2⟩
        | some ps => rw [hp] at ih; exact ⟨by simpa using ih.1, by simpa using ih.2⟩
      · rw [if_neg (by rw [hg]; omega)]
        have ih := greedy_places l a (i + 1) acc h
        rw [List.drop_eq_getElem_cons hlt] at ih
        unfold placesL
        rw [if_neg hy]
        exact ih
theorem greedy_some {a b : List Int} (h : (greedy a b 0 []).length = a.length) : placesL a b 0 = some (greedy a b 0 []) := by
  have := greedy_places b a 0 [] (Nat.zero_le _)
  simp only [List.length_nil, List.drop_zero, h, decide_true, List.nil_append] at this
  cases hp : placesL a b 0 with
  | none => rw [hp] at this; simp at this
  | some ps => rw [hp] at this; rw [this.1]
theorem greedy_none {a b : List Int} (h : (greedy a b 0 []).length ≠ a.length) : placesL a b 0 = none := by
  have := (greedy_places b a 0 [] (Nat.zero_le _)).2
  simpa [h] using this

/-- The last of some places, or what was before. -/
def lastP : List Int → Int → Int
  | [], before => before
  | p :: ps, _ => lastP ps p
theorem lastP_snoc : ∀ (ps : List Int) (p before : Int), lastP (ps ++ [p]) before = p
  | [], _, _ => rfl
  | _ :: ps, p, _ => lastP_snoc ps p _
def okP (b : List Int) (x p before : Int) : Bool := decide (before < p) && decide (p < b.length) && (b[p.toNat]?.getD 0 == x)
theorem provesL_cons (b : List Int) (x p : Int) (xs ps : List Int) (before : Int) : provesL b (x :: xs) (p :: ps) before = (okP b x p before && provesL b xs ps p) := rfl
theorem provesL_snoc (b : List Int) : ∀ (xs ps : List Int) (x p before : Int), xs.length = ps.length → provesL b (xs ++ [x]) (ps ++ [p]) before = (provesL b xs ps before && okP b x p (lastP ps before))
  | [], [], x, p, before, _ => by
    show (okP b x p before && true) = (true && okP b x p before)
    rw [Bool.and_true, Bool.true_and]
  | [], _ :: _, _, _, _, h => by simp at h
  | _ :: _, [], _, _, _, h => by simp at h
  | y :: xs, q :: ps, x, p, before, h => by
    simp only [List.cons_append, provesL_cons, lastP]
    rw [provesL_snoc b xs ps x p q (by simpa using h), Bool.and_assoc]
theorem provesL_split (b a ps : List Int) (k : Nat) (h : a.length = ps.length) (hk : k < a.length) :
    provesL b (a.take (k + 1)) (ps.take (k + 1)) (-1) = (provesL b (a.take k) (ps.take k) (-1) && okP b (a[k]?.getD 0) (ps[k]?.getD 0) (lastP (ps.take k) (-1))) := by
  rw [take_snoc' a k hk, take_snoc' ps k (by omega), provesL_snoc _ _ _ _ _ _ (by simp; omega)]
theorem provesL_false (b : List Int) : ∀ (a ps : List Int) (k : Nat) (before : Int), provesL b (a.take k) (ps.take k) before = false → a.length = ps.length → provesL b a ps before = false
  | [], [], k, before, h, _ => by simp [provesL] at h
  | [], _ :: _, _, _, _, h => by simp at h
  | _ :: _, [], _, _, _, h => by simp at h
  | x :: xs, p :: ps, 0, before, h, _ => by simp [provesL] at h
  | x :: xs, p :: ps, k + 1, before, h, hl => by
    simp only [List.take_succ_cons, provesL_cons, Bool.and_eq_false_iff] at h ⊢
    rcases h with h | h
    · exact .inl h
    · exact .inr (provesL_false b xs ps k p h (by simpa using hl))
theorem provesL_len (b : List Int) : ∀ (a ps : List Int) (before : Int), provesL b a ps before = true → a.length = ps.length
  | [], [], _, _ => rfl
  | [], _ :: _, _, h => by simp [provesL] at h
  | _ :: _, [], _, h => by simp [provesL] at h
  | x :: xs, p :: ps, before, h => by
    simp only [provesL_cons, Bool.and_eq_true] at h
    have := provesL_len b xs ps p h.2
    simp [this]

end Go.Proofs.Ytoaoheblaidhmaa

namespace Go.Proofs.Ytoaoheblaidhmaa
open Go.RowKit
set_option linter.unusedVariables false

theorem nan_any (x : Int) (w : World) :
    Calls Try.prog 85 #[.int .i64 x] w fun e w' => e = .returned (.bool false) ∧ w' = w := by
  go_enter Try.func85, Try.ntmps85
  go_wp2
  go_ret
  exact ⟨by simp, rfl⟩
theorem cmp_any (x y : Int) (w : World) :
    Calls Try.prog 71 #[.int .i64 x, .int .i64 y] w fun e w' => e = .returned (.int .i64 (orderI x y)) ∧ w' = w := by
  by_cases h1 : x < y
  · go_enter Try.func71, Try.ntmps71
    go_wp2_with (go_at_call 85; refine (nan_any _ _).mono ?_; rintro e w' ⟨rfl, rfl⟩)
    go_ret
    exact ⟨ret_int (by unfold orderI; rw [if_pos (by omega)]), rfl⟩
  · by_cases h2 : y < x
    · go_enter Try.func71, Try.ntmps71
      go_wp2_with (go_at_call 85; refine (nan_any _ _).mono ?_; rintro e w' ⟨rfl, rfl⟩)
      go_ret
      exact ⟨ret_int (by unfold orderI; rw [if_neg (by omega), if_pos (by omega)]), rfl⟩
    · go_enter Try.func71, Try.ntmps71
      go_wp2_with (go_at_call 85; refine (nan_any _ _).mono ?_; rintro e w' ⟨rfl, rfl⟩)
      go_ret
      exact ⟨ret_int (by unfold orderI; rw [if_neg (by omega), if_neg (by omega)]), rfl⟩

theorem slcmp_any (va vb : Value) (xs ys : List Int) (w : World) (h : Ints w va xs) (h' : Ints w vb ys) (hl' : xs.length = ys.length) :
    Calls Try.prog 54 #[va, vb] w fun e w' => e = .returned (.int .i64 (lexI xs ys)) ∧ w' = w := by
  obtain ⟨a, cap, rfl, hl, hb, hc⟩ := h
  obtain ⟨a', cap', rfl, hl1, hb', hc'⟩ := h'
  unfold maxLen at hl hl1
  clear hb hb'
  have HE := Lib.hid hl'
  have hle : xs.length ≤ ys.length := by omega
  have hge : ys.length ≤ xs.length := by omega
  clear hl'
  go_enter Try.func54, Try.ntmps54
  go_wp2
  go_loop [11] (fun i => ∃ k : Nat, k ≤ xs.length ∧ i = .int .i64 k ∧ lexI (xs.take k) (ys.take k) = 0) (fun i => xs.length - (intOf i).toNat)
  case atStart => exact ⟨0, Nat.zero_le _, rfl, by simp [lexI]⟩
  case round =>
    obtain ⟨k, hk, rfl, ha⟩ := hrel
    have HA := Lib.hid ha
    clear ha
    by_cases hlt : k < xs.length
    · have hlt' : k < ys.length := by omega
      have HS := Lib.hid (lexI_snoc xs ys k hlt hlt' HA.out)
      have HT := Lib.hid (lexI_at xs ys k hlt hlt' HA.out)
      obtain ⟨b, off, rfl, hx⟩ := Ints.at hc hlt
      obtain ⟨b', off', rfl, hx'⟩ := Ints.at hc' hlt'
      have h1 : (k : Int) < (xs.length : Int) := by omega
      have h2 : (k : Int) < (ys.length : Int) := by omega
      clear hc hc'
      generalize xs[k]?.getD 0 = x at *
      generalize ys[k]?.getD 0 = y at *
      by_cases hp : orderI x y = 0
      · have HP := Lib.hid hp
        have h3 : (orderI x y != 0) = false := by simp [hp]
        clear hp
        go_wp2_with (go_at_call 71; refine (cmp_any _ _ _).mono ?_; rintro e w' ⟨rfl, rfl⟩)
        go_round
        case rel => exact ⟨k + 1, by omega, by go_num, by rw [HS.out, HP.out]⟩
        case measure => simp [intOf]; omega
      · have HP := Lib.hid hp
        have h3 : (orderI x y != 0) = true := by simp [hp]
        clear hp
        go_wp2_with (go_at_call 71; refine (cmp_any _ _ _).mono ?_; rintro e w' ⟨rfl, rfl⟩)
        go_ret
        exact ⟨ret_int (HT.out HP.out).symm, rfl⟩
    · clear hc hc'
      go_wp2
      go_ret
      exact ⟨ret_int (by have ha := HA.out; rw [List.take_of_length_le (by omega), List.take_of_length_le (by have := HE.out; omega)] at ha; rw [ha]), rfl⟩

theorem equal_any (va vb : Value) (xs ys : List Int) (w : World) (h : Ints w va xs) (h' : Ints w vb ys) :
    Calls Try.prog 44 #[va, vb] w fun e w' => e = .returned (.bool (xs == ys)) ∧ Drew w w' := by
  obtain ⟨a, cap, rfl, hl, hb, hc⟩ := h
  obtain ⟨a', cap', rfl, hl1, hb', hc'⟩ := h'
  unfold maxLen at hl hl1
  clear hb hb'
  by_cases h3 : xs.length = ys.length
  · have H3 := Lib.hid h3
    have h4 : ((xs.length : Int) != (ys.length : Int)) = false := by simp [h3]
    have hle : xs.length ≤ ys.length := by omega
    clear h3
    go_enter Try.func44, Try.ntmps44
    go_wp2_with fail
    go_loopw [13] (fun i wr => ∃ k n : Nat, k ≤ xs.length ∧ i = .int .i64 k ∧ Hid (xs.take k = ys.take k) ∧ wr = w.drewN n) (fun i _ => xs.length - (intOf i).toNat)
    case atStart => exact ⟨0, 0, Nat.zero_le _, rfl, Lib.hid (by simp), rfl⟩
    case round =>
      obtain ⟨k, n, hk, rfl, HA, rfl⟩ := hrel
      by_cases hlt : k < xs.length
      · have hlt' : k < ys.length := by omega
        have HX := Lib.hid (take_snoc' xs k hlt)
        have HY := Lib.hid (take_snoc' ys k hlt')
        obtain ⟨b, off, rfl, hx⟩ := Ints.at hc hlt
        obtain ⟨b', off', rfl, hx'⟩ := Ints.at hc' hlt'
        have h1 : (k : Int) < (xs.length : Int) := by omega
        have h2 : (k : Int) < (ys.length : Int) := by omega
        have HN : Hid (xs[k]?.getD 0 ≠ ys[k]?.getD 0 → (xs == ys) = false) := Lib.hid (by intro hne; rw [beq_eq_false_iff_ne]; intro e; exact hne (by rw [e]))
        clear hc hc'
        generalize xs[k]?.getD 0 = x at *
        generalize ys[k]?.getD 0 = y at *
        by_cases hp : x = y
        · have h3 : (x != y) = false := by simp [hp]
          have HP := Lib.hid hp
          clear hp
          go_wp2_with fail
          go_quiet (fail)
          go_wp2_with fail
          go_roundw
          case rel => exact ⟨k + 1, _, by omega, by go_num, Lib.hid (by rw [HX.out, HY.out, HA.out, HP.out]), rfl⟩
          case measure => simp [intOf]; omega
        · have h3 : (x != y) = true := by simpa using hp
          have HP := Lib.hid hp
          clear hp
          go_wp2_with fail
          go_quiet (fail)
          go_wp2_with fail
          go_ret
          exact ⟨ret_bool (HN.out HP.out).symm, (Drew.mk _ _).trans (Drew.mk _ _)⟩
      · clear hc hc'
        go_wp2_with fail
        go_ret
        exact ⟨ret_bool (by have h := HA.out; have h3 := H3.out; rw [List.take_of_length_le (by omega), List.take_of_length_le (by omega)] at h; rw [h]; simp), Drew.mk _ _⟩
  · have h4 : ((xs.length : Int) != (ys.length : Int)) = true := by simp; omega
    have H3 := Lib.hid h3
    clear h3 hc hc'
    go_enter Try.func44, Try.ntmps44
    go_wp2_with fail
    go_ret
    exact ⟨ret_bool (by symm; rw [beq_eq_false_iff_ne]; intro e; exact H3.out (by rw [e])), Drew.refl _⟩

theorem lexI_neg : ∀ a b : List Int, lexI b a = -lexI a b
  | [], [] => by simp [lexI]
  | [], _ :: _ => by simp [lexI]
  | _ :: _, [] => by simp [lexI]
  | x :: xs, y :: ys => by
    have := lexI_neg xs ys
    unfold lexI
    split <;> split <;> first | omega | (split <;> omega) | skip
theorem lexI_range : ∀ a b : List Int, lexI a b = -1 ∨ lexI a b = 0 ∨ lexI a b = 1
  | [], [] => by simp [lexI]
  | [], _ :: _ => by simp [lexI]
  | _ :: _, [] => by simp [lexI]
  | x :: xs, y :: ys => by
    have := lexI_range xs ys
    unfold lexI
    split
    · omega
    · split <;> omega
theorem compareI_neg (a b : List Int) : compareI b a = -compareI a b := by
  have := lexI_neg a b
  unfold compareI
  split <;> split <;> first | omega | (split <;> omega) | skip
theorem lexI_trans : ∀ a b c : List Int, a.length = b.length → b.length = c.length → lexI a b ≤ 0 → lexI b c ≤ 0 → lexI a c ≤ 0
  | [], [], [], _, _, _, _ => by simp [lexI]
  | x :: xs, y :: ys, z :: zs, h, h', h1, h2 => by
    have := lexI_trans xs ys zs (by simpa using h) (by simpa using h')
    unfold lexI at h1 h2 ⊢
    split at h1 <;> split at h2 <;> split <;> first | omega | (split at h1 <;> first | omega | (split at h2 <;> first | omega | (split <;> first | omega | (apply this <;> omega)))) | (split at h2 <;> first | omega | (split <;> omega)) | (split at h1 <;> first | omega | (split <;> omega))
theorem cmp_trans (a b c : List Int) (h : compareI a b ≤ 0) : compareI b c ≤ 0 → compareI a c ≤ 0 := by
  intro h'
  have := lexI_trans a b c
  unfold compareI at h h' ⊢
  split
  · omega
  · split
    · split at h <;> split at h' <;> first | omega | (split at h <;> first | omega | (split at h' <;> omega)) | (split at h' <;> omega)
    · apply this
      all_goals (split at h <;> split at h' <;> first | omega | (split at h <;> first | omega | (split at h' <;> omega)) | (split at h' <;> omega))

end Go.Proofs.Ytoaoheblaidhmaa
