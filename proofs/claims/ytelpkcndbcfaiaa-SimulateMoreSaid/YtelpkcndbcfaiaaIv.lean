/- Breadth first: the words that one system accepts and another one does not. -/
import Derived.Test.YtelpkcndbcfaiaaIs
namespace Go.Proofs.Ytelpkcndbcfaiaa
open Go.RowKit
set_option linter.unusedVariables false
/-- Letter by letter. -/
def lexlt : List Int → List Int → Prop
  | x :: u, y :: v => x < y ∨ (x = y ∧ lexlt u v)
  | _, _ => False
theorem lexlt_irrefl : ∀ u : List Int, ¬ lexlt u u
  | [], h => h
  | x :: u, h => by
    rcases h with h | ⟨-, h⟩
    · omega
    · exact lexlt_irrefl u h
theorem lexlt_trans : ∀ {u v z : List Int}, lexlt u v → lexlt v z → lexlt u z
  | [], v, z, h, _ => by cases v <;> exact h.elim
  | x :: u, [], z, h, _ => h.elim
  | x :: u, y :: v, [], _, h => h.elim
  | x :: u, y :: v, t :: z, h1, h2 => by
    rcases h1 with h1 | ⟨rfl, h1⟩ <;> rcases h2 with h2 | ⟨rfl, h2⟩
    · exact .inl (by omega)
    · exact .inl h1
    · exact .inl h2
    · exact .inr ⟨rfl, lexlt_trans h1 h2⟩
theorem lexlt_app : ∀ {u v : List Int} (a b : List Int), lexlt u v → lexlt (u ++ a) (v ++ b)
  | [], v, a, b, h => by cases v <;> exact h.elim
  | x :: u, [], a, b, h => h.elim
  | x :: u, y :: v, a, b, h => by
    rcases h with h | ⟨rfl, h⟩
    · exact .inl h
    · exact .inr ⟨rfl, lexlt_app a b h⟩
theorem lexlt_snoc {x y : Int} (h : x < y) : ∀ u : List Int, lexlt (u ++ [x]) (u ++ [y])
  | [] => .inl h
  | z :: u => .inr ⟨rfl, lexlt_snoc h u⟩
theorem lexlt_inv {x y : Int} : ∀ {u v : List Int}, u.length = v.length → lexlt (u ++ [x]) (v ++ [y]) → lexlt u v ∨ (u = v ∧ x < y)
  | [], [], _, h => by
    rcases h with h | ⟨-, h⟩
    · exact .inr ⟨rfl, h⟩
    · exact h.elim
  | [], _ :: _, hl, _ => by simp at hl
  | _ :: _, [], hl, _ => by simp at hl
  | a :: u, b :: v, hl, h => by
    rcases h with h | ⟨rfl, h⟩
    · exact .inl (.inl h)
    · rcases lexlt_inv (by simpa using hl) h with h3 | ⟨rfl, h3⟩
      · exact .inl (.inr ⟨rfl, h3⟩)
      · exact .inr ⟨rfl, h3⟩
theorem lexlt_tot : ∀ {u v : List Int}, u.length = v.length → lexlt u v ∨ u = v ∨ lexlt v u
  | [], [], _ => .inr (.inl rfl)
  | [], _ :: _, hl => by simp at hl
  | _ :: _, [], hl => by simp at hl
  | a :: u, b :: v, hl => by
    by_cases h1 : a < b
    · exact .inl (.inl h1)
    · by_cases h2 : b < a
      · exact .inr (.inr (.inl h2))
      · obtain rfl : a = b := by omega
        rcases lexlt_tot (u := u) (v := v) (by simpa using hl) with h | rfl | h
        · exact .inl (.inr ⟨rfl, h⟩)
        · exact .inr (.inl rfl)
        · exact .inr (.inr (.inr ⟨rfl, h⟩))
/-- The shorter word first. -/
def wlt (u v : List Int) : Prop := u.length < v.length ∨ (u.length = v.length ∧ lexlt u v)
def wle (u v : List Int) : Prop := u = v ∨ wlt u v
theorem wlt_irrefl (u : List Int) : ¬ wlt u u := by
  rintro (h | ⟨-, h⟩)
  · omega
  · exact lexlt_irrefl u h
theorem wlt_trans {u v z : List Int} (h1 : wlt u v) (h2 : wlt v z) : wlt u z := by
  rcases h1 with h1 | ⟨e1, h1⟩ <;> rcases h2 with h2 | ⟨e2, h2⟩
  · exact .inl (by omega)
  · exact .inl (by omega)
  · exact .inl (by omega)
  · exact .inr ⟨by omega, lexlt_trans h1 h2⟩
theorem wle_lt {u v z : List Int} (h1 : wle u v) (h2 : wlt v z) : wlt u z := by
  rcases h1 with rfl | h1
  · exact h2
  · exact wlt_trans h1 h2
theorem wlt_tot (u v : List Int) : wlt u v ∨ u = v ∨ wlt v u := by
  by_cases h1 : u.length < v.length
  · exact .inl (.inl h1)
  · by_cases h2 : v.length < u.length
    · exact .inr (.inr (.inl h2))
    · have e : u.length = v.length := by omega
      rcases lexlt_tot e with h | h | h
      · exact .inl (.inr ⟨e, h⟩)
      · exact .inr (.inl h)
      · exact .inr (.inr (.inr ⟨e.symm, h⟩))
theorem wlt_snoc {u v : List Int} (x y : Int) (h : wlt u v) : wlt (u ++ [x]) (v ++ [y]) := by
  rcases h with h | ⟨e, h⟩
  · exact .inl (by simp; omega)
  · exact .inr ⟨by simp; omega, lexlt_app _ _ h⟩
theorem wlt_last {u : List Int} {x y : Int} (h : x < y) : wlt (u ++ [x]) (u ++ [y]) := .inr ⟨by simp, lexlt_snoc h u⟩
theorem wle_snoc {u v : List Int} (x : Int) (h : wle u v) : wle (u ++ [x]) (v ++ [x]) := by
  rcases h with rfl | h
  · exact .inl rfl
  · exact .inr (wlt_snoc x x h)
theorem wle_trans {u v z : List Int} (h1 : wle u v) (h2 : wle v z) : wle u z := by
  rcases h2 with rfl | h2
  · exact h1
  · exact .inr (wle_lt h1 h2)
theorem wlt_inv {u v : List Int} {x y : Int} (h : wlt (u ++ [x]) (v ++ [y])) : wlt u v ∨ (u = v ∧ x < y) := by
  rcases h with h | ⟨e, h⟩
  · exact .inl (.inl (by simpa using h))
  · have e1 : u.length = v.length := by simpa using e
    rcases lexlt_inv e1 h with h | h
    · exact .inl (.inr ⟨e1, h⟩)
    · exact .inr h
theorem wlt_nil {u : List Int} (x : Int) : wlt [] (u ++ [x]) := .inl (by simp)
theorem behN_zero (a : Sys) (l : Int) : behN a 0 l = 0 := by
  refine Nat.eq_of_testBit_eq (fun j => ?_)
  cases h : (behN a 0 l).testBit j with
  | false => simp
  | true =>
    obtain ⟨x, -, h1, -⟩ := beh_bit.1 h
    simp at h1
theorem ne_bit {n : Nat} (h : n ≠ 0) : ∃ j, n.testBit j = true := by
  by_cases hh : ∃ j, n.testBit j = true
  · exact hh
  · refine absurd (Nat.eq_of_testBit_eq (fun j => ?_)) h
    cases e : n.testBit j with
    | false => simp
    | true => exact absurd ⟨j, e⟩ hh
theorem lab_beh {a : Sys} {s : Nat} {L : List Int} (h : IsLab a s L) {y : Int} : y ∈ L ↔ behN a s y ≠ 0 := by
  rw [h.2]
  constructor
  · rintro ⟨j, hj, h1, p, hp, e⟩ h0
    have : (behN a s y).testBit p.2.toNat = true := beh_bit.2 ⟨j, hj, h1, p, hp, e, rfl⟩
    rw [h0] at this
    simp at this
  · intro h0
    obtain ⟨j, hj⟩ := ne_bit h0
    obtain ⟨x, hx, h1, p, hp, e, -⟩ := beh_bit.1 hj
    exact ⟨x, hx, h1, p, hp, e⟩
/-- A word that has been met, and the states behind it. -/
structure Nd where
  w : List Int
  a : Nat
  b : Nat
def pairs (E : List Nd) : List (Nat × Nat) := E.map (fun q => (q.a, q.b))
/-- The search: of the words in E the first p are done; of the next one the labels 'done'. -/
structure Bfs (A B : Sys) (E : List Nd) (p : Nat) (done : List Int) : Prop where
  root : E[0]? = some ⟨[], 1, 1⟩
  ok : ∀ q ∈ E, q.a = runN A 1 q.w ∧ q.b = runN B 1 q.w ∧ q.a ≠ 0 ∧ q.b ≠ 0
  nd : (pairs E).Nodup
  srt : E.Pairwise (fun q r => wlt q.w r.w)
  low : ∀ q ∈ E, q.w = [] ∨ (∃ i y r, i < p ∧ E[i]? = some r ∧ q.w = r.w ++ [y]) ∨ (∃ y r, y ∈ done ∧ E[p]? = some r ∧ q.w = r.w ++ [y])
  suc : ∀ i r y, E[i]? = some r → (i < p ∨ i = p ∧ y ∈ done) → behN A r.a y ≠ 0 → behN B r.b y ≠ 0 ∧ ∃ q ∈ E, q.a = behN A r.a y ∧ q.b = behN B r.b y ∧ wle q.w (r.w ++ [y])
theorem Bfs.start (A B : Sys) : Bfs A B [⟨[], 1, 1⟩] 0 [] where
  root := rfl
  ok q hq := by rw [List.mem_singleton.1 hq]; exact ⟨rfl, rfl, by decide, by decide⟩
  nd := by simp [pairs]
  srt := by simp
  low q hq := by rw [List.mem_singleton.1 hq]; exact .inl rfl
  suc i r y _ h := by simp at h
theorem Bfs.lt_of {A B : Sys} {E : List Nd} {p : Nat} {done : List Int} (h : Bfs A B E p done) {i j : Nat} {q r : Nd} (hi : E[i]? = some q) (hj : E[j]? = some r) (hij : i < j) : wlt q.w r.w := by
  obtain ⟨hi1, rfl⟩ := List.getElem?_eq_some_iff.1 hi
  obtain ⟨hj1, rfl⟩ := List.getElem?_eq_some_iff.1 hj
  exact List.pairwise_iff_getElem.1 h.srt i j hi1 hj1 hij
/-- All words met so far are below the one that is met next. -/
theorem Bfs.below {A B : Sys} {E : List Nd} {p : Nat} {done : List Int} (h : Bfs A B E p done) {r : Nd} (hr : E[p]? = some r) {y : Int} (hy : ∀ z ∈ done, z < y) {q : Nd} (hq : q ∈ E) : wlt q.w (r.w ++ [y]) := by
  rcases h.low q hq with e | ⟨i, z, s, hi, hs, e⟩ | ⟨z, s, hz, hs, e⟩
  · rw [e]; exact wlt_nil y
  · rw [e]; exact wlt_snoc z y (h.lt_of hs hr hi)
  · rw [hr] at hs
    cases hs
    rw [e]; exact wlt_last (hy z hz)
theorem Bfs.seen {A B : Sys} {E : List Nd} {p : Nat} {done : List Int} (h : Bfs A B E p done) {r : Nd} (hr : E[p]? = some r) {y : Int} (hy : ∀ z ∈ done, z < y) (hb : behN B r.b y ≠ 0) (hm : (behN A r.a y, behN B r.b y) ∈ pairs E) : Bfs A B E p (done ++ [y]) where
  root := h.root
  ok := h.ok
  nd := h.nd
  srt := h.srt
  low q hq := by
    rcases h.low q hq with e | e | ⟨z, s, hz, hs, e⟩
    · exact .inl e
    · exact .inr (.inl e)
    · exact .inr (.inr ⟨z, s, by simp [hz], hs, e⟩)
  suc i s z hs hi ha := by
    by_cases hz : i = p ∧ z = y
    · obtain ⟨rfl, rfl⟩ := hz
      rw [hr] at hs
      cases hs
      obtain ⟨q, hq, e⟩ := List.mem_map.1 hm
      simp only [Prod.mk.injEq] at e
      exact ⟨hb, q, hq, e.1, e.2, .inr (h.below hr hy hq)⟩
    · refine h.suc i s z hs ?_ ha
      rcases hi with hi | ⟨rfl, hi⟩
      · exact .inl hi
      · rcases List.mem_append.1 hi with hi | hi
        · exact .inr ⟨rfl, hi⟩
        · exact absurd ⟨rfl, List.mem_singleton.1 hi⟩ hz
theorem Bfs.more {A B : Sys} {E : List Nd} {p : Nat} {done : List Int} (h : Bfs A B E p done) {r : Nd} (hr : E[p]? = some r) {y : Int} (hy : ∀ z ∈ done, z < y) (ha : behN A r.a y ≠ 0) (hb : behN B r.b y ≠ 0) (hm : (behN A r.a y, behN B r.b y) ∉ pairs E) : Bfs A B (E ++ [⟨r.w ++ [y], behN A r.a y, behN B r.b y⟩]) p (done ++ [y]) where
  root := by
    have h0 := h.root
    have := (List.getElem?_eq_some_iff.1 h0).1
    rw [List.getElem?_append_left this]; exact h0
  ok q hq := by
    rcases List.mem_append.1 hq with hq | hq
    · exact h.ok q hq
    · rw [List.mem_singleton.1 hq]
      obtain ⟨e1, e2, -, -⟩ := h.ok r (List.mem_of_getElem? hr)
      exact ⟨by rw [runN_snoc, ← e1], by rw [runN_snoc, ← e2], ha, hb⟩
  nd := by
    unfold pairs at *
    rw [List.map_append, List.nodup_append]
    refine ⟨h.nd, by simp, fun x hx y hy e => ?_⟩
    have e2 : y = _ := List.mem_singleton.1 hy
    rw [e, e2] at hx
    exact hm hx
  srt := by
    rw [List.pairwise_append]
    refine ⟨h.srt, by simp, fun q hq s hs => ?_⟩
    rw [List.mem_singleton.1 hs]
    exact h.below hr hy hq
  low q hq := by
    have up : ∀ {i : Nat} {s : Nd}, E[i]? = some s → (E ++ [⟨r.w ++ [y], behN A r.a y, behN B r.b y⟩])[i]? = some s := fun {i s} hs => by
      rw [List.getElem?_append_left (List.getElem?_eq_some_iff.1 hs).1]; exact hs
    rcases List.mem_append.1 hq with hq | hq
    · rcases h.low q hq with e | ⟨i, z, s, hi, hs, e⟩ | ⟨z, s, hz, hs, e⟩
      · exact .inl e
      · exact .inr (.inl ⟨i, z, s, hi, up hs, e⟩)
      · exact .inr (.inr ⟨z, s, by simp [hz], up hs, e⟩)
    · rw [List.mem_singleton.1 hq]
      exact .inr (.inr ⟨y, r, by simp, up hr, rfl⟩)
  suc i s z hs hi hsa := by
    have hp := (List.getElem?_eq_some_iff.1 hr).1
    have hi2 : i < E.length := by
      rcases hi with hi | ⟨rfl, -⟩ <;> omega
    rw [List.getElem?_append_left hi2] at hs
    by_cases hz : i = p ∧ z = y
    · obtain ⟨rfl, rfl⟩ := hz
      rw [hr] at hs
      cases hs
      exact ⟨hb, _, List.mem_append_right _ (List.mem_singleton.2 rfl), rfl, rfl, .inl rfl⟩
    · obtain ⟨h1, q, hq, h2⟩ := h.suc i s z hs (by
        rcases hi with hi | ⟨rfl, hi⟩
        · exact .inl hi
        · rcases List.mem_append.1 hi with hi | hi
          · exact .inr ⟨rfl, hi⟩
          · exact absurd ⟨rfl, List.mem_singleton.1 hi⟩ hz) hsa
      exact ⟨h1, q, List.mem_append_left _ hq, h2⟩
theorem Bfs.next {A B : Sys} {E : List Nd} {p : Nat} {L : List Int} (h : Bfs A B E p L) {r : Nd} (hr : E[p]? = some r) (hL : IsLab A r.a L) : Bfs A B E (p + 1) [] where
  root := h.root
  ok := h.ok
  nd := h.nd
  srt := h.srt
  low q hq := by
    rcases h.low q hq with e | ⟨i, z, s, hi, hs, e⟩ | ⟨z, s, hz, hs, e⟩
    · exact .inl e
    · exact .inr (.inl ⟨i, z, s, by omega, hs, e⟩)
    · exact .inr (.inl ⟨p, z, s, by omega, hs, e⟩)
  suc i s z hs hi ha := by
    refine h.suc i s z hs ?_ ha
    by_cases e : i = p
    · subst e
      rw [hr] at hs
      cases hs
      exact .inr ⟨rfl, (lab_beh hL).2 ha⟩
    · rcases hi with hi | ⟨-, hi⟩
      · exact .inl (by omega)
      · simp at hi
/-- A word that the first system accepts, all of whose prefixes lead to nodes that are done. -/
theorem Bfs.reach {A B : Sys} {E : List Nd} {p : Nat} {done : List Int} (h : Bfs A B E p done) : ∀ (n : Nat) (u : List Int), u.length = n → runN A 1 u ≠ 0 →
    (∀ u' y v, u = (u' ++ [y]) ++ v → ∀ i r, E[i]? = some r → wle r.w u' → r.a = runN A 1 u' → r.b = runN B 1 u' → (i < p ∨ i = p ∧ y ∈ done)) →
    runN B 1 u ≠ 0 ∧ ∃ q ∈ E, q.a = runN A 1 u ∧ q.b = runN B 1 u ∧ wle q.w u
  | 0, u, hn, ha, _ => by
    obtain rfl := List.eq_nil_of_length_eq_zero hn
    exact ⟨(by show (1 : Nat) ≠ 0; decide), _, List.mem_of_getElem? h.root, rfl, rfl, .inl rfl⟩
  | n + 1, u, hn, ha, hP => by
    have hne : u ≠ [] := by rintro rfl; simp at hn
    obtain ⟨u', y, rfl⟩ : ∃ u' y, u = u' ++ [y] := ⟨u.dropLast, u.getLast hne, (List.dropLast_concat_getLast hne).symm⟩
    rw [runN_snoc] at ha
    have ha' : runN A 1 u' ≠ 0 := fun e => ha (by rw [e]; exact behN_zero A y)
    obtain ⟨hb, q, hq, e1, e2, hle⟩ := Bfs.reach h n u' (by simpa using hn) ha' (fun u2 z v e => hP u2 z (v ++ [y]) (by rw [e]; simp))
    obtain ⟨i, hi, rfl⟩ := List.mem_iff_getElem.1 hq
    have hi2 : E[i]? = some E[i] := List.getElem?_eq_getElem hi
    have hd := hP u' y [] (by simp) i E[i] hi2 hle e1 e2
    obtain ⟨h1, q2, hq2, f1, f2, f3⟩ := h.suc i E[i] y hi2 hd (by rw [e1]; exact ha)
    rw [e2] at h1 f2
    rw [e1] at f1
    refine ⟨by rw [runN_snoc]; exact h1, q2, hq2, by rw [runN_snoc]; exact f1, by rw [runN_snoc]; exact f2, wle_trans f3 (wle_snoc y hle)⟩
theorem acc_iff {a : Sys} {u : List Int} : accB a u = true ↔ runN a 1 u ≠ 0 := by unfold accB; simp
theorem acc_no {a : Sys} {u : List Int} : accB a u = false ↔ runN a 1 u = 0 := by unfold accB; simp
/-- What Trace answers. -/
def TrR (A B : Sys) (most : Nat) (L : List Int) (ok : Bool) : Prop :=
  (ok = true ∧ L.length ≤ most ∧ accB A L = true ∧ accB B L = false ∧ ∀ u, accB A u = true → accB B u = false → ¬ wlt u L) ∨
  (ok = false ∧ L = [] ∧ ∀ u, u.length ≤ most → accB A u = true → accB B u = true)
theorem Bfs.fin {A B : Sys} {E : List Nd} {p : Nat} (h : Bfs A B E p []) {most : Nat} (hd : ∀ i r, E[i]? = some r → p ≤ i → most ≤ r.w.length) : TrR A B most [] false := by
  refine .inr ⟨rfl, rfl, fun u hu ha => ?_⟩
  rw [acc_iff] at ha ⊢
  refine (h.reach u.length u rfl ha (fun u' y v e i r hi hle _ _ => ?_)).1
  refine .inl (Nat.lt_of_not_le (fun hp => ?_))
  have h1 := hd i r hi hp
  have h2 : u'.length < u.length := by rw [e]; simp
  rcases hle with rfl | h3 | ⟨h3, -⟩ <;> omega
theorem Bfs.found {A B : Sys} {E : List Nd} {p : Nat} {done L : List Int} (h : Bfs A B E p done) {r : Nd} (hr : E[p]? = some r) {y : Int} (hL : IsLab A r.a L) (hy : y ∈ L) (hdone : ∀ z ∈ L, z < y → z ∈ done) (hb : behN B r.b y = 0) {most : Nat} (hm : r.w.length < most) : TrR A B most (r.w ++ [y]) true := by
  obtain ⟨e1, e2, -, -⟩ := h.ok r (List.mem_of_getElem? hr)
  refine .inl ⟨rfl, by simp; omega, ?_, ?_, fun u ha hnb hlt => ?_⟩
  · rw [acc_iff, runN_snoc, ← e1]; exact (lab_beh hL).1 hy
  · rw [acc_no, runN_snoc, ← e2]; exact hb
  · rw [acc_iff] at ha
    rw [acc_no] at hnb
    refine (h.reach u.length u rfl ha (fun u' z v e i s hi hle f1 f2 => ?_)).1 hnb
    have hlt2 : wlt (u' ++ [z]) (r.w ++ [y]) := by
      by_cases hv : v = []
      · subst hv; rw [e, List.append_nil] at hlt; exact hlt
      · have : u.length = (u' ++ [z]).length + v.length := by rw [e, List.length_append]
        have h2 : 0 < v.length := List.length_pos_iff.2 hv
        rcases hlt with h3 | ⟨h3, -⟩ <;> exact .inl (by omega)
    have hpl := (List.getElem?_eq_some_iff.1 hr).1
    rcases wlt_inv hlt2 with h3 | ⟨rfl, h3⟩
    · refine .inl (Nat.lt_of_not_le (fun hp => ?_))
      have h4 := wle_lt hle h3
      by_cases e5 : p = i
      · subst e5; rw [hr] at hi; cases hi; exact wlt_irrefl _ h4
      · exact wlt_irrefl _ (wlt_trans h4 (h.lt_of hr hi (by omega)))
    · have hip : i = p := by
        have hil := (List.getElem?_eq_some_iff.1 hi).1
        have k1 : (pairs E)[i]? = some (s.a, s.b) := by unfold pairs; rw [List.getElem?_map, hi]; rfl
        have k2 : (pairs E)[p]? = some (r.a, r.b) := by unfold pairs; rw [List.getElem?_map, hr]; rfl
        have k3 : (s.a, s.b) = (r.a, r.b) := by rw [f1, f2, e1, e2]
        rw [k3] at k1
        obtain ⟨l1, m1⟩ := List.getElem?_eq_some_iff.1 k1
        obtain ⟨l2, m2⟩ := List.getElem?_eq_some_iff.1 k2
        exact (List.getElem_inj h.nd).1 (m1.trans m2.symm)
      subst hip
      rw [hr] at hi
      cases hi
      refine .inr ⟨rfl, hdone z ((lab_beh hL).2 ?_) h3⟩
      intro h0
      apply ha
      rw [e]
      have : runN A 1 (r.w ++ [z]) = 0 := by rw [runN_snoc, ← e1]; exact h0
      unfold runN at this ⊢
      rw [List.foldl_append, this]
      clear e hlt ha hnb
      induction v with
      | nil => rfl
      | cons x v ih => rw [List.foldl_cons, behN_zero]; exact ih
theorem beh_lt64 {a : Sys} (h : VS a) (h6 : a.length ≤ 6) (s : Nat) (l : Int) : behN a s l < 64 := by
  refine Nat.lt_pow_two_of_testBit (n := 6) _ (fun j hj => ?_)
  cases e : (behN a s l).testBit j with
  | false => rfl
  | true =>
    obtain ⟨x, hx, -, p, hp, -, ht⟩ := beh_bit.1 e
    have := h.at hp
    omega
theorem nodup_le : ∀ (n : Nat) (l : List Nat), l.Nodup → (∀ x ∈ l, x < n) → l.length ≤ n
  | 0, l, _, h => by
    cases l with
    | nil => simp
    | cons x l => exact absurd (h x (by simp)) (by omega)
  | n + 1, l, hn, h => by
    have h1 := nodup_le n (l.filter (fun x => decide (x ≠ n))) (hn.filter _) (fun x hx => by
      have h2 := List.mem_filter.1 hx
      have h3 := h x h2.1
      have h4 : x ≠ n := by simpa using h2.2
      omega)
    have h2 : l.length ≤ (l.filter (fun x => decide (x ≠ n))).length + 1 := by
      have h3 : l.countP (fun x => !decide (x ≠ n)) ≤ 1 := by
        have : l.count n ≤ 1 := List.nodup_iff_count.1 hn n
        have e : l.countP (fun x => !decide (x ≠ n)) = l.count n := by
          rw [List.count_eq_countP]
          refine List.countP_congr (fun x _ => ?_)
          simp
        omega
      have h4 := List.length_eq_countP_add_countP (p := fun x => decide (x ≠ n)) (l := l)
      rw [← List.countP_eq_length_filter]
      simp only [Bool.not_eq_true] at h4
      have e : l.countP (fun x => decide (decide (x ≠ n) = false)) = l.countP (fun x => !decide (x ≠ n)) := by
        refine List.countP_congr (fun x _ => ?_)
        simp
      omega
    omega
theorem Bfs.small {A B : Sys} (hA : VS A) (hB : VS B) (a6 : A.length ≤ 6) (b6 : B.length ≤ 6) {E : List Nd} {p : Nat} {done : List Int} (h : Bfs A B E p done) : E.length < 4096 ∧ ∀ q ∈ E, q.a < 64 ∧ q.b < 64 := by
  have hr : ∀ (X : Sys), VS X → X.length ≤ 6 → ∀ u, runN X 1 u < 64 := fun X hX h6 u => by
    by_cases hu : u = []
    · subst hu; show (1 : Nat) < 64; decide
    · rw [← List.dropLast_concat_getLast hu, runN_snoc]
      exact beh_lt64 hX h6 _ _
  have hq : ∀ q ∈ E, q.a < 64 ∧ q.b < 64 := fun q hq => by
    obtain ⟨e1, e2, -, -⟩ := h.ok q hq
    rw [e1, e2]
    exact ⟨hr A hA a6 _, hr B hB b6 _⟩
  refine ⟨?_, hq⟩
  have hn : (0 :: E.map (fun q => q.a * 64 + q.b)).Nodup := by
    rw [List.nodup_cons]
    refine ⟨fun h0 => ?_, ?_⟩
    · obtain ⟨q, hq1, e⟩ := List.mem_map.1 h0
      have := (h.ok q hq1).2.2.1
      omega
    · have h1 := h.nd
      unfold pairs at h1
      rw [List.Nodup, List.pairwise_map] at h1 ⊢
      refine List.Pairwise.imp_of_mem ?_ h1
      intro x y hx hy hne e
      have h2 := hq x hx; have h3 := hq y hy
      exact hne (by rw [show x.a = y.a by omega, show x.b = y.b by omega])
  have := nodup_le 4096 _ hn (fun x hx => by
    rcases List.mem_cons.1 hx with rfl | hx
    · omega
    · obtain ⟨q, hq1, rfl⟩ := List.mem_map.1 hx
      have := hq q hq1
      omega)
  simp at this
  omega
end Go.Proofs.Ytelpkcndbcfaiaa
