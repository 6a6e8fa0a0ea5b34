/- The mathematics of words with ranks: the least places. -/
import Derived.Test.YtaenkbcclgpphaaPa
namespace Go.Proofs.Ytaenkbcclgpphaa
open Go.RowKit
set_option linter.unusedVariables false

/-- The least places of a word in the rest of another one, from an index on. -/
def findL (rs : List Int) : List Int → List Int → Nat → Option (List Int)
  | [], bs, _ => if bs = [] then some [] else none
  | _ :: _, [], _ => none
  | x :: a, y :: bs, i => match (if y = x then findL rs a bs (i + 1) else none) with
    | some r => some ((i : Int) :: r)
    | none => if rk rs x < rk rs y then none else findL rs (x :: a) bs (i + 1)
def embedP (rs a b : List Int) : Option (List Int) := if validP rs a && validP rs b then findL rs a b 0 else none
def leqP (rs a b : List Int) : Bool := (embedP rs a b).isSome
def quietP (rs b : List Int) (f m : Nat) : Bool := ((b.take m).drop f).all (fun x => decide (rk rs x ≤ rk rs (b[m]?.getD 0)))
def hitP (rs b : List Int) (marks : List Bool) (f j : Nat) : Bool := marks[j]?.getD false && quietP rs b f j
def firstP (rs b : List Int) (marks : List Bool) (f : Nat) : Option Nat := (List.range' f (b.length - f)).find? (hitP rs b marks f)
def endL (rs b : List Int) : List Int → List Bool
  | [] => []
  | x :: a => (List.range b.length).map (fun j => (b[j]?.getD 0 == x) && (if a = [] then (j + 1 == b.length) else (firstP rs b (endL rs b a) (j + 1)).isSome))
def optI : Option Nat → Int
  | none => -1
  | some j => j

theorem findL_cons (rs : List Int) (x : Int) (a : List Int) (y : Int) (bs : List Int) (i : Nat) : findL rs (x :: a) (y :: bs) i = (match (if y = x then findL rs a bs (i + 1) else none) with
    | some r => some ((i : Int) :: r)
    | none => if rk rs x < rk rs y then none else findL rs (x :: a) bs (i + 1)) := by rw [findL]
theorem quietP_snoc (rs b : List Int) (f p : Nat) (hf : f ≤ p) (hp : p < b.length) (P : Int → Bool) : ((b.take (p + 1)).drop f).all P = (((b.take p).drop f).all P && P (b[p]?.getD 0)) := by
  rw [take_snoc' b p hp, List.drop_append_of_le_length (by rw [List.length_take]; omega), List.all_append]
  simp
theorem range_step (f n : Nat) (h : f < n) : List.range' f (n - f) = f :: List.range' (f + 1) (n - (f + 1)) := by
  rw [show n - f = (n - (f + 1)) + 1 by omega, List.range'_succ]

/-- One letter: from a place on, its first marked place that all before it let through. -/
theorem find_scan (rs b a : List Int) (x : Int) (m : List Bool) (hm : ∀ j, j < b.length → m[j]?.getD false = ((b[j]?.getD 0 == x) && (findL rs a (b.drop (j + 1)) (j + 1)).isSome)) (f : Nat) :
    ∀ (n p : Nat), b.length - p = n → f ≤ p → p ≤ b.length → ((b.take p).drop f).all (fun y => decide (rk rs y ≤ rk rs x)) = true →
    findL rs (x :: a) (b.drop p) p = ((List.range' p (b.length - p)).find? (hitP rs b m f)).bind (fun j => (findL rs a (b.drop (j + 1)) (j + 1)).map (fun r => (j : Int) :: r))
  | 0, p, hn, hf, hp, hq => by
    have : p = b.length := by omega
    subst this
    rw [List.drop_length, Nat.sub_self]
    simp [findL]
  | n + 1, p, hn, hf, hp, hq => by
    have hlt : p < b.length := by omega
    have hy : b[p]?.getD 0 = b[p] := by simp [hlt]
    rw [List.drop_eq_getElem_cons hlt, range_step p b.length hlt, List.find?_cons]
    have hmp := hm p hlt
    rw [hy] at hmp
    rw [findL_cons]
    by_cases h1 : m[p]?.getD false = true
    · rw [h1] at hmp
      have h2 := hmp.symm
      rw [Bool.and_eq_true, beq_iff_eq] at h2
      obtain ⟨hx, hs⟩ := h2
      obtain ⟨r, hr⟩ := Option.isSome_iff_exists.1 hs
      have hh : hitP rs b m f p = true := by
        unfold hitP quietP
        rw [h1, hy, hx, hq]; rfl
      rw [if_pos hx, hr, hh]
      simp [hr]
    · have h1' : m[p]?.getD false = false := by simpa using h1
      rw [h1'] at hmp
      have hh : hitP rs b m f p = false := by unfold hitP; rw [h1']; rfl
      have hnone : (if b[p] = x then findL rs a (b.drop (p + 1)) (p + 1) else none) = none := by
        split
        · rename_i hx
          cases hc : findL rs a (b.drop (p + 1)) (p + 1) with
          | none => rfl
          | some r => rw [hc, beq_iff_eq.2 hx] at hmp; simp at hmp
        · rfl
      rw [hnone, hh]
      by_cases h3 : rk rs x < rk rs b[p]
      · simp only [if_pos h3]
        have : (List.range' (p + 1) (b.length - (p + 1))).find? (hitP rs b m f) = none := by
          rw [List.find?_eq_none]
          intro j hj
          rw [List.mem_range'_1] at hj
          have hjl : j < b.length := by omega
          unfold hitP
          cases hmj : m[j]?.getD false with
          | false => simp
          | true =>
            have h4 := hm j hjl
            rw [hmj] at h4
            have h5 := h4.symm
            rw [Bool.and_eq_true, beq_iff_eq] at h5
            have : quietP rs b f j = false := by
              unfold quietP
              rw [h5.1, ← Bool.not_eq_true, List.all_eq_true]
              intro hall
              have hmem : b[p] ∈ (b.take j).drop f := by
                rw [List.mem_iff_getElem]
                refine ⟨p - f, by rw [List.length_drop, List.length_take]; omega, ?_⟩
                rw [List.getElem_drop, List.getElem_take]
                congr 1; omega
              have := hall _ hmem
              simp only [decide_eq_true_eq] at this
              omega
            rw [this]; simp
        rw [this]; rfl
      · simp only [if_neg h3]
        rw [find_scan rs b a x m hm f n (p + 1) (by omega) (by omega) (by omega) (by rw [quietP_snoc rs b f p hf hlt, hq, hy, decide_eq_true (by omega)]; rfl)]
theorem find_first (rs b a : List Int) (x : Int) (m : List Bool) (hm : ∀ j, j < b.length → m[j]?.getD false = ((b[j]?.getD 0 == x) && (findL rs a (b.drop (j + 1)) (j + 1)).isSome)) (f : Nat) (hf : f ≤ b.length) :
    findL rs (x :: a) (b.drop f) f = (firstP rs b m f).bind (fun j => (findL rs a (b.drop (j + 1)) (j + 1)).map (fun r => (j : Int) :: r)) :=
  find_scan rs b a x m hm f _ f rfl (Nat.le_refl _) hf (by rw [List.drop_eq_nil_of_le (by rw [List.length_take]; omega)]; rfl)
theorem firstP_some {rs b : List Int} {m : List Bool} {f j : Nat} (h : firstP rs b m f = some j) : f ≤ j ∧ j < b.length ∧ m[j]?.getD false = true := by
  unfold firstP at h
  have h1 := List.mem_of_find?_eq_some h
  have h2 := List.find?_some h
  rw [List.mem_range'_1] at h1
  unfold hitP at h2
  rw [Bool.and_eq_true] at h2
  exact ⟨h1.1, by omega, h2.1⟩
theorem endL_at (rs b : List Int) : ∀ (a : List Int) (x : Int) (j : Nat), j < b.length → (endL rs b (x :: a))[j]?.getD false = ((b[j]?.getD 0 == x) && (findL rs a (b.drop (j + 1)) (j + 1)).isSome)
  | [], x, j, hj => by
    unfold endL
    simp only [List.getElem?_map, List.getElem?_range hj, Option.map_some, Option.getD_some, if_true]
    congr 1
    unfold findL
    by_cases h : j + 1 = b.length
    · rw [beq_iff_eq.2 h, if_pos (by rw [h, List.drop_length])]; rfl
    · rw [beq_eq_false_iff_ne.2 h, if_neg (by rw [List.drop_eq_nil_iff]; omega)]; rfl
  | y :: a, x, j, hj => by
    rw [endL]
    simp only [List.getElem?_map, List.getElem?_range hj, Option.map_some, Option.getD_some, if_neg (List.cons_ne_nil y a)]
    congr 1
    rw [find_first rs b a y (endL rs b (y :: a)) (fun i hi => endL_at rs b a y i hi) (j + 1) (by omega)]
    cases hc : firstP rs b (endL rs b (y :: a)) (j + 1) with
    | none => rfl
    | some k =>
      have h1 := firstP_some hc
      have h2 := endL_at rs b a y k h1.2.1
      rw [h1.2.2] at h2
      have h3 := h2.symm
      rw [Bool.and_eq_true] at h3
      obtain ⟨r, hr⟩ := Option.isSome_iff_exists.1 h3.2
      simp [hr]
theorem endL_len (rs b : List Int) (x : Int) (a : List Int) : (endL rs b (x :: a)).length = b.length := by unfold endL; simp
theorem find_ends (rs b : List Int) (x : Int) (a : List Int) (f : Nat) (hf : f ≤ b.length) :
    findL rs (x :: a) (b.drop f) f = (firstP rs b (endL rs b (x :: a)) f).bind (fun j => (findL rs a (b.drop (j + 1)) (j + 1)).map (fun r => (j : Int) :: r)) :=
  find_first rs b a x _ (fun j hj => endL_at rs b a x j hj) f hf

theorem findL_len (rs : List Int) : ∀ (b a : List Int) (i : Nat) (r : List Int), findL rs a b i = some r → r.length = a.length
  | b, [], i, r, h => by
    unfold findL at h
    split at h
    · cases h; rfl
    · cases h
  | [], x :: a, i, r, h => by simp [findL] at h
  | y :: b, x :: a, i, r, h => by
    unfold findL at h
    split at h
    · rename_i r' hr
      split at hr
      · cases h
        simp [findL_len rs b a (i + 1) r' hr]
      · cases hr
    · split at h
      · cases h
      · exact findL_len rs b (x :: a) (i + 1) r h
theorem findL_bd (rs : List Int) : ∀ (b a : List Int) (i : Nat) (r : List Int), findL rs a b i = some r → ∀ z ∈ r, (i : Int) ≤ z ∧ z < i + b.length
  | b, [], i, r, h => by
    unfold findL at h
    split at h
    · cases h; simp
    · cases h
  | [], x :: a, i, r, h => by simp [findL] at h
  | y :: b, x :: a, i, r, h => by
    unfold findL at h
    intro z hz
    split at h
    · rename_i r' hr
      split at hr
      · cases h
        rcases List.mem_cons.1 hz with rfl | hz
        · simp; omega
        · have := findL_bd rs b a (i + 1) r' hr z hz
          simp; omega
      · cases hr
    · split at h
      · cases h
      · have := findL_bd rs b (x :: a) (i + 1) r h z hz
        simp; omega
theorem embedP_bd {rs a b : List Int} (hb : b.length ≤ 100) : ∀ x ∈ (embedP rs a b).getD [], -9223372036854775808 ≤ x ∧ x ≤ 9223372036854775807 := by
  unfold embedP
  split
  · cases h : findL rs a b 0 with
    | none => simp
    | some r =>
      intro x hx
      have := findL_bd rs b a 0 r h x hx
      omega
  · simp

end Go.Proofs.Ytaenkbcclgpphaa
