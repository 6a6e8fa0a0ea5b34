/- The reference's Scan, step by step, in lists' words. -/
import Derived.Test.YthlollnpnangpaaDoorYu
namespace Go.Proofs.YthlollnpnangpaaDoor
open Go.RowKit
set_option linter.unusedVariables false
def okB (c : UInt8) : Bool := c != 10 && c != 35
def yL (s : Bs) : Bs := s.takeWhile okB
def tlS (s : Bs) : List Bs := (segs s).tail
theorem segs_hd : ∀ s : Bs, ∃ x, segs s = x :: tlS s ∧ conS x = yL s
  | [] => ⟨[], rfl, rfl⟩
  | c :: s => by
    obtain ⟨x, h1, h2⟩ := segs_hd s
    by_cases h : c = 10
    · subst h
      exact ⟨[], by unfold tlS; rw [segs_cons, if_pos rfl]; rfl, by unfold yL; rw [List.takeWhile_cons, if_neg (by decide)]; rfl⟩
    · refine ⟨c :: x, ?_, ?_⟩
      · unfold tlS at *
        rw [segs_cons, if_neg h, h1]
        rfl
      · unfold yL conS at *
        rw [List.takeWhile_cons, List.takeWhile_cons, h2]
        by_cases h3 : c = 35
        · subst h3; rfl
        · have e1 : (c != 35) = true := by simpa using h3
          have e2 : okB c = true := by unfold okB; simp [h, h3]
          rw [e1, e2]
theorem tl_nil : tlS [] = [] := rfl
theorem tl_nl (s : Bs) : tlS (10 :: s) = segs s := rfl
theorem tl_cons {c : UInt8} (h : c ≠ 10) (s : Bs) : tlS (c :: s) = tlS s := by
  obtain ⟨x, h1, -⟩ := segs_hd s
  unfold tlS at *
  rw [segs_cons, if_neg h, h1]
  rfl
theorem tl_drop : ∀ (k : Nat) (s : Bs), k ≤ (s.takeWhile (· != 10)).length → tlS (s.drop k) = tlS s
  | 0, s, _ => rfl
  | k + 1, [], h => by simp at h
  | k + 1, c :: s, h => by
    by_cases h10 : c = 10
    · subst h10; simp at h
    · have e : (c != 10) = true := by simpa using h10
      rw [List.takeWhile_cons, if_pos e, List.length_cons] at h
      rw [List.drop_succ_cons, tl_drop k s (by omega), tl_cons h10]
theorem y_le10 : ∀ s : Bs, (yL s).length ≤ (s.takeWhile (· != 10)).length
  | [] => Nat.le_refl _
  | c :: s => by
    have ih := y_le10 s
    unfold yL at *
    rw [List.takeWhile_cons, List.takeWhile_cons]
    by_cases h10 : c = 10
    · subst h10; exact Nat.le_refl _
    · have e : (c != 10) = true := by simpa using h10
      rw [if_pos e]
      split
      · simp; exact ih
      · simp
theorem y_drop : ∀ (k : Nat) (s : Bs), k ≤ (yL s).length → yL (s.drop k) = (yL s).drop k
  | 0, s, _ => rfl
  | k + 1, [], _ => rfl
  | k + 1, c :: s, h => by
    unfold yL at *
    rw [List.takeWhile_cons] at *
    split at h
    · next h1 =>
      rw [if_pos h1, List.drop_succ_cons, List.drop_succ_cons]
      exact y_drop k s (by simpa [yL] using h)
    · simp at h
/-- What is behind a state of the reference's loop. -/
def restS (n : Int) (sm : Bool) (s : Bs) : Except Int (List Tk) := match toks (yL s) with
  | none => .error (n + 1)
  | some ts => match scanS (n + 1) (tlS s) with
    | .error e => .error e
    | .ok q => .ok (ts.map (fun p => (p.1, p.2, n + 1)) ++ ((if sm || !ts.isEmpty then [(4, [], n + 1)] else []) ++ q))
def addE (out : List Tk) : Except Int (List Tk) → Except Int (List Tk)
  | .error e => .error e
  | .ok q => .ok (out ++ q)
theorem addE_add (a b : List Tk) (e : Except Int (List Tk)) : addE a (addE b e) = addE (a ++ b) e := by
  cases e with
  | error e => rfl
  | ok q => simp [addE]
theorem rest_start (n : Int) (s : Bs) : scanS n (segs s) = restS n false s := by
  obtain ⟨x, h1, h2⟩ := segs_hd s
  rw [h1]
  unfold restS
  simp only [scanS, h2]
  cases toks (yL s) with
  | none => rfl
  | some ts =>
    dsimp only
    cases scanS (n + 1) (tlS s) with
    | error e => rfl
    | ok q =>
      dsimp only
      cases ts with
      | nil => rfl
      | cons p ts => simp [tagL]
theorem rest_nil (n : Int) (sm : Bool) : restS n sm [] = .ok (if sm then [(4, [], n + 1)] else []) := by
  unfold restS
  show (Except.ok _ : Except Int (List Tk)) = _
  cases sm <;> rfl
theorem rest_nl (n : Int) (sm : Bool) (s : Bs) : restS n sm (10 :: s) = addE (if sm then [(4, [], n + 1)] else []) (restS (n + 1) false s) := by
  rw [← rest_start (n + 1) s]
  unfold restS
  rw [tl_nl, show yL (10 :: s) = [] by rfl, show toks [] = some [] by rfl]
  dsimp only
  cases scanS (n + 1) (segs s) with
  | error e => rfl
  | ok q => cases sm <;> rfl
theorem rest_blank (n : Int) (sm : Bool) {c : UInt8} (h : blkB c = true) (s : Bs) : restS n sm (c :: s) = restS n sm s := by
  have hc : c ≠ 10 ∧ okB c = true := by
    unfold blkB at h
    simp at h
    rcases h with rfl | rfl <;> decide
  unfold restS
  have e1 : yL (c :: s) = c :: yL s := by unfold yL; rw [List.takeWhile_cons, if_pos hc.2]
  have e2 : toks (c :: yL s) = toks (yL s) := by rw [← toks_drop (c :: yL s), ← toks_drop (yL s), List.dropWhile_cons, if_pos h]
  rw [tl_cons hc.1, e1, e2]
theorem tw_head {p : UInt8 → Bool} : ∀ s : Bs, ∀ d ∈ (s.drop (s.takeWhile p).length).head?, p d = false
  | [], d, h => by simp at h
  | c :: s, d, h => by
    rw [List.takeWhile_cons] at h
    split at h
    · rw [List.length_cons, List.drop_succ_cons] at h
      exact tw_head s d h
    · next h1 =>
      rw [List.length_nil, List.drop_zero] at h
      simp at h
      subst h
      simpa using h1
theorem rest_com (n : Int) (sm : Bool) {c : UInt8} (h : c = 35) (s : Bs) : restS n sm ((c :: s).drop ((c :: s).takeWhile (· != 10)).length) = restS n sm (c :: s) := by
  have e1 : yL (c :: s) = [] := by subst h; rfl
  have e2 : yL ((c :: s).drop ((c :: s).takeWhile (· != 10)).length) = [] := by
    have h1 := tw_head (p := (· != 10)) (c :: s)
    generalize (c :: s).drop ((c :: s).takeWhile (· != 10)).length = z at *
    cases z with
    | nil => rfl
    | cons d z =>
      have h2 : d = 10 := by simpa using h1 d (by simp)
      subst h2
      rfl
  unfold restS
  rw [e1, e2, tl_drop _ _ (Nat.le_refl _)]
theorem run_pre {b : Bs} (hb : ∀ d ∈ b.head?, wrdB d = false) : ∀ s : Bs, runN (s ++ b) = runN s
  | [] => by
    cases b with
    | nil => rfl
    | cons a b =>
      unfold runN
      rw [List.nil_append, List.takeWhile_cons, if_neg (by rw [hb a (by simp)]; simp)]
      rfl
  | a :: s => by
    have ih := run_pre hb s
    unfold runN at *
    rw [List.cons_append, List.takeWhile_cons, List.takeWhile_cons]
    split
    · rw [List.length_cons, List.length_cons, ih]
    · rfl
theorem first_pre {b : Bs} (hb : ∀ d ∈ b.head?, wrdB d = false ∧ d ≠ 62) (c : UInt8) (r : Bs) : firstT (c :: r ++ b) = firstT (c :: r) := by
  unfold firstT
  rw [run_pre (fun d hd => (hb d hd).1) (c :: r), List.take_append_of_le_length (runN_le _)]
  by_cases h0 : 0 < runN (c :: r)
  · rw [if_pos h0, if_pos h0]
  · rw [if_neg h0, if_neg h0]
    dsimp only [List.cons_append]
    have : (r ++ b).head? = some 62 ↔ r.head? = some 62 := by
      cases r with
      | nil =>
        cases b with
        | nil => simp
        | cons a b => simp; exact (hb a (by simp)).2
      | cons d r => simp
    simp only [this]
theorem y_first {c : UInt8} (s : Bs) (h : okB c = true) : ∃ r, yL (c :: s) = c :: r ∧ firstT (c :: s) = firstT (c :: r) := by
  refine ⟨yL s, by unfold yL; rw [List.takeWhile_cons, if_pos h], ?_⟩
  have e : c :: s = c :: yL s ++ s.drop (yL s).length := by
    rw [List.cons_append]
    congr 1
    have : ∀ t : Bs, t = t.takeWhile okB ++ t.drop (t.takeWhile okB).length := fun t => by
      induction t with
      | nil => rfl
      | cons d t ih =>
        rw [List.takeWhile_cons]
        split
        · rw [List.length_cons, List.drop_succ_cons, List.cons_append, ← ih]
        · rfl
    exact this s
  conv => lhs; rw [e]
  refine first_pre (fun d hd => ?_) c _
  have h2 := tw_head (p := okB) s d hd
  unfold okB at h2
  simp at h2
  by_cases h10 : d = 10
  · subst h10; decide
  · have := h2 h10; subst this; decide
theorem rest_none (n : Int) (sm : Bool) {c : UInt8} (s : Bs) (h1 : blkB c = false) (h : okB c = true) (hf : firstT (c :: s) = none) : restS n sm (c :: s) = .error (n + 1) := by
  obtain ⟨r, h2, h3⟩ := y_first s h
  unfold restS
  rw [h2, toks_cons (s := c :: r) (c := c) (r := r) (by rw [List.dropWhile_cons, if_neg (by rw [h1]; simp)]), ← h3, hf]
theorem rest_tok (n : Int) (sm : Bool) {c : UInt8} (s : Bs) (h1 : blkB c = false) (h : okB c = true) {p : Int × Bs} (hf : firstT (c :: s) = some p) :
    restS n sm (c :: s) = addE [(p.1, p.2, n + 1)] (restS n true ((c :: s).drop p.2.length)) ∧ p.2 = (c :: s).take p.2.length ∧ 0 < p.2.length ∧ p.2.length ≤ (c :: s).length ∧ 1 ≤ p.1 ∧ p.1 ≤ 3 := by
  obtain ⟨r, h2, h3⟩ := y_first s h
  have h4 := firstT_some hf
  have h5 := firstT_some (h3 ▸ hf)
  refine ⟨?_, h4.2.2.1, h4.1, h4.2.1, h4.2.2.2⟩
  have e1 : yL ((c :: s).drop p.2.length) = (c :: r).drop p.2.length := by rw [y_drop _ _ (by rw [h2]; exact h5.2.1), h2]
  have e2 : tlS ((c :: s).drop p.2.length) = tlS (c :: s) := tl_drop _ _ (Nat.le_trans (by rw [h2]; exact h5.2.1) (y_le10 (c :: s)))
  unfold restS
  rw [h2, e1, e2, toks_cons (s := c :: r) (c := c) (r := r) (by rw [List.dropWhile_cons, if_neg (by rw [h1]; simp)]), ← h3, hf]
  dsimp only
  cases toks ((c :: r).drop p.2.length) with
  | none => rfl
  | some ts =>
    dsimp only [Option.map_some]
    cases scanS (n + 1) (tlS (c :: s)) with
    | error e => rfl
    | ok q => simp [addE]
end Go.Proofs.YthlollnpnangpaaDoor
