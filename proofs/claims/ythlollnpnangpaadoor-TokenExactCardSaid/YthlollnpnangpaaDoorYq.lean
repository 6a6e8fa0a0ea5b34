/- Spaces, comments and lines without tokens change nothing. -/
import Derived.Test.YthlollnpnangpaaDoorYj
namespace Go.Proofs.YthlollnpnangpaaDoor
set_option linter.unusedVariables false
/-- The parts between the ends of lines. -/
def segs : Bs → List Bs
  | [] => [[]]
  | c :: s => if c = 10 then [] :: segs s else match segs s with
    | [] => [[c]]
    | x :: r => (c :: x) :: r
theorem segs_cons (c : UInt8) (s : Bs) : segs (c :: s) = if c = 10 then [] :: segs s else match segs s with
    | [] => [[c]]
    | x :: r => (c :: x) :: r := rfl
theorem segs_ne : ∀ s, segs s ≠ []
  | [] => by simp [segs]
  | c :: s => by
    unfold segs
    split
    · simp
    · split <;> simp
/-- What a part of a line gives. -/
def conS (l : Bs) : Bs := l.takeWhile (· != 35)
def scanS : Int → List Bs → Except Int (List (Int × Bs × Int))
  | _, [] => .ok []
  | n, l :: ls => match toks (conS l) with
    | none => .error (n + 1)
    | some ts => match scanS (n + 1) ls with
      | .error e => .error e
      | .ok r => .ok (tagL (n + 1) ts ++ r)
theorem segs_no10 : ∀ (s : Bs) (x : Bs), x ∈ segs s → ∀ c ∈ x, c ≠ 10
  | [], x, hx, c, hc => by simp [segs] at hx; subst hx; cases hc
  | a :: s, x, hx, c, hc => by
    unfold segs at hx
    split at hx
    · next h =>
      rcases List.mem_cons.1 hx with rfl | hx
      · cases hc
      · exact segs_no10 s x hx c hc
    · next h =>
      split at hx
      · simp at hx; subst hx; simp at hc; rw [hc]; exact h
      · next y r hy =>
        rcases List.mem_cons.1 hx with rfl | hx
        · rcases List.mem_cons.1 hc with rfl | hc
          · exact h
          · exact segs_no10 s y (by rw [hy]; simp) c hc
        · exact segs_no10 s x (by rw [hy]; simp [hx]) c hc
theorem segs_app10 : ∀ (a b : Bs), segs (a ++ 10 :: b) = (segs a) ++ segs b
  | [], b => by simp [segs]
  | c :: a, b => by
    have ih := segs_app10 a b
    rw [List.cons_append, segs_cons c (a ++ 10 :: b), segs_cons c a]
    by_cases h : c = 10
    · rw [if_pos h, if_pos h, ih]; rfl
    · rw [if_neg h, if_neg h, ih]
      cases hs : segs a with
      | nil => exact absurd hs (segs_ne a)
      | cons x r => rfl
theorem segs_plain : ∀ {x : Bs}, (∀ c ∈ x, c ≠ 10) → segs x = [x]
  | [], _ => rfl
  | c :: x, h => by
    unfold segs
    rw [if_neg (h c (by simp)), segs_plain (fun d hd => h d (by simp [hd]))]
theorem trim_10 (x : Bs) (h : ∀ c ∈ x, c ≠ 10) : Lib.trimSuffix (x ++ [10]) [10] = x := by
  unfold Lib.trimSuffix Lib.hasSuffix
  have : ([10] : Bs).isSuffixOf (x ++ [10]) = true := by
    rw [List.isSuffixOf_iff_suffix]; exact List.suffix_append _ _
  rw [if_pos this]
  simp
theorem trim_no (x : Bs) (h : ∀ c ∈ x, c ≠ 10) : Lib.trimSuffix x [10] = x := by
  unfold Lib.trimSuffix Lib.hasSuffix
  split
  · next h1 =>
    rw [List.isSuffixOf_iff_suffix] at h1
    obtain ⟨t, rfl⟩ := h1
    exact absurd rfl (h 10 (by simp))
  · rfl
theorem takeWhile_no (x : Bs) (h : ∀ c ∈ x, c ≠ 10) (b : Bs) : (x ++ 10 :: b).takeWhile (· != 10) = x := by
  induction x with
  | nil => simp
  | cons c x ih =>
    rw [List.cons_append, List.takeWhile_cons, if_pos (by simpa using h c (by simp)), ih (fun d hd => h d (by simp [hd]))]
theorem takeWhile_all10 (x : Bs) (h : ∀ c ∈ x, c ≠ 10) : x.takeWhile (· != 10) = x := by
  induction x with
  | nil => rfl
  | cons c x ih => rw [List.takeWhile_cons, if_pos (by simpa using h c (by simp)), ih (fun d hd => h d (by simp [hd]))]
/-- The first part and what is behind it. -/
theorem segs_split : ∀ s : Bs, (∀ c ∈ s, c ≠ 10) ∨ ∃ x b, s = x ++ 10 :: b ∧ (∀ c ∈ x, c ≠ 10)
  | [] => .inl (by simp)
  | c :: s => by
    by_cases h : c = 10
    · exact .inr ⟨[], s, by rw [h]; rfl, by simp⟩
    · rcases segs_split s with h1 | ⟨x, b, rfl, h1⟩
      · exact .inl (fun d hd => by rcases List.mem_cons.1 hd with rfl | hd; exact h; exact h1 d hd)
      · exact .inr ⟨c :: x, b, rfl, fun d hd => by rcases List.mem_cons.1 hd with rfl | hd; exact h; exact h1 d hd⟩
theorem lines_x10 {x b : Bs} (h : ∀ c ∈ x, c ≠ 10) : linesL (x ++ 10 :: b) = (x ++ [10]) :: linesL b := by
  rw [linesL_cons (by simp), takeWhile_no x h b, if_neg (by simp)]
  have e : x ++ 10 :: b = (x ++ [10]) ++ b := by simp
  rw [e, List.take_left' (by simp), List.drop_left' (by simp)]
theorem scan_segs : ∀ (n : Nat) (k : Int) (s : Bs), s.length ≤ n → scanL k (linesL s) = scanS k (segs s)
  | n, k, s, hn => by
    rcases segs_split s with h | ⟨x, b, rfl, h⟩
    · rw [segs_plain h]
      by_cases h0 : s = []
      · subst h0; rfl
      · rw [linesL_cons h0, takeWhile_all10 s h, if_pos rfl]
        simp only [scanL, scanS, conL, conS, trim_no s h]
        rfl
    · rw [lines_x10 h, segs_app10, segs_plain h]
      cases n with
      | zero => simp at hn
      | succ n =>
        have ih := scan_segs n (k + 1) b (by simp at hn; omega)
        have hc : conL (x ++ [10]) = conS x := by unfold conL conS; rw [trim_10 x h]
        show scanL k ((x ++ [10]) :: linesL b) = scanS k (x :: segs b)
        simp only [scanL, scanS, hc]
        rw [ih]
        rfl
/-- What the law puts before each end of a line. -/
def moreB : Bs := [32, 9, 35, 32, 109, 111, 114, 101, 32, 40, 32, 10, 10]
def wideL : Bs → Bs
  | [] => []
  | c :: s => if c = 10 then moreB ++ 10 :: wideL s else c :: wideL s
def tailB : Bs := [32, 9, 35, 32, 109, 111, 114, 101, 32, 40, 32]
def wideS : List Bs → List Bs
  | [] => []
  | [x] => [x]
  | x :: y :: r => (x ++ tailB) :: [] :: [] :: wideS (y :: r)
theorem wideL_cons (c : UInt8) (s : Bs) : wideL (c :: s) = if c = 10 then moreB ++ 10 :: wideL s else c :: wideL s := rfl
theorem wide_plain : ∀ {x : Bs}, (∀ c ∈ x, c ≠ 10) → ∀ b, wideL (x ++ b) = x ++ wideL b
  | [], _, b => rfl
  | c :: x, h, b => by
    show wideL (c :: (x ++ b)) = _
    rw [wideL_cons, if_neg (h c (by simp)), wide_plain (fun d hd => h d (by simp [hd])) b]
    rfl
theorem segs_wide : ∀ (n : Nat) (s : Bs), s.length ≤ n → segs (wideL s) = wideS (segs s)
  | n, s, hn => by
    rcases segs_split s with h | ⟨x, b, rfl, h⟩
    · have e : wideL s = s := by
        have := wide_plain h []
        rw [List.append_nil] at this
        rw [this]
        show s ++ [] = s
        simp
      rw [e, segs_plain h]
      rfl
    · cases n with
      | zero => simp at hn
      | succ n =>
        have ih := segs_wide n b (by simp at hn; omega)
        have e : wideL (x ++ 10 :: b) = (x ++ tailB) ++ 10 :: ([] ++ 10 :: ([] ++ 10 :: wideL b)) := by
          rw [wide_plain h]
          show x ++ wideL (10 :: b) = _
          rw [wideL_cons, if_pos rfl]
          simp [moreB, tailB]
        have ht : ∀ c ∈ x ++ tailB, c ≠ 10 := fun c hc => by
          rcases List.mem_append.1 hc with hc | hc
          · exact h c hc
          · exact (show ∀ c ∈ tailB, c ≠ 10 by decide) c hc
        rw [e, segs_app10, segs_app10, segs_app10, ih, segs_plain ht, segs_app10, segs_plain h]
        show [x ++ tailB] ++ ([[]] ++ ([[]] ++ wideS (segs b))) = wideS (x :: segs b)
        cases hs : segs b with
        | nil => exact absurd hs (segs_ne b)
        | cons y r => rfl
theorem drop_blank {b : Bs} (hb : ∀ c ∈ b, blkB c = true) : ∀ s : Bs, (s ++ b).dropWhile blkB = match s.dropWhile blkB with | [] => [] | c :: r => (c :: r) ++ b
  | [] => by
    rw [List.nil_append]
    show b.dropWhile blkB = []
    induction b with
    | nil => rfl
    | cons a b ih => rw [List.dropWhile_cons, if_pos (hb a (by simp)), ih (fun c hc => hb c (by simp [hc]))]
  | a :: s => by
    rw [List.cons_append, List.dropWhile_cons, List.dropWhile_cons]
    split
    · exact drop_blank hb s
    · rfl
theorem blk_wrd {c : UInt8} (h : blkB c = true) : wrdB c = false ∧ c ≠ 62 := by
  unfold blkB at h
  simp at h
  rcases h with rfl | rfl <;> decide
theorem run_blank {b : Bs} (hb : ∀ c ∈ b, blkB c = true) : ∀ s : Bs, runN (s ++ b) = runN s
  | [] => by
    cases b with
    | nil => rfl
    | cons a b =>
      unfold runN
      rw [List.nil_append, List.takeWhile_cons, if_neg (by rw [(blk_wrd (hb a (by simp))).1]; simp)]
      rfl
  | a :: s => by
    have ih := run_blank hb s
    unfold runN at *
    rw [List.cons_append, List.takeWhile_cons, List.takeWhile_cons]
    split
    · rw [List.length_cons, List.length_cons, ih]
    · rfl
theorem first_blank {b : Bs} (hb : ∀ c ∈ b, blkB c = true) (c : UInt8) (r : Bs) : firstT (c :: r ++ b) = firstT (c :: r) := by
  unfold firstT
  rw [run_blank hb (c :: r), List.take_append_of_le_length (runN_le _)]
  by_cases h0 : 0 < runN (c :: r)
  · rw [if_pos h0, if_pos h0]
  · rw [if_neg h0, if_neg h0]
    dsimp only [List.cons_append]
    have : (r ++ b).head? = some 62 ↔ r.head? = some 62 := by
      cases r with
      | nil =>
        cases b with
        | nil => simp
        | cons a b => simp; exact (blk_wrd (hb a (by simp))).2
      | cons d r => simp
    simp only [this]
theorem toks_blank {b : Bs} (hb : ∀ c ∈ b, blkB c = true) : ∀ (n : Nat) (s : Bs), s.length ≤ n → toks (s ++ b) = toks s
  | n, s, hn => by
    have hd := drop_blank hb s
    cases h : s.dropWhile blkB with
    | nil => rw [h] at hd; rw [toks_nil hd, toks_nil h]
    | cons c r =>
      rw [h] at hd
      rw [toks_cons h, toks_cons (c := c) (r := r ++ b) hd, show c :: (r ++ b) = c :: r ++ b by rfl, first_blank hb]
      cases hf : firstT (c :: r) with
      | none => rfl
      | some p =>
        dsimp only
        have h2 := firstT_some hf
        have h1 := dropWhile_le (p := blkB) s
        rw [h] at h1
        cases n with
        | zero => simp at h1; omega
        | succ n =>
          rw [List.drop_append_of_le_length h2.2.1, toks_blank hb n _ (by rw [List.length_drop]; simp only [List.length_cons] at h1 h2 ⊢; omega)]
theorem con_tail (x : Bs) : toks (conS (x ++ tailB)) = toks (conS x) := by
  have key : ∀ x : Bs, conS (x ++ tailB) = conS x ∨ conS (x ++ tailB) = conS x ++ [32, 9] := fun x => by
    induction x with
    | nil => right; rfl
    | cons c x ih =>
      unfold conS at *
      rw [List.cons_append, List.takeWhile_cons, List.takeWhile_cons]
      split
      · rcases ih with ih | ih
        · left; rw [ih]
        · right; rw [ih]; rfl
      · left; rfl
  rcases key x with h | h
  · rw [h]
  · rw [h, toks_blank (by decide) _ _ (Nat.le_refl _)]
def stripT : Except Int (List (Int × Bs × Int)) → Option (List (Int × Bs))
  | .ok ts => some (ts.map (fun t => (t.1, t.2.1)))
  | .error _ => none
def endT (t0 : List (Int × Bs)) : List (Int × Bs) := if t0 = [] then [] else t0 ++ [(4, [])]
theorem strip_tag (n : Int) (t0 : List (Int × Bs)) : (tagL n t0).map (fun t => (t.1, t.2.1)) = endT t0 := by
  unfold tagL endT
  split
  · rfl
  · rw [List.map_append, List.map_map]
    congr 1
    exact List.map_id' _
theorem strip_cons (n : Int) (l : Bs) (ls : List Bs) : stripT (scanS n (l :: ls)) = match toks (conS l) with | none => none | some t0 => (stripT (scanS (n + 1) ls)).map (endT t0 ++ ·) := by
  simp only [scanS]
  cases toks (conS l) with
  | none => rfl
  | some t0 =>
    dsimp only
    cases scanS (n + 1) ls with
    | error e => rfl
    | ok r =>
      simp only [stripT, Option.map_some, List.map_append, strip_tag]
theorem strip_any : ∀ (ls : List Bs) (n m : Int), stripT (scanS n ls) = stripT (scanS m ls)
  | [], n, m => rfl
  | l :: ls, n, m => by rw [strip_cons, strip_cons, strip_any ls (n + 1) (m + 1)]
theorem strip_empty (n : Int) (ls : List Bs) : stripT (scanS n ([] :: ls)) = stripT (scanS n ls) := by
  rw [strip_cons]
  show (stripT (scanS (n + 1) ls)).map (endT [] ++ ·) = _
  rw [strip_any ls (n + 1) n]
  cases stripT (scanS n ls) <;> simp [endT]
theorem strip_wide : ∀ (ls : List Bs) (n m : Int), stripT (scanS n (wideS ls)) = stripT (scanS m ls)
  | [], n, m => rfl
  | [x], n, m => strip_any [x] n m
  | x :: y :: r, n, m => by
    show stripT (scanS n ((x ++ tailB) :: [] :: [] :: wideS (y :: r))) = _
    rw [strip_cons n (x ++ tailB), strip_cons m x, con_tail, strip_empty, strip_empty, strip_wide (y :: r) (n + 1) (m + 1)]
def headB : Bs := [35, 32, 104, 101, 97, 100, 10]
theorem spaces_scan (s : Bs) : stripT (scanL 0 (linesL (headB ++ wideL s))) = stripT (scanL 0 (linesL s)) := by
  rw [scan_segs _ 0 _ (Nat.le_refl _), scan_segs _ 0 _ (Nat.le_refl _)]
  have e : headB ++ wideL s = [35, 32, 104, 101, 97, 100] ++ 10 :: wideL s := rfl
  rw [e, segs_app10, segs_wide _ s (Nat.le_refl _), segs_plain (by decide)]
  show stripT (scanS 0 ([35, 32, 104, 101, 97, 100] :: wideS (segs s))) = _
  rw [strip_cons]
  show (stripT (scanS (0 + 1) (wideS (segs s)))).map (endT [] ++ ·) = _
  rw [strip_wide (segs s) (0 + 1) 0]
  cases stripT (scanS 0 (segs s)) <;> simp [endT]
theorem join_strip : ∀ (a b : List (Int × Bs × Int)) (g : Bool), a.map (fun t => (t.1, t.2.1)) = b.map (fun t => (t.1, t.2.1)) → joinF g a = joinF g b
  | [], [], g, _ => rfl
  | [], y :: b, g, h => by cases h
  | x :: a, [], g, h => by cases h
  | x :: a, y :: b, g, h => by
    simp only [List.map_cons, List.cons.injEq, Prod.mk.injEq] at h
    obtain ⟨⟨h1, h2⟩, h3⟩ := h
    unfold joinF
    rw [h1, h2, join_strip a b true h3, join_strip a b false h3]
theorem wide_le : ∀ s : Bs, (wideL s).length ≤ 14 * s.length
  | [] => by simp [wideL]
  | c :: s => by
    have ih := wide_le s
    unfold wideL
    split
    · simp [moreB]; omega
    · simp; omega
end Go.Proofs.YthlollnpnangpaaDoor
