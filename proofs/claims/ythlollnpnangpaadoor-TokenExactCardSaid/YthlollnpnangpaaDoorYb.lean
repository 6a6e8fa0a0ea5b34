/- token: what Scan finds, as functions of lists of bytes. -/
import Derived.Lib.Bytealg
import Derived.Lib.Strings
import Derived.Lib.IndexMore
import Derived.Lib.SlTrimSet
import Derived.Lib.ItoaNum
import Derived.Lib.Hide
namespace Go.Proofs.YthlollnpnangpaaDoor
set_option linter.unusedVariables false
abbrev Bs := List UInt8
def lettB (c : UInt8) : Bool := decide (97 ≤ c.toNat) && decide (c.toNat ≤ 122)
def digB (c : UInt8) : Bool := decide (48 ≤ c.toNat) && decide (c.toNat ≤ 57)
def wrdB (c : UInt8) : Bool := lettB c || digB c || decide (c.toNat = 95)
def blkB (c : UInt8) : Bool := ([32, 9] : Bs).contains c
def runN (s : Bs) : Nat := (s.takeWhile wrdB).length
def isWord (s : Bs) : Bool := decide (s.length ≤ 12) && (match s with | [] => false | c :: _ => lettB c) && s.all wrdB
def isNum (s : Bs) : Bool := s.all digB && decide (s.length ≤ 7) && (match s with | [] => false | c :: r => decide (c.toNat ≠ 48) || r.isEmpty)
def firstT (s : Bs) : Option (Int × Bs) :=
  if 0 < runN s then (if isWord (s.take (runN s)) then some (1, s.take (runN s)) else if isNum (s.take (runN s)) then some (2, s.take (runN s)) else none)
  else match s with
    | [] => none
    | c :: r => if c = 45 ∧ r.head? = some 62 then some (3, [45, 62]) else if c = 43 ∨ c = 58 ∨ c = 40 ∨ c = 41 then some (3, [c]) else none
def toksF : Nat → Bs → Option (List (Int × Bs))
  | 0, _ => some []
  | f + 1, s => match s.dropWhile blkB with
    | [] => some []
    | c :: r => match firstT (c :: r) with
      | none => none
      | some p => (toksF f ((c :: r).drop p.2.length)).map (p :: ·)
def toks (s : Bs) : Option (List (Int × Bs)) := toksF s.length s
theorem dropWhile_le {p : UInt8 → Bool} : ∀ s : Bs, (s.dropWhile p).length ≤ s.length
  | [] => by simp
  | c :: s => by
    rw [List.dropWhile_cons]
    split
    · have := dropWhile_le (p := p) s; simp; omega
    · exact Nat.le_refl _
theorem runN_le (s : Bs) : runN s ≤ s.length := by
  have : ∀ (s : Bs), (s.takeWhile wrdB).length ≤ s.length := fun s => by
    induction s with
    | nil => simp
    | cons c s ih => rw [List.takeWhile_cons]; split <;> simp; exact ih
  exact this s
theorem firstT_some {s : Bs} {p : Int × Bs} (h : firstT s = some p) : 0 < p.2.length ∧ p.2.length ≤ s.length ∧ p.2 = s.take p.2.length ∧ 1 ≤ p.1 ∧ p.1 ≤ 3 := by
  have hr := runN_le s
  unfold firstT at h
  split at h
  · next h0 =>
    have key : ∀ q : Int × Bs, q.2 = s.take (runN s) → 0 < q.2.length ∧ q.2.length ≤ s.length ∧ q.2 = s.take q.2.length := fun q hq => by
      have hl : q.2.length = runN s := by rw [hq, List.length_take]; omega
      exact ⟨by omega, by omega, by rw [hl, hq]⟩
    split at h
    · cases h; exact ⟨(key (1, _) rfl).1, (key (1, _) rfl).2.1, (key (1, _) rfl).2.2, Int.le_refl _, (by decide : (1 : Int) ≤ 3)⟩
    · split at h
      · cases h; exact ⟨(key (2, _) rfl).1, (key (2, _) rfl).2.1, (key (2, _) rfl).2.2, (by decide : (1 : Int) ≤ 2), (by decide : (2 : Int) ≤ 3)⟩
      · cases h
  · split at h
    · cases h
    · next c r h0 =>
      split at h
      · next h1 =>
        cases h
        obtain ⟨rfl, h2⟩ := h1
        cases r with
        | nil => simp at h2
        | cons d r => simp at h2; subst h2; simp
      · split at h
        · cases h; simp
        · cases h
theorem toksF_eq : ∀ (f : Nat) (s : Bs), s.length ≤ f → toksF f s = toks s
  | 0, s, h => by
    have : s = [] := List.eq_nil_of_length_eq_zero (by omega)
    subst this; rfl
  | f + 1, s, h => by
    unfold toks
    cases s with
    | nil => simp [toksF]
    | cons a s =>
      rw [List.length_cons]
      unfold toksF
      cases hd : (a :: s).dropWhile blkB with
      | nil => rfl
      | cons c r =>
        dsimp only
        cases hf : firstT (c :: r) with
        | none => rfl
        | some p =>
          dsimp only
          have h1 := dropWhile_le (p := blkB) (a :: s)
          rw [hd] at h1
          have h2 := firstT_some hf
          simp only [List.length_cons] at h h1
          have hl : ((c :: r).drop p.2.length).length ≤ s.length := by rw [List.length_drop, List.length_cons]; omega
          rw [toksF_eq f _ (by omega), toksF_eq s.length _ hl]
theorem toks_nil {s : Bs} (h : s.dropWhile blkB = []) : toks s = some [] := by
  unfold toks
  cases s with
  | nil => rfl
  | cons a s => rw [List.length_cons]; unfold toksF; rw [h]
theorem toks_cons {s : Bs} {c : UInt8} {r : Bs} (h : s.dropWhile blkB = c :: r) : toks s = match firstT (c :: r) with | none => none | some p => (toks ((c :: r).drop p.2.length)).map (p :: ·) := by
  unfold toks
  cases s with
  | nil => simp at h
  | cons a s =>
    rw [List.length_cons]
    conv => lhs; unfold toksF
    rw [h]
    dsimp only
    cases hf : firstT (c :: r) with
    | none => rfl
    | some p =>
      dsimp only
      have h1 := dropWhile_le (p := blkB) (a :: s)
      rw [h] at h1
      have h2 := firstT_some hf
      simp only [List.length_cons] at h1
      rw [toksF_eq s.length _ (by rw [List.length_drop, List.length_cons]; omega)]
      rfl
theorem dropWhile_twice {p : UInt8 → Bool} : ∀ s : Bs, (s.dropWhile p).dropWhile p = s.dropWhile p
  | [] => rfl
  | c :: s => by
    by_cases h : p c = true
    · rw [List.dropWhile_cons, if_pos h]; exact dropWhile_twice s
    · rw [List.dropWhile_cons, if_neg h, List.dropWhile_cons, if_neg h]
theorem toks_drop (s : Bs) : toks (s.dropWhile blkB) = toks s := by
  cases h : s.dropWhile blkB with
  | nil => rw [toks_nil h]; rfl
  | cons c r =>
    have h2 := dropWhile_twice (p := blkB) s
    rw [h] at h2
    rw [toks_cons h, toks_cons h2]
theorem toks_le : ∀ (n : Nat) (s : Bs) (ts : List (Int × Bs)), s.length ≤ n → toks s = some ts → ts.length ≤ s.length ∧ ∀ p ∈ ts, 1 ≤ p.1 ∧ p.1 ≤ 3 ∧ 0 < p.2.length ∧ p.2.length ≤ s.length
  | n, s, ts, hn, h => by
    cases hd : s.dropWhile blkB with
    | nil => rw [toks_nil hd] at h; cases h; simp
    | cons c r =>
      rw [toks_cons hd] at h
      have h1 := dropWhile_le (p := blkB) s
      rw [hd] at h1
      cases hf : firstT (c :: r) with
      | none => rw [hf] at h; cases h
      | some p =>
        rw [hf] at h
        dsimp only at h
        have h2 := firstT_some hf
        simp only [List.length_cons] at h1 h2
        cases hq : toks ((c :: r).drop p.2.length) with
        | none => rw [hq] at h; cases h
        | some q =>
          rw [hq] at h
          cases h
          have hl : ((c :: r).drop p.2.length).length = r.length + 1 - p.2.length := by rw [List.length_drop, List.length_cons]
          cases n with
          | zero => omega
          | succ n =>
            obtain ⟨h3, h4⟩ := toks_le n _ q (by omega) hq
            refine ⟨by rw [List.length_cons]; omega, fun x hx => ?_⟩
            rcases List.mem_cons.1 hx with rfl | hx
            · exact ⟨h2.2.2.2.1, h2.2.2.2.2, h2.1, by omega⟩
            · obtain ⟨a1, a2, a3, a4⟩ := h4 x hx
              exact ⟨a1, a2, a3, by omega⟩

/-! ### Lines -/
def linesF : Nat → Bs → List Bs
  | 0, _ => []
  | f + 1, s => if s = [] then [] else if (s.takeWhile (· != 10)).length = s.length then [s] else s.take ((s.takeWhile (· != 10)).length + 1) :: linesF f (s.drop ((s.takeWhile (· != 10)).length + 1))
def linesL (s : Bs) : List Bs := linesF s.length s
theorem linesF_eq : ∀ (f : Nat) (s : Bs), s.length ≤ f → linesF f s = linesL s
  | 0, s, h => by
    have : s = [] := List.eq_nil_of_length_eq_zero (by omega)
    subst this; rfl
  | f + 1, s, h => by
    unfold linesL
    cases s with
    | nil => simp [linesF]
    | cons a s =>
      rw [List.length_cons]
      unfold linesF
      simp only [List.length_cons] at h
      have hl : ((a :: s).drop (((a :: s).takeWhile (· != 10)).length + 1)).length ≤ s.length := by rw [List.length_drop, List.length_cons]; omega
      rw [linesF_eq f _ (by omega), linesF_eq s.length _ hl]
theorem linesL_nil : linesL [] = [] := rfl
theorem linesL_cons {s : Bs} (h : s ≠ []) : linesL s = if (s.takeWhile (· != 10)).length = s.length then [s] else s.take ((s.takeWhile (· != 10)).length + 1) :: linesL (s.drop ((s.takeWhile (· != 10)).length + 1)) := by
  cases s with
  | nil => exact absurd rfl h
  | cons a s =>
    conv => lhs; unfold linesL; rw [List.length_cons]; unfold linesF
    rw [if_neg h, linesF_eq s.length _ (by rw [List.length_drop, List.length_cons]; omega)]
theorem indexByte_take : ∀ s : Bs, Lib.indexByte s 10 = if (s.takeWhile (· != 10)).length = s.length then -1 else ((s.takeWhile (· != 10)).length : Int)
  | [] => rfl
  | c :: s => by
    have ih := indexByte_take s
    have hge := Lib.indexByte_ge s 10
    unfold Lib.indexByte
    by_cases h : c = 10
    · subst h; simp
    · have h1 : (c == 10) = false := by simpa using h
      have h2 : (c != 10) = true := by simpa using h
      rw [h1, List.takeWhile_cons, if_pos h2]
      simp only [List.length_cons, Nat.add_right_cancel_iff, Bool.false_eq_true, if_false]
      by_cases h3 : (s.takeWhile (· != 10)).length = s.length
      · rw [if_pos h3] at ih ⊢
        rw [ih]; rfl
      · rw [if_neg h3] at ih ⊢
        rw [ih]
        have h4 : ((((s.takeWhile (· != 10)).length : Int)) == -1) = false := by simp
        rw [h4]; simp
/-- The part of a line that is read. -/
def conL (l : Bs) : Bs := (Lib.trimSuffix l [10]).takeWhile (· != 35)
def tagL (n : Int) (ts : List (Int × Bs)) : List (Int × Bs × Int) := if ts = [] then [] else ts.map (fun p => (p.1, p.2, n)) ++ [(4, [], n)]
def scanL : Int → List Bs → Except Int (List (Int × Bs × Int))
  | _, [] => .ok []
  | n, l :: ls => match toks (conL l) with
    | none => .error (n + 1)
    | some ts => match scanL (n + 1) ls with
      | .error e => .error e
      | .ok r => .ok (tagL (n + 1) ts ++ r)
theorem scanL_append : ∀ (n : Int) (a b : List Bs), scanL n (a ++ b) = match scanL n a with | .error e => .error e | .ok r => match scanL (n + a.length) b with | .error e => .error e | .ok q => .ok (r ++ q)
  | n, [], b => by
    simp only [List.nil_append, scanL, List.length_nil, Int.natCast_zero, Int.add_zero]
    cases scanL n b <;> rfl
  | n, l :: a, b => by
    simp only [List.cons_append, scanL]
    cases toks (conL l) with
    | none => rfl
    | some ts =>
      dsimp only
      rw [scanL_append (n + 1) a b]
      have e : n + 1 + (a.length : Int) = n + ((l :: a).length : Int) := by rw [List.length_cons]; omega
      rw [e]
      cases scanL (n + 1) a with
      | error e => rfl
      | ok r =>
        dsimp only
        cases scanL (n + ((l :: a).length : Int)) b with
        | error e => rfl
        | ok q => dsimp only; rw [List.append_assoc]
theorem scanL_snoc {n : Int} {a : List Bs} {r : List (Int × Bs × Int)} (h : scanL n a = .ok r) (l : Bs) : scanL n (a ++ [l]) = match toks (conL l) with | none => .error (n + a.length + 1) | some ts => .ok (r ++ tagL (n + a.length + 1) ts) := by
  rw [scanL_append, h]
  dsimp only [scanL]
  cases toks (conL l) with
  | none => rfl
  | some ts => simp
/-- How many tokens a line can have. -/
def bulk (l : Bs) : Nat := (Lib.trimSuffix l [10]).length + 1
theorem takeWhile_le' {p : UInt8 → Bool} : ∀ s : Bs, (s.takeWhile p).length ≤ s.length
  | [] => by simp
  | c :: s => by
    rw [List.takeWhile_cons]
    split
    · have := takeWhile_le' (p := p) s; simp; omega
    · simp
theorem conL_le (l : Bs) : (conL l).length ≤ (Lib.trimSuffix l [10]).length := takeWhile_le' _
theorem tagL_le {n : Int} {l : Bs} {ts : List (Int × Bs)} (h : toks (conL l) = some ts) : (tagL n ts).length ≤ bulk l := by
  have h1 := (toks_le _ _ _ (Nat.le_refl _) h).1
  have h2 := conL_le l
  unfold tagL bulk
  split
  · simp
  · simp only [List.length_append, List.length_map, List.length_cons, List.length_nil]; omega
theorem scanL_le : ∀ (n : Int) (a : List Bs) (r : List (Int × Bs × Int)), scanL n a = .ok r → r.length ≤ (a.map bulk).sum
  | n, [], r, h => by simp [scanL] at h; subst h; simp
  | n, l :: a, r, h => by
    simp only [scanL] at h
    cases ht : toks (conL l) with
    | none => rw [ht] at h; cases h
    | some ts =>
      rw [ht] at h
      dsimp only at h
      cases hs : scanL (n + 1) a with
      | error e => rw [hs] at h; cases h
      | ok q =>
        rw [hs] at h
        cases h
        have h1 := tagL_le (n := n + 1) ht
        have h2 := scanL_le (n + 1) a q hs
        simp only [List.length_append, List.map_cons, List.sum_cons]
        omega
theorem takeWhile_at {p : UInt8 → Bool} : ∀ s : Bs, (s.takeWhile p).length ≠ s.length → ∃ c, s[(s.takeWhile p).length]? = some c ∧ p c = false
  | [], h => absurd rfl h
  | c :: s, h => by
    rw [List.takeWhile_cons] at h ⊢
    by_cases hc : p c = true
    · rw [if_pos hc] at h ⊢
      obtain ⟨d, h1, h2⟩ := takeWhile_at s (by simpa using h)
      exact ⟨d, by simpa using h1, h2⟩
    · rw [if_neg hc]
      exact ⟨c, rfl, by simpa using hc⟩
theorem trim_line {s : Bs} (h : (s.takeWhile (· != 10)).length ≠ s.length) : Lib.trimSuffix (s.take ((s.takeWhile (· != 10)).length + 1)) [10] = s.takeWhile (· != 10) := by
  obtain ⟨c, h1, h2⟩ := takeWhile_at s h
  have hle := takeWhile_le' (p := (· != 10)) s
  have hc : c = 10 := by simpa using h2
  subst hc
  have hp : s.take (s.takeWhile (· != 10)).length = s.takeWhile (· != 10) := by
    have : ∀ t : Bs, t.take (t.takeWhile (· != 10)).length = t.takeWhile (· != 10) := fun t => by
      induction t with
      | nil => rfl
      | cons d t ih =>
        rw [List.takeWhile_cons]
        split
        · simp [ih]
        · rfl
    exact this s
  have hs : s.take ((s.takeWhile (· != 10)).length + 1) = s.takeWhile (· != 10) ++ [10] := by
    rw [List.take_add_one, hp, h1]; rfl
  rw [hs]
  unfold Lib.trimSuffix Lib.hasSuffix
  have : ([10] : Bs).isSuffixOf (s.takeWhile (· != 10) ++ [10]) = true := by
    rw [List.isSuffixOf_iff_suffix]; exact List.suffix_append _ _
  rw [if_pos this]
  simp
theorem lines_bulk : ∀ (n : Nat) (s : Bs), s.length ≤ n → ((linesL s).map bulk).sum ≤ s.length + 1
  | n, s, hn => by
    by_cases h0 : s = []
    · subst h0; simp [linesL_nil]
    · rw [linesL_cons h0]
      by_cases h : (s.takeWhile (· != 10)).length = s.length
      · rw [if_pos h]
        have := Lib.trimSuffix_le s [10]
        simp [bulk]; omega
      · rw [if_neg h]
        have hle := takeWhile_le' (p := (· != 10)) s
        cases n with
        | zero => exact absurd (List.eq_nil_of_length_eq_zero (by omega)) h0
        | succ n =>
          have ih := lines_bulk n (s.drop ((s.takeWhile (· != 10)).length + 1)) (by rw [List.length_drop]; omega)
          have hb : bulk (s.take ((s.takeWhile (· != 10)).length + 1)) = (s.takeWhile (· != 10)).length + 1 := by unfold bulk; rw [trim_line h]
          rw [List.map_cons, List.sum_cons, hb]
          rw [List.length_drop] at ih
          omega
theorem bulk_ge (l : Bs) : l.length ≤ bulk l := by
  unfold bulk Lib.trimSuffix
  split
  · rw [List.length_take]; simp; omega
  · omega
theorem bulk_sum : ∀ a : List Bs, a.length ≤ (a.map bulk).sum
  | [] => by simp
  | l :: a => by
    have := bulk_sum a
    rw [List.length_cons, List.map_cons, List.sum_cons]
    unfold bulk at *
    omega
/-- Every beginning of the lines has few tokens. -/
theorem scan_few {s : Bs} {a b : List Bs} {r : List (Int × Bs × Int)} (h : linesL s = a ++ b) (hr : scanL 0 a = .ok r) : r.length ≤ s.length + 1 := by
  have h1 := scanL_le 0 a r hr
  have h2 := lines_bulk _ s (Nat.le_refl _)
  rw [h, List.map_append, List.sum_append] at h2
  omega
theorem scan_error {a b : List Bs} {e : Int} (h : scanL 0 a = .error e) : scanL 0 (a ++ b) = .error e := by
  rw [scanL_append, h]
end Go.Proofs.YthlollnpnangpaaDoor
