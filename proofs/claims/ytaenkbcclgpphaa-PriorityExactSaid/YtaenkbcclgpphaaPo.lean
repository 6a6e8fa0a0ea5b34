/- Drops and the order with ranks: drops are below, and lead to whatever is below. -/
import Derived.Test.YtaenkbcclgpphaaPn
namespace Go.Proofs.Ytaenkbcclgpphaa
open Go.RowKit
set_option linter.unusedVariables false

inductive Drop1 (rs : List Int) : List Int → List Int → Prop
  | here {y z : Int} {b : List Int} (h : rk rs y ≤ rk rs z) : Drop1 rs (z :: b) (y :: z :: b)
  | there {y : Int} {d b : List Int} (h : Drop1 rs d b) : Drop1 rs (y :: d) (y :: b)
theorem Drop1.le {rs : List Int} : ∀ {d b : List Int}, Drop1 rs d b → leP rs d b = true
  | _, _, .here (y := y) (z := z) (b := b) h => leP_cons.2 (.inr ⟨h, leP_refl rs (z :: b)⟩)
  | _, _, .there h => leP_cons.2 (.inl ⟨rfl, h.le⟩)
theorem Drop1.len {rs : List Int} : ∀ {d b : List Int}, Drop1 rs d b → d.length + 1 = b.length
  | _, _, .here h => rfl
  | _, _, .there h => by simp [h.len]
theorem drop1_of {rs : List Int} : ∀ {b a : List Int}, leP rs a b = true → a ≠ b → ∃ d, Drop1 rs d b ∧ leP rs a d = true
  | b, [], h, hne => by rw [leP_nil] at h; exact absurd h.symm hne
  | [], x :: a, h, hne => by simp [leP] at h
  | y :: b, x :: a, h, hne => by
    rcases leP_cons.1 h with ⟨rfl, h1⟩ | ⟨h1, h2⟩
    · obtain ⟨d, hd, hl⟩ := drop1_of h1 (fun e => hne (by rw [e]))
      exact ⟨y :: d, .there hd, leP_cons.2 (.inl ⟨rfl, hl⟩)⟩
    · by_cases e : x :: a = b
      · subst e
        exact ⟨x :: a, .here h1, leP_refl _ _⟩
      · obtain ⟨d, hd, hl⟩ := drop1_of h2 e
        exact ⟨y :: d, .there hd, leP_cons.2 (.inr ⟨h1, hl⟩)⟩
theorem drop1_at {rs : List Int} : ∀ (b : List Int) (i : Nat), dropAt rs b i = true → Drop1 rs (withoutL b i) b
  | [], i, h => by simp [dropAt] at h
  | [y], i, h => by simp [dropAt] at h
  | y :: z :: b, 0, h => by
    unfold dropAt at h
    rw [Bool.and_eq_true, decide_eq_true_eq, decide_eq_true_eq] at h
    exact .here h.2
  | y :: z :: b, i + 1, h => by
    have h' : dropAt rs (z :: b) i = true := by
      unfold dropAt at h ⊢
      rw [Bool.and_eq_true, decide_eq_true_eq, decide_eq_true_eq] at h ⊢
      exact ⟨by have := h.1; simp only [List.length_cons] at this ⊢; omega, h.2⟩
    exact .there (drop1_at (z :: b) i h')
theorem drop1_iff {rs : List Int} {d b : List Int} : Drop1 rs d b ↔ ∃ i, dropAt rs b i = true ∧ d = withoutL b i := by
  constructor
  · intro h
    induction h with
    | @here y z b h => exact ⟨0, by unfold dropAt; rw [Bool.and_eq_true, decide_eq_true_eq, decide_eq_true_eq]; exact ⟨by simp, h⟩, rfl⟩
    | @there y d b h ih =>
      obtain ⟨i, h1, rfl⟩ := ih
      refine ⟨i + 1, ?_, rfl⟩
      unfold dropAt at h1 ⊢
      rw [Bool.and_eq_true, decide_eq_true_eq, decide_eq_true_eq] at h1 ⊢
      exact ⟨by have := h1.1; simp only [List.length_cons]; omega, h1.2⟩
  · rintro ⟨i, h1, rfl⟩
    exact drop1_at b i h1
theorem drops_iff {rs : List Int} {d b : List Int} (hb : validP rs b = true) : d ∈ dropsP rs b ↔ Drop1 rs d b := by
  unfold dropsP
  rw [if_pos hb, ascL_mem, drop1_iff]
  unfold dropK
  rw [List.mem_map]
  constructor
  · rintro ⟨i, h1, rfl⟩
    exact ⟨i, (List.mem_filter.1 h1).2, rfl⟩
  · rintro ⟨i, h1, rfl⟩
    refine ⟨i, List.mem_filter.2 ⟨List.mem_range.2 ?_, h1⟩, rfl⟩
    unfold dropAt at h1
    rw [Bool.and_eq_true, decide_eq_true_eq, decide_eq_true_eq] at h1
    omega
theorem validP_sub {rs a b : List Int} (h : a.Sublist b) (hb : validP rs b = true) : validP rs a = true := by
  have k1 := validP_le hb
  unfold validP at hb ⊢
  simp only [Bool.and_eq_true, decide_eq_true_eq, List.all_eq_true] at hb ⊢
  exact ⟨⟨hb.1.1, Nat.le_trans h.length_le hb.1.2⟩, fun z hz => hb.2 z (h.subset hz)⟩
/-- A list that holds a word, and all drops of its elements. -/
def Shut (rs : List Int) (R : List (List Int)) : Prop := ∀ d ∈ R, ∀ x ∈ dropsP rs d, x ∈ R
theorem drops_leq {rs b d : List Int} (h : d ∈ dropsP rs b) : leqP rs d b = true := by
  have hb : validP rs b = true := by
    unfold dropsP at h
    split at h
    · assumption
    · simp at h
  have h1 := ((drops_iff hb).1 h).le
  exact (leqP_iff _ _ _).2 ⟨validP_sub (leP_sub h1) hb, hb, h1⟩
theorem shut_has {rs : List Int} {R : List (List Int)} (hs : Shut rs R) {a : List Int} : ∀ (n : Nat) (b : List Int), b.length ≤ n → b ∈ R → leqP rs a b = true → a ∈ R := by
  intro n
  induction n with
  | zero =>
    intro b hn hb h
    obtain ⟨_, _, h3⟩ := (leqP_iff _ _ _).1 h
    have e := List.eq_nil_of_length_eq_zero (Nat.le_zero.1 hn)
    subst e
    cases a with
    | nil => exact hb
    | cons x a => simp [leP] at h3
  | succ n ih =>
    intro b hn hb h
    by_cases e : a = b
    · subst e; exact hb
    obtain ⟨h1, h2, h3⟩ := (leqP_iff _ _ _).1 h
    obtain ⟨d, hd, hl⟩ := drop1_of h3 e
    have hm := (drops_iff h2).2 hd
    have := hd.len
    exact ih d (by omega) (hs b hb d hm) ((leqP_iff _ _ _).2 ⟨h1, validP_sub (leP_sub hd.le) h2, hl⟩)
theorem shut_iff {rs : List Int} {R : List (List Int)} {a b : List Int} (hs : Shut rs R) (hb : b ∈ R) (hl : ∀ x ∈ R, leqP rs x b = true) : R.any (fun x => a == x) = leqP rs a b := by
  rw [Bool.eq_iff_iff, List.any_eq_true]
  constructor
  · rintro ⟨x, hx, e⟩
    rw [beq_iff_eq] at e
    rw [e]; exact hl x hx
  · intro h
    exact ⟨a, shut_has hs b.length b (Nat.le_refl _) hb h, by simp⟩
def subs : List Int → List (List Int)
  | [] => [[]]
  | x :: b => subs b ++ (subs b).map (x :: ·)
theorem subs_len : ∀ b : List Int, (subs b).length = 2 ^ b.length
  | [] => rfl
  | x :: b => by simp only [subs, List.length_append, List.length_map, subs_len b, List.length_cons, Nat.pow_succ]; omega
theorem subs_mem {a b : List Int} (h : a.Sublist b) : a ∈ subs b := by
  induction h with
  | slnil => simp [subs]
  | cons x h ih => exact List.mem_append.2 (.inl ih)
  | cons_cons x h ih => exact List.mem_append.2 (.inr (List.mem_map.2 ⟨_, ih, rfl⟩))
theorem nodup_len : ∀ (R S : List (List Int)), R.Nodup → (∀ x ∈ R, x ∈ S) → R.length ≤ S.length
  | [], S, _, _ => Nat.zero_le _
  | x :: R, S, hn, h => by
    rw [List.nodup_cons] at hn
    have h1 := nodup_len R (S.erase x) hn.2 (fun y hy => by
      have hne : y ≠ x := fun e => hn.1 (e ▸ hy)
      exact (List.mem_erase_of_ne hne).2 (h y (List.mem_cons_of_mem _ hy)))
    have h2 := h x List.mem_cons_self
    have h3 := List.length_erase_of_mem h2
    have h4 : 0 < S.length := List.length_pos_of_mem h2
    rw [List.length_cons]; omega
theorem reached_len {rs b : List Int} {R : List (List Int)} (hb : b.length ≤ 7) (hn : R.Nodup) (hl : ∀ x ∈ R, leqP rs x b = true) : R.length ≤ 128 := by
  have h1 := nodup_len R (subs b) hn (fun x hx => subs_mem (leP_sub ((leqP_iff _ _ _).1 (hl x hx)).2.2))
  rw [subs_len] at h1
  exact Nat.le_trans h1 (Nat.pow_le_pow_right (by omega) hb)
/-- What the inner loop does with one drop. -/
def addL (R : List (List Int)) (x : List Int) : List (List Int) := if R.any (fun y => x == y) then R else R ++ [x]
theorem addL_sub (R : List (List Int)) (x : List Int) : ∀ y ∈ R, y ∈ addL R x := by
  intro y hy
  unfold addL
  split
  · exact hy
  · exact List.mem_append_left _ hy
theorem addL_mem (R : List (List Int)) (x : List Int) : x ∈ addL R x := by
  unfold addL
  split
  · rename_i h
    obtain ⟨y, hy, e⟩ := List.any_eq_true.1 h
    rw [beq_iff_eq] at e
    rw [e]; exact hy
  · exact List.mem_append_right _ (List.mem_singleton.2 rfl)
theorem addL_of {R : List (List Int)} {x y : List Int} (h : y ∈ addL R x) : y ∈ R ∨ y = x := by
  unfold addL at h
  split at h
  · exact .inl h
  · rcases List.mem_append.1 h with h | h
    · exact .inl h
    · exact .inr (List.mem_singleton.1 h)
theorem addL_nodup {R : List (List Int)} {x : List Int} (h : R.Nodup) : (addL R x).Nodup := by
  unfold addL
  split
  · exact h
  · rename_i h1
    rw [List.nodup_append]
    refine ⟨h, by simp, ?_⟩
    rintro y hy z hz rfl
    have := List.mem_singleton.1 hz
    subst this
    exact h1 (List.any_eq_true.2 ⟨y, hy, by simp⟩)
theorem addL_pre (R : List (List Int)) (x : List Int) : ∃ t, addL R x = R ++ t := by
  unfold addL
  split
  · exact ⟨[], by simp⟩
  · exact ⟨[x], rfl⟩

end Go.Proofs.Ytaenkbcclgpphaa
