/- Lines of tokens do not fall. -/
import Derived.Test.YthlollnpnangpaaDoorYb
namespace Go.Proofs.YthlollnpnangpaaDoor
set_option linter.unusedVariables false
theorem lines_count : ∀ (n : Nat) (s : Bs), s.length ≤ n → (linesL s).length ≤ 1 + s.count 10
  | n, s, hn => by
    by_cases h0 : s = []
    · subst h0; simp [linesL_nil]
    · rw [linesL_cons h0]
      by_cases h : (s.takeWhile (· != 10)).length = s.length
      · rw [if_pos h]; simp
      · rw [if_neg h]
        cases n with
        | zero => exact absurd (List.eq_nil_of_length_eq_zero (by omega)) h0
        | succ n =>
          obtain ⟨c, h1, h2⟩ := takeWhile_at s h
          have hc : c = 10 := by simpa using h2
          subst hc
          have hlt : (s.takeWhile (· != 10)).length < s.length := by have := takeWhile_le' (p := (· != 10)) s; omega
          have ih := lines_count n (s.drop ((s.takeWhile (· != 10)).length + 1)) (by rw [List.length_drop]; omega)
          have e : s.count 10 = (s.take ((s.takeWhile (· != 10)).length + 1)).count 10 + (s.drop ((s.takeWhile (· != 10)).length + 1)).count 10 := by
            rw [← List.count_append, List.take_append_drop]
          have e2 : 1 ≤ (s.take ((s.takeWhile (· != 10)).length + 1)).count 10 := by
            rw [List.take_succ_eq_append_getElem hlt, List.count_append]
            have : s[(s.takeWhile (· != 10)).length] = 10 := by
              rw [List.getElem?_eq_getElem hlt] at h1
              simpa using h1
            rw [this]; simp
          rw [List.length_cons]
          omega
theorem scan_err : ∀ (n : Int) (a : List Bs) (e : Int), scanL n a = .error e → n + 1 ≤ e ∧ e ≤ n + a.length
  | n, [], e, h => by simp [scanL] at h
  | n, l :: a, e, h => by
    simp only [scanL] at h
    rw [List.length_cons]
    cases ht : toks (conL l) with
    | none => rw [ht] at h; cases h; exact ⟨Int.le_refl _, by omega⟩
    | some ts =>
      rw [ht] at h
      dsimp only at h
      cases hs : scanL (n + 1) a with
      | ok q => rw [hs] at h; cases h
      | error e2 =>
        rw [hs] at h
        cases h
        have := scan_err (n + 1) a e hs
        omega
def stepB (a b : Int × Bs × Int) : Prop := a.2.2 ≤ b.2.2 ∧ (a.2.2 < b.2.2 → a.1 = 4)
def chainB : List (Int × Bs × Int) → Prop
  | [] => True
  | [_] => True
  | a :: b :: l => stepB a b ∧ chainB (b :: l)
theorem chain_const {n : Int} : ∀ {l : List (Int × Bs × Int)}, (∀ t ∈ l, t.2.2 = n) → chainB l
  | [], _ => trivial
  | [_], _ => trivial
  | a :: b :: l, h => ⟨⟨by rw [h a (by simp), h b (by simp)]; exact Int.le_refl _, fun h1 => by rw [h a (by simp), h b (by simp)] at h1; omega⟩, chain_const (fun t ht => h t (by simp at ht ⊢; right; exact ht))⟩
theorem chain_app : ∀ {l m : List (Int × Bs × Int)}, chainB l → chainB m → (∀ a ∈ l.getLast?, ∀ b ∈ m.head?, stepB a b) → chainB (l ++ m)
  | [], m, _, h, _ => h
  | [a], [], _, _, _ => trivial
  | [a], b :: m, _, h, hs => ⟨hs a (by simp) b (by simp), h⟩
  | a :: b :: l, m, hl, hm, hs => by
    show stepB a b ∧ chainB ((b :: l) ++ m)
    exact ⟨hl.1, chain_app hl.2 hm (fun x hx y hy => hs x (by rw [List.getLast?_cons_cons]; exact hx) y hy)⟩
theorem chain_at : ∀ {l : List (Int × Bs × Int)}, chainB l → ∀ i (h : i + 1 < l.length), stepB l[i] l[i + 1]
  | [], _, i, h => by simp at h
  | [a], _, i, h => by simp at h
  | a :: b :: l, hc, 0, h => hc.1
  | a :: b :: l, hc, i + 1, h => by
    have := chain_at hc.2 i (by simpa using h)
    simpa using this
theorem tag_line {n : Int} {ts : List (Int × Bs)} : ∀ t ∈ tagL n ts, t.2.2 = n := by
  intro t ht
  unfold tagL at ht
  split at ht
  · cases ht
  · simp only [List.mem_append, List.mem_map, List.mem_singleton] at ht
    rcases ht with ⟨p, -, rfl⟩ | rfl <;> rfl
theorem tag_last {n : Int} {ts : List (Int × Bs)} : ∀ t ∈ (tagL n ts).getLast?, t.1 = 4 := by
  intro t ht
  unfold tagL at ht
  split at ht
  · cases ht
  · simp at ht; subst ht; rfl
theorem scan_lines : ∀ (n : Int) (a : List Bs) (ts : List (Int × Bs × Int)), scanL n a = .ok ts → (∀ t ∈ ts, n + 1 ≤ t.2.2 ∧ t.2.2 ≤ n + a.length) ∧ chainB ts ∧ ∀ t ∈ ts.getLast?, t.1 = 4
  | n, [], ts, h => by simp [scanL] at h; subst h; exact ⟨by simp, trivial, by simp⟩
  | n, l :: a, ts, h => by
    simp only [scanL] at h
    cases ht : toks (conL l) with
    | none => rw [ht] at h; cases h
    | some t0 =>
      rw [ht] at h
      dsimp only at h
      cases hs : scanL (n + 1) a with
      | error e => rw [hs] at h; cases h
      | ok q =>
        rw [hs] at h
        cases h
        obtain ⟨h1, h2, h3⟩ := scan_lines (n + 1) a q hs
        rw [List.length_cons]
        refine ⟨fun t hm => ?_, chain_app (chain_const tag_line) h2 (fun x hx y hy => ?_), fun t hm => ?_⟩
        · rcases List.mem_append.1 hm with hm | hm
          · rw [tag_line t hm]; omega
          · have := h1 t hm; omega
        · have e1 := tag_line x (List.mem_of_getLast? hx)
          have e2 := (h1 y (List.mem_of_head? hy)).1
          exact ⟨by omega, fun _ => tag_last x hx⟩
        · rw [List.getLast?_append] at hm
          cases hq : q.getLast? with
          | none => rw [hq] at hm; exact tag_last t (by simpa using hm)
          | some z => rw [hq] at hm; simp at hm; subst hm; exact h3 z hq
end Go.Proofs.YthlollnpnangpaaDoor
