/- word.merges. -/
import Derived.Test.YtaenkbcclgpphaaWi
namespace Go.Proofs.Ytaenkbcclgpphaa
open Go.RowKit
set_option linter.unusedVariables false

/-- The words that two words make together, letter by letter. -/
def mergesL : List Int → List Int → List Int → List (List Int)
  | f, [], b => [f ++ b]
  | f, x :: a, [] => [f ++ x :: a]
  | f, x :: a, y :: b => if x = y then mergesL (f ++ [x]) a b else mergesL (f ++ [x]) a (y :: b) ++ mergesL (f ++ [y]) (x :: a) b
termination_by _ a b => a.length + b.length

theorem mergesL_base (f a b : List Int) (h : a = [] ∨ b = []) : mergesL f a b = [f ++ (a ++ b)] := by
  rcases h with rfl | rfl
  · simp [mergesL]
  · cases a <;> simp [mergesL]
theorem mergesL_len : ∀ (n : Nat) (f a b : List Int), a.length + b.length ≤ n → 0 < (mergesL f a b).length ∧ (mergesL f a b).length ≤ 2 ^ n
  | n, f, [], b, h => by
    rw [mergesL_base f [] b (.inl rfl)]; exact ⟨by simp, Nat.one_le_two_pow⟩
  | n, f, x :: a, [], h => by
    rw [mergesL_base f (x :: a) [] (.inr rfl)]; exact ⟨by simp, Nat.one_le_two_pow⟩
  | 0, f, x :: a, y :: b, h => by simp at h
  | n + 1, f, x :: a, y :: b, h => by
    simp only [List.length_cons] at h
    rw [mergesL]
    split
    · have := mergesL_len n (f ++ [x]) a b (by omega)
      exact ⟨this.1, Nat.le_trans this.2 (Nat.pow_le_pow_right (by decide) (by omega))⟩
    · have h1 := mergesL_len n (f ++ [x]) a (y :: b) (by simp; omega)
      have h2 := mergesL_len n (f ++ [y]) (x :: a) b (by simp; omega)
      rw [List.length_append, Nat.pow_succ]
      omega

theorem OwnI.opened {w : World} {base : Nat} {v : Value} {xs : List Int} (h : OwnI w base v xs) : ∃ a n c, n = xs.length ∧ v = .slice a n c := by
  rcases h.2 with ⟨hv, h0⟩ | ⟨g, cap, cur, hv, _⟩
  · exact ⟨none, _, 0, rfl, by rw [hv, h0]⟩
  · exact ⟨_, _, cap, rfl, hv⟩

/-- A slice of slices laid out now, of one row. -/
theorem ownP_one (w : World) (base : Nat) (p : Row) (hb : base ≤ w.heap.size) (hp : RowOk w p) : OwnP (w.alloc (.cells #[p.1] 22)) base (.slice (some ⟨w.heap.size, 0, none⟩) 1 1) [p] := by
  refine ⟨World.ownsRow_lit w #[p.1] 1 hb (by decide) rfl, fun q hq => ?_⟩
  rw [List.mem_singleton.1 hq]
  refine ⟨hp.same (World.grownBy_alloc _ _ none), fun g hg e => ?_⟩
  simp only [Value.ownBlock, Option.some.injEq] at e
  subst e
  exact absurd (hp.2.2 _ hg) (Nat.lt_irrefl _)

theorem RowOk.bd {w : World} {p : Row} (h : RowOk w p) : ∀ x ∈ p.2, -9223372036854775808 ≤ x ∧ x ≤ 9223372036854775807 := by
  obtain ⟨⟨_, _, _, _, hb, _⟩, _⟩ := h
  exact hb

theorem mem_bd3 {P : Int → Prop} {f a b : List Int} (h1 : ∀ x ∈ f, P x) (h2 : ∀ x ∈ a, P x) (h3 : ∀ x ∈ b, P x) : ∀ x ∈ f ++ (a ++ b), P x := by
  intro x hx
  simp only [List.mem_append] at hx
  rcases hx with hx | hx | hx
  · exact h1 x hx
  · exact h2 x hx
  · exact h3 x hx

set_option maxRecDepth 100000 in
set_option maxHeartbeats 1000000 in
theorem merges_base (v1 v2 v3 : Value) (f a b : List Int) (w : World) (h1 : RowOk w (v1, f)) (h2 : RowOk w (v2, a)) (h3 : RowOk w (v3, b)) (h0 : a = [] ∨ b = []) (hl : f.length + (a.length + b.length) ≤ 1000) :
    Calls Try.prog 54 #[v1, v2, v3] w (MadeF (mergesL f a b) w) := by
  have H1 := Lib.hid h1; have H2 := Lib.hid h2; have H3 := Lib.hid h3
  have HM := Lib.hid (mergesL_base f a b h0)
  obtain ⟨⟨a1, c1, hv1, -, -, -⟩, -, -⟩ := h1
  obtain ⟨⟨a2, c2, hv2, -, -, -⟩, -, -⟩ := h2
  obtain ⟨⟨a3, c3, hv3, -, -, -⟩, -, -⟩ := h3
  simp only at hv1 hv2 hv3
  subst hv1 hv2 hv3
  cases hz : ((a.length : Int) == 0)
  · have hz' : ((b.length : Int) == 0) = true := by
      rcases h0 with h0 | h0
      · subst h0; simp at hz
      · subst h0; rfl
    clear h0
    go_enter Try.func54, Try.ntmps54
    go_wp2_with fail
    refine (concat_any _ [(.slice a1 f.length c1, f), (.slice a2 a.length c2, a), (.slice a3 b.length c3, b)] _ (rows_three (heap_new _ rfl) (World.grownBy_alloc _ _ none) H1.out H2.out H3.out) (by simp; omega)).mono ?_
    rintro e w1 ⟨v1, rfl, ho, hg⟩
    simp only [List.flatMap_cons, List.flatMap_nil, List.append_nil] at ho
    obtain ⟨a4, n4, c4, -, rfl⟩ := ho.opened
    have HO := Lib.hid ho; have HG := Lib.hid (grown_trans (World.grownBy_alloc _ _ none) hg)
    clear ho hg
    go_wp2_with fail
    go_ret
    refine ⟨_, [(_, f ++ (a ++ b))], rfl, ownP_one w1 _ _ HG.out.size (HO.out.row ?_), by rw [HM.out]; rfl, grown_trans HG.out (World.grownBy_alloc _ _ none), ?_⟩
    · exact mem_bd3 H1.out.bd H2.out.bd H3.out.bd
    · intro p hp g hg
      rw [List.mem_singleton.1 hp] at hg
      exact Nat.le_trans (World.grownBy_alloc w _ none).size (HO.out.fresh g hg).1
  · clear h0
    go_enter Try.func54, Try.ntmps54
    go_wp2_with fail
    refine (concat_any _ [(.slice a1 f.length c1, f), (.slice a2 a.length c2, a), (.slice a3 b.length c3, b)] _ (rows_three (heap_new _ rfl) (World.grownBy_alloc _ _ none) H1.out H2.out H3.out) (by simp; omega)).mono ?_
    rintro e w1 ⟨v1, rfl, ho, hg⟩
    simp only [List.flatMap_cons, List.flatMap_nil, List.append_nil] at ho
    obtain ⟨a4, n4, c4, -, rfl⟩ := ho.opened
    have HO := Lib.hid ho; have HG := Lib.hid (grown_trans (World.grownBy_alloc _ _ none) hg)
    clear ho hg
    go_wp2_with fail
    go_ret
    refine ⟨_, [(_, f ++ (a ++ b))], rfl, ownP_one w1 _ _ HG.out.size (HO.out.row ?_), by rw [HM.out]; rfl, grown_trans HG.out (World.grownBy_alloc _ _ none), ?_⟩
    · exact mem_bd3 H1.out.bd H2.out.bd H3.out.bd
    · intro p hp g hg
      rw [List.mem_singleton.1 hp] at hg
      exact Nat.le_trans (World.grownBy_alloc w _ none).size (HO.out.fresh g hg).1

end Go.Proofs.Ytaenkbcclgpphaa
