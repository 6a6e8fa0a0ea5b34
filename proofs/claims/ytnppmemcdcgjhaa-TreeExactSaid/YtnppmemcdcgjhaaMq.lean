/- What the law's calls answer, in one form for both sides. -/
import Derived.Test.YtnppmemcdcgjhaaMp
namespace Go.Proofs.Ytnppmemcdcgjhaa
open Go.RowKit Tr
set_option linter.unusedVariables false

theorem brL_hit : ∀ (p ts : List Tr) (t : Tr) (n i : Nat) (y : Int), ((n + sizeL p : Nat) : Int) ≤ y → y < ((n + sizeL p + size t : Nat) : Int) → brL (p ++ t :: ts) n y i = ((i + p.length : Nat) : Int)
  | [], ts, t, n, i, y, h1, h2 => by
    rw [sizeL] at h1 h2
    rw [List.nil_append, brL, if_pos ⟨by simpa using h1, by simpa using h2⟩]; rfl
  | k :: p, ts, t, n, i, y, h1, h2 => by
    rw [sizeL] at h1 h2
    rw [List.cons_append, brL, if_neg (by omega), brL_hit p ts t (n + size k) (i + 1) y (by omega) (by omega), List.length_cons]
    congr 1; omega
theorem asc_pl {t : Tr} {m : List Int} {z : Nat} : ∀ (ts ss p : List Tr) (i : Nat) (b : Int), (nodeD t z).kids = p ++ ts → PlL (pre t) m i ss (z + 1 + sizeL p) ts → b < (p.length : Int) → ascB t m z b (starts i ss) = true := by
  intro ts
  induction ts with
  | nil =>
    intro ss p i b hk h hb
    cases h with
    | nil => rfl
  | cons x ts ih =>
    intro ss p i b hk h hb
    cases h with
    | nil => rfl
    | take h1 h2 h3 h4 =>
      rename_i k s ss
      have e := brL_hit p ts x (z + 1) 0 (k : Int) (by omega) (by omega)
      have hm : m[i]?.getD 0 = (k : Int) := by cases h3 with | mk e1 => rw [e1]; rfl
      rw [starts, ascB, hm, hk, e, Nat.zero_add, decide_eq_true hb, Bool.true_and]
      refine ih ss (p ++ [x]) (i + size s) _ (by rw [hk]; simp) ?_ (by rw [List.length_append]; simp; omega)
      rw [sizeL_snoc, ← Nat.add_assoc]; exact h4
    | skip h4 =>
      refine ih ss (p ++ [x]) i b (by rw [hk]; simp) ?_ (by rw [List.length_append]; simp; omega)
      rw [sizeL_snoc, ← Nat.add_assoc]; exact h4
theorem pl_sub {T : List Tr} {m : List Int} (s : Tr) : ∀ {i n : Nat}, Pl T m i s n → ∀ q, i ≤ q → q < i + size s → ∃ v k, (pre s)[q - i]? = some v ∧ Pl T m q v k := by
  induction s using tr_ind with
  | h s ih =>
  intro i n h q h1 h2
  by_cases hq : q = i
  · subst hq
    exact ⟨s, n, by rw [Nat.sub_self, pre_eq]; rfl, h⟩
  · cases h with
    | mk e1 e2 e3 e4 =>
      have key : ∀ (ts ss : List Tr) (i n : Nat), (∀ k ∈ ss, size k < size s) → PlL T m i ss n ts → ∀ q, i ≤ q → q < i + sizeL ss → ∃ v k, (preL ss)[q - i]? = some v ∧ Pl T m q v k := by
        intro ts
        induction ts with
        | nil => intro ss i n hs h q h1 h2; cases h with
          | nil => rw [sizeL] at h2; omega
        | cons t ts iht =>
          intro ss i n hs h q h1 h2
          cases h with
          | nil => rw [sizeL] at h2; omega
          | take p1 p2 p3 p4 =>
            rename_i k x ss
            rw [sizeL] at h2
            by_cases hx : q < i + size x
            · obtain ⟨v, k', a1, a2⟩ := ih x (hs x (by simp)) p3 q h1 hx
              exact ⟨v, k', by rw [preL, List.getElem?_append_left (by rw [len_pre]; omega)]; exact a1, a2⟩
            · obtain ⟨v, k', a1, a2⟩ := iht ss _ _ (fun y hy => hs y (by simp [hy])) p4 q (by omega) (by omega)
              exact ⟨v, k', by rw [preL, List.getElem?_append_right (by rw [len_pre]; omega), len_pre, show q - i - size x = q - (i + size x) by omega]; exact a1, a2⟩
          | skip p4 => exact iht ss _ _ hs p4 q h1 h2
      rw [size_eq] at h2
      obtain ⟨v, k', a1, a2⟩ := key _ _ _ _ (fun k hk => size_kid hk) e4 q (by omega) (by omega)
      refine ⟨v, k', ?_, a2⟩
      rw [pre_eq, show q - i = (q - (i + 1)) + 1 by omega, List.getElem?_cons_succ]
      exact a1
theorem prov_pl {s t : Tr} {m : List Int} {k : Nat} (h1 : OkT s) (h2 : OkT t) (h3 : m.length = size s) (h : Pl (pre t) m 0 s k) : provB s t m = true := by
  have key : ∀ q, q < size s → labB s t m q = true ∧ kidB s t m q = true := by
    intro q hq
    obtain ⟨v, n, e1, e2⟩ := pl_sub s h q (Nat.zero_le _) (by omega)
    rw [Nat.sub_zero] at e1
    have hv : nodeD s q = v := by unfold nodeD; rw [e1]; rfl
    cases e2 with
    | mk a1 a2 a3 a4 =>
      rename_i u
      have hm : m[q]?.getD 0 = (n : Int) := by rw [a1]; rfl
      have hu : nodeD t n = u := by unfold nodeD; rw [a2]; rfl
      have hn : n < size t := by have := (List.getElem?_eq_some_iff.1 a2).1; rw [len_pre] at this; exact this
      constructor
      · unfold labB
        rw [hm, Int.toNat_natCast, hu, hv, decide_eq_true a3.symm, decide_eq_true (by omega), decide_eq_true (by omega)]; rfl
      · unfold kidB
        rw [hm, Int.toNat_natCast, hv]
        exact asc_pl u.kids v.kids [] (q + 1) (-1) (by rw [hu]; rfl) (by simpa [sizeL] using a4) (by simp)
  exact provB_true h1 h2 h3 (fun i hi => (key i hi).1) (fun i hi => (key i hi).2)

noncomputable def embB (s t : Tr) : Bool := @decide (LeqP s t) (Classical.propDecidable _)
theorem embB_iff {s t : Tr} : embB s t = true ↔ LeqP s t := by unfold embB; exact @decide_eq_true_iff _ (Classical.propDecidable _)
theorem emb_is {s t : Tr} {B : Bool} (h : B = true ↔ LeqP s t) : B = embB s t := by rw [Bool.eq_iff_iff, h, embB_iff]
theorem ok_is {t : Tr} {B : Bool} (h : B = true ↔ OkT t) : B = okB t := by rw [Bool.eq_iff_iff, h, okB_iff]
section
variable {P Q : Nat → Prop} {s t : Tr} {y z : Value} {w : World}
theorem ValidB_any (h : TrK P w y t) (hs : size t ≤ 100000) : Calls Try.prog 33 #[.agg #[.int .i64 t.label, y]] w (BoolTo (okB t) w) :=
  (ValidT_any t y w h hs).mono fun e w' h => by
    obtain ⟨B, rfl, hB, hg⟩ := h
    exact ⟨ret_bool (ok_is hB), hg⟩
theorem rValidB_any (h : TrK P w y t) (hs : size t ≤ 100000) : Calls Try.prog 34 #[.agg #[.int .i64 t.label, y]] w (BoolTo (okB t) w) :=
  (rValidT_any t y w h hs).mono fun e w' h => by
    obtain ⟨B, rfl, hB, hg⟩ := h
    exact ⟨ret_bool (ok_is hB), hg⟩
theorem LeqB_any (h : TrK P w y s) (h' : TrK Q w z t) (hs : size s ≤ 100000) (ht : size t ≤ 100000) : Calls Try.prog 37 #[.agg #[.int .i64 s.label, y], .agg #[.int .i64 t.label, z]] w (BoolTo (embB s t) w) :=
  (LeqT_any s t y z w h h' hs ht).mono fun e w' h => by
    obtain ⟨B, rfl, hB, hg⟩ := h
    exact ⟨ret_bool (emb_is hB), hg⟩
theorem rLeqB_any (h : TrK P w y s) (h' : TrK Q w z t) (hs : size s ≤ 100000) (ht : size t ≤ 100000) : Calls Try.prog 38 #[.agg #[.int .i64 s.label, y], .agg #[.int .i64 t.label, z]] w (BoolTo (embB s t) w) :=
  (rLeqT_any s t y z w h h' hs ht).mono fun e w' h => by
    obtain ⟨B, rfl, hB, hg⟩ := h
    exact ⟨ret_bool (emb_is hB), hg⟩
def EbTo (s t : Tr) (w : World) (e : Ending) (w' : World) : Prop := ∃ a c m, e = .returned (.tuple #[.slice a (List.length m) c, .bool (embB s t)]) ∧ Ints w' (.slice a (List.length m) c) m ∧ m.length ≤ 100000 ∧ (embB s t = true → provB s t m = true) ∧ (embB s t = false → m = []) ∧ w.grownBy w' none
theorem EmbedB_any (h : TrK P w y s) (h' : TrK Q w z t) (hs : size s ≤ 100000) (ht : size t ≤ 100000) : Calls Try.prog 44 #[.agg #[.int .i64 s.label, y], .agg #[.int .i64 t.label, z]] w (EbTo s t w) :=
  (Embed_any s t y z w h h' hs ht).mono fun e w' h => by
    obtain ⟨hg, (⟨h1, h2, h3, v, m, k, rfl, ho, hl, hp⟩ | ⟨hn, rfl⟩)⟩ := h
    · have hE : embB s t = true := embB_iff.2 ⟨h1, h2, h3⟩
      obtain ⟨a, c, rfl⟩ := ownI_sl ho
      have hb : ∀ x ∈ m, 0 ≤ x ∧ x ≤ 100000 := fun x hx => by
        obtain ⟨q, hq, rfl⟩ := List.getElem_of_mem hx
        obtain ⟨k', u, e1, e2, -⟩ := pl_all s hp q (Nat.zero_le _) (by omega)
        rw [List.getElem?_eq_getElem hq] at e1
        have := (List.getElem?_eq_some_iff.1 e2).1
        rw [len_pre] at this
        simp only [Option.some.injEq] at e1
        omega
      exact ⟨a, c, m, by rw [hE], ho.ints (fun x hx => by have := hb x hx; omega), by have := h1.1; omega, fun _ => prov_pl h1 h2 hl hp, (fun e => by rw [hE] at e; cases e), hg⟩
    · have hE : embB s t = false := by
        cases e : embB s t with
        | false => rfl
        | true => exact absurd (embB_iff.1 e) hn
      exact ⟨none, 0, [], by rw [hE]; rfl, ints_nil _, by simp, (fun e => by rw [hE] at e; cases e), fun _ => rfl, hg⟩
def ErTo (s t : Tr) (w : World) (e : Ending) (w' : World) : Prop := ∃ a c xs, e = .returned (.tuple #[.slice a (List.length xs) c, .bool (embB s t)]) ∧ OwnI w' w.heap.size (.slice a (List.length xs) c) xs ∧ xs.length ≤ 100000 ∧ (∀ x ∈ xs, 0 ≤ x ∧ x ≤ 2000000) ∧ w.grownBy w' none
theorem rEmbedB_any (h : TrK P w y s) (h' : TrK Q w z t) (hs : size s ≤ 100000) (ht : size t ≤ 100000) : Calls Try.prog 43 #[.agg #[.int .i64 s.label, y], .agg #[.int .i64 t.label, z]] w (ErTo s t w) :=
  (rEmbedT_any s t y z w h h' hs ht).mono fun e w' h => by
    obtain ⟨v, xs, B, rfl, ho, hB, hl, hx, hg⟩ := h
    obtain ⟨a, c, rfl⟩ := ownI_sl ho
    exact ⟨a, c, xs, by rw [emb_is hB], ho, by omega, hx, hg⟩
end

end Go.Proofs.Ytnppmemcdcgjhaa
