/- Matchings of all rows, the least one. -/
import Derived.Test.YtnppmemcdcgjhaaHc
namespace Go.Proofs.Ytnppmemcdcgjhaa
open Go.RowKit
set_option linter.unusedVariables false

theorem tb_lt0 {T : List (List Bool)} {r j : Nat} (h : tb T r j = true) : r < T.length := by
  unfold tb at h
  by_cases hr : r < T.length
  · exact hr
  · rw [List.getElem?_eq_none (show T.length ≤ r by omega)] at h; simp at h
def cl (m : List Nat) (i : Nat) : Nat := m[i]?.getD 0
/-- A matching of all rows: a column for each. -/
structure PM (T : List (List Bool)) (m : List Nat) : Prop where
  len : m.length = T.length
  edge : ∀ i, i < m.length → tb T i (cl m i) = true
  nd : m.Nodup
theorem cl_mem {m : List Nat} {i : Nat} (h : i < m.length) : cl m i ∈ m := by
  unfold cl
  rw [List.getElem?_eq_getElem h]
  exact List.getElem_mem h
theorem cl_inj {m : List Nat} (hn : m.Nodup) {i k : Nat} (hi : i < m.length) (hk : k < m.length) (h : cl m i = cl m k) : i = k := by
  unfold cl at h
  rw [List.getElem?_eq_getElem hi, List.getElem?_eq_getElem hk] at h
  simp only [Option.getD_some] at h
  rcases Nat.lt_trichotomy i k with hlt | heq | hgt
  · exact absurd h (List.pairwise_iff_getElem.1 hn i k hi hk hlt)
  · exact heq
  · exact absurd h.symm (List.pairwise_iff_getElem.1 hn k i hk hi hgt)
theorem Nu.le {T : List (List Bool)} {n : Nat} (h : Nu T n) : n ≤ T.length := by
  obtain ⟨⟨M, h1, rfl⟩, -⟩ := h
  have := len_le_of_sub h1.fst (k := List.range T.length) (fun x hx => by
    obtain ⟨p, hp, rfl⟩ := List.mem_map.1 hx
    rw [List.mem_range]
    exact tb_lt0 (h1.edge p hp))
  simpa using this
theorem mem_of_full {l k : List Nat} (hl : l.Nodup) (h : ∀ x ∈ l, x ∈ k) (he : l.length = k.length) : ∀ x ∈ k, x ∈ l := by
  intro x hx
  by_cases e : x ∈ l
  · exact e
  · have := len_le_of_sub (l := x :: l) (k := k) (List.nodup_cons.2 ⟨e, hl⟩) (fun y hy => by
      rcases List.mem_cons.1 hy with rfl | hy
      · exact hx
      · exact h y hy)
    simp only [List.length_cons] at this
    omega
open Classical in
theorem Nu.full {T : List (List Bool)} (h : Nu T T.length) : ∃ m, PM T m := by
  obtain ⟨⟨M, h1, h2⟩, -⟩ := h
  have hx : ∀ r, r < T.length → ∃ p ∈ M, p.1 = r := fun r hr => by
    have := mem_of_full (k := List.range T.length) h1.fst (fun x hx => by
      obtain ⟨p, hp, rfl⟩ := List.mem_map.1 hx
      rw [List.mem_range]
      exact tb_lt0 (h1.edge p hp)) (by simp [h2]) r (List.mem_range.2 hr)
    obtain ⟨p, hp, e⟩ := List.mem_map.1 this
    exact ⟨p, hp, e⟩
  let f : Nat → Nat := fun r => if h : ∃ p ∈ M, p.1 = r then h.choose.2 else 0
  have hf : ∀ r, r < T.length → ∃ p ∈ M, p.1 = r ∧ f r = p.2 := fun r hr => by
    refine ⟨(hx r hr).choose, (hx r hr).choose_spec.1, (hx r hr).choose_spec.2, ?_⟩
    show (if h : ∃ p ∈ M, p.1 = r then h.choose.2 else 0) = _
    rw [dif_pos (hx r hr)]
  refine ⟨(List.range T.length).map f, ⟨by simp, fun i hi => ?_, nodup_map_on List.nodup_range (fun a ha b hb e => ?_)⟩⟩
  · have hi' : i < T.length := by simpa using hi
    have e : cl ((List.range T.length).map f) i = f i := by unfold cl; simp [hi']
    rw [e]
    obtain ⟨p, hp, rfl, e2⟩ := hf i hi'
    rw [e2]
    exact h1.edge p hp
  · obtain ⟨p, hp, e1, e2⟩ := hf a (List.mem_range.1 ha)
    obtain ⟨q, hq, e3, e4⟩ := hf b (List.mem_range.1 hb)
    rw [e2, e4] at e
    have := inj_of_nodup h1.snd p hp q hq e
    rw [← e1, ← e3, this]
theorem PM.nu {T : List (List Bool)} {m : List Nat} {n : Nat} (h : PM T m) (hn : Nu T n) : n = T.length := by
  have h1 := hn.le
  have h2 := hn.2 ((List.range T.length).map (fun i => (i, cl m i))) ⟨fun p hp => by
      obtain ⟨i, hi, rfl⟩ := List.mem_map.1 hp
      exact h.edge i (by rw [h.len]; exact List.mem_range.1 hi), by
      rw [List.map_map]
      exact nodup_map_on List.nodup_range (fun a _ b _ e => e), by
      rw [List.map_map]
      exact nodup_map_on List.nodup_range (fun a ha b hb e => cl_inj h.nd (by rw [h.len]; exact List.mem_range.1 ha) (by rw [h.len]; exact List.mem_range.1 hb) e)⟩
  simp at h2
  omega
/-- A table in which the columns of a beginning are taken. -/
structure Left (T W : List (List Bool)) (c : List Nat) : Prop where
  len : W.length = T.length
  le : c.length ≤ T.length
  tb_ : ∀ x, c.length ≤ x → ∀ j, tb W x j = (tb T x j && !(c.contains j))
/-- A beginning of a matching. -/
structure Beg (T : List (List Bool)) (c : List Nat) : Prop where
  edge : ∀ i, i < c.length → tb T i (cl c i) = true
  nd : c.Nodup
theorem tb_drop (T : List (List Bool)) (k x j : Nat) : tb (T.drop k) x j = tb T (k + x) j := by
  unfold tb
  rw [List.getElem?_drop]
theorem cl_app1 {c m : List Nat} {i : Nat} (h : i < c.length) : cl (c ++ m) i = cl c i := by
  unfold cl
  rw [List.getElem?_append_left h]
theorem cl_app2 {c m : List Nat} {i : Nat} (h : c.length ≤ i) : cl (c ++ m) i = cl m (i - c.length) := by
  unfold cl
  rw [List.getElem?_append_right h]
theorem Left.pm {T W : List (List Bool)} {c m : List Nat} (h : Left T W c) (hb : Beg T c) : PM (W.drop c.length) m ↔ PM T (c ++ m) := by
  have hle := h.le
  constructor
  · intro hm
    have hml : m.length = T.length - c.length := by rw [hm.len, List.length_drop, h.len]
    have key : ∀ i, i < m.length → tb T (c.length + i) (cl m i) = true ∧ cl m i ∉ c := fun i hi => by
      have := hm.edge i hi
      rw [tb_drop, h.tb_ _ (by omega)] at this
      simpa using this
    refine ⟨by rw [List.length_append, hml]; omega, fun i hi => ?_, List.nodup_append.2 ⟨hb.nd, hm.nd, fun a ha b hb' => ?_⟩⟩
    · by_cases hi' : i < c.length
      · rw [cl_app1 hi']; exact hb.edge i hi'
      · rw [cl_app2 (by omega)]
        rw [List.length_append] at hi
        have := (key (i - c.length) (by omega)).1
        rwa [show c.length + (i - c.length) = i by omega] at this
    · rintro rfl
      obtain ⟨i, hi, e⟩ := List.getElem_of_mem hb'
      have := (key i hi).2
      rw [cl, List.getElem?_eq_getElem hi, Option.getD_some, e] at this
      exact this ha
  · intro hm
    obtain ⟨h1, h2, h3⟩ := List.nodup_append.1 hm.nd
    have hl := hm.len
    rw [List.length_append] at hl
    refine ⟨by rw [List.length_drop, h.len]; omega, fun i hi => ?_, h2⟩
    rw [tb_drop, h.tb_ _ (by omega)]
    have := hm.edge (c.length + i) (by rw [List.length_append]; omega)
    rw [cl_app2 (by omega), show c.length + i - c.length = i by omega] at this
    rw [this]
    simp only [Bool.true_and, Bool.not_eq_true', ← Bool.not_eq_true, List.contains_iff_mem]
    exact fun e => h3 _ e _ (cl_mem hi) rfl
/-- Least so far. -/
def LexLe (c d : List Nat) : Prop := c = d ∨ ∃ k, k < c.length ∧ k < d.length ∧ c.take k = d.take k ∧ cl c k < cl d k
structure MatchI (T : List (List Bool)) (W : List (List Bool)) (c : List Nat) : Prop where
  left : Left T W c
  beg : Beg T c
  some : ∃ m, PM T (c ++ m)
  least : ∀ m, PM T m → LexLe c (m.take c.length)
/-- Whether a further column can be chosen. -/
def OkAt (T : List (List Bool)) (c : List Nat) (j : Nat) : Prop := ∃ m, PM T (c ++ j :: m)
theorem MatchI.at_ {T W : List (List Bool)} {c : List Nat} (h : MatchI T W c) (hl : c.length < T.length) : ∃ j, tb W c.length j = true ∧ OkAt T c j := by
  obtain ⟨m, hm⟩ := h.some
  have h1 := hm.len
  rw [List.length_append] at h1
  cases m with
  | nil => simp at h1; omega
  | cons j m =>
    refine ⟨j, ?_, m, hm⟩
    have h2 := (h.left.pm h.beg).2 hm
    have := h2.edge 0 (by simp)
    rw [tb_drop] at this
    exact this
theorem OkAt.tb {T W : List (List Bool)} {c : List Nat} {j : Nat} (h : MatchI T W c) (ho : OkAt T c j) : tb W c.length j = true := by
  obtain ⟨m, hm⟩ := ho
  have := ((h.left.pm h.beg).2 hm).edge 0 (by simp)
  rw [tb_drop] at this
  exact this
theorem take_cons_at {m : List Nat} {i : Nat} (h : i < m.length) : m.take (i + 1) = m.take i ++ [cl m i] := by
  rw [List.take_add_one, List.getElem?_eq_getElem h]
  unfold cl
  rw [List.getElem?_eq_getElem h]
  rfl
theorem MatchI.next {T W W' : List (List Bool)} {c : List Nat} {j : Nat} (h : MatchI T W c) (hj : OkAt T c j) (hlow : ∀ k, k < j → ¬ OkAt T c k)
    (hW : W'.length = W.length) (htb : ∀ x, c.length < x → ∀ k, Go.Proofs.Ytnppmemcdcgjhaa.tb W' x k = (Go.Proofs.Ytnppmemcdcgjhaa.tb W x k && !(k == j))) : MatchI T W' (c ++ [j]) := by
  obtain ⟨m0, hm0⟩ := hj
  have hl0 := hm0.len
  rw [List.length_append, List.length_cons] at hl0
  have hn := hm0.nd
  have hb : Beg T (c ++ [j]) := by
    refine ⟨fun i hi => ?_, ?_⟩
    · have := hm0.edge i (by rw [List.length_append, List.length_cons]; rw [List.length_append, List.length_singleton] at hi; omega)
      rw [show c ++ j :: m0 = (c ++ [j]) ++ m0 by simp, cl_app1 hi] at this
      exact this
    · rw [show c ++ j :: m0 = (c ++ [j]) ++ m0 by simp] at hn
      exact (List.nodup_append.1 hn).1
  refine ⟨⟨by rw [hW, h.left.len], by rw [List.length_append, List.length_singleton]; omega, fun x hx k => ?_⟩, hb, ⟨m0, by rw [show (c ++ [j]) ++ m0 = c ++ j :: m0 by simp]; exact hm0⟩, fun m hm => ?_⟩
  · rw [List.length_append, List.length_singleton] at hx
    rw [htb x (by omega) k, h.left.tb_ x (by omega) k, Bool.and_assoc]
    congr 1
    rw [← Bool.not_or]
    congr 1
    rw [Bool.eq_iff_iff]
    simp
  · rw [List.length_append, List.length_singleton]
    have hlm : c.length < m.length := by rw [hm.len]; omega
    rw [take_cons_at hlm]
    rcases h.least m hm with e | ⟨k, h1, h2, h3, h4⟩
    · rw [← e]
      have hok : OkAt T c (cl m c.length) := by
        refine ⟨m.drop (c.length + 1), ?_⟩
        have e2 : m.take (c.length + 1) = c ++ [cl m c.length] := by
          rw [take_cons_at hlm, ← e]
        have : c ++ cl m c.length :: m.drop (c.length + 1) = m := by
          rw [show c ++ cl m c.length :: m.drop (c.length + 1) = (c ++ [cl m c.length]) ++ m.drop (c.length + 1) by simp, ← e2, List.take_append_drop]
        rw [this]; exact hm
      rcases Nat.lt_trichotomy j (cl m c.length) with hlt | heq | hgt
      · refine .inr ⟨c.length, by simp, by simp, by simp, ?_⟩
        rw [cl_app2 (Nat.le_refl _), cl_app2 (Nat.le_refl _), Nat.sub_self]
        exact hlt
      · rw [← heq]; exact .inl rfl
      · exact absurd hok (hlow _ hgt)
    · refine .inr ⟨k, by rw [List.length_append]; omega, by rw [List.length_append]; omega, ?_, ?_⟩
      · rw [List.take_append_of_le_length (by omega), List.take_append_of_le_length (by omega)]; exact h3
      · rw [cl_app1 h1, cl_app1 h2]; exact h4

end Go.Proofs.Ytnppmemcdcgjhaa
