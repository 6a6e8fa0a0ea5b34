/- Trees and how they are embedded: plain mathematics. -/
import Derived.Test.YtnppmemcdcgjhaaGp
namespace Go.Proofs.Ytnppmemcdcgjhaa
set_option linter.unusedVariables false

inductive Tr where
  | node : Int → List Tr → Tr
namespace Tr
def label : Tr → Int
  | node l _ => l
def kids : Tr → List Tr
  | node _ ks => ks
mutual
def size : Tr → Nat
  | node _ ks => sizeL ks + 1
def sizeL : List Tr → Nat
  | [] => 0
  | k :: ks => size k + sizeL ks
end
mutual
def pre : Tr → List Tr
  | node l ks => node l ks :: preL ks
def preL : List Tr → List Tr
  | [] => []
  | k :: ks => pre k ++ preL ks
end
end Tr
open Tr
theorem size_pos (t : Tr) : 1 ≤ size t := by
  cases t with
  | node l ks => rw [size]; omega
theorem size_eq (t : Tr) : size t = sizeL t.kids + 1 := by cases t; rw [size, kids]
theorem size_mem : ∀ {ks : List Tr} {k : Tr}, k ∈ ks → size k ≤ sizeL ks
  | x :: ks, k, h => by
    rw [sizeL]
    rcases List.mem_cons.1 h with rfl | h
    · omega
    · have := size_mem h; omega
theorem size_kid {t k : Tr} (h : k ∈ t.kids) : size k < size t := by
  have := size_mem h
  rw [size_eq t]; omega
theorem sizeL_len : ∀ ks : List Tr, ks.length ≤ sizeL ks
  | [] => Nat.le_refl _
  | k :: ks => by have := sizeL_len ks; have := size_pos k; rw [sizeL, List.length_cons]; omega
theorem sizeL_app : ∀ a b : List Tr, sizeL (a ++ b) = sizeL a + sizeL b
  | [], b => by rw [List.nil_append, sizeL]; omega
  | k :: ks, b => by rw [List.cons_append, sizeL, sizeL, sizeL_app ks b]; omega
theorem sizeL_snoc (ks : List Tr) (k : Tr) : sizeL (ks ++ [k]) = sizeL ks + size k := by rw [sizeL_app]; simp [sizeL]
/-- Induction on the number of nodes. -/
theorem tr_ind {P : Tr → Prop} (h : ∀ t, (∀ k, size k < size t → P k) → P t) (t : Tr) : P t := by
  have key : ∀ n t, size t ≤ n → P t := by
    intro n
    induction n with
    | zero => intro t ht; have := size_pos t; omega
    | succ n ih => intro t ht; exact h t (fun k hk => ih k (by omega))
  exact key _ t (Nat.le_refl _)
theorem pre_eq (t : Tr) : pre t = t :: preL t.kids := by cases t; rw [pre, kids]
theorem preL_app : ∀ a b : List Tr, preL (a ++ b) = preL a ++ preL b
  | [], b => by rw [List.nil_append, preL, List.nil_append]
  | k :: ks, b => by rw [List.cons_append, preL, preL, preL_app ks b, List.append_assoc]
theorem preL_one (k : Tr) : preL [k] = pre k := by rw [preL, preL, List.append_nil]
mutual
theorem len_pre : ∀ t : Tr, (pre t).length = size t
  | .node l ks => by rw [pre, size, List.length_cons, len_preL ks]
theorem len_preL : ∀ ks : List Tr, (preL ks).length = sizeL ks
  | [] => by rw [preL, sizeL]; rfl
  | k :: ks => by rw [preL, sizeL, List.length_append, len_pre k, len_preL ks]
end
/-- The nodes from position j on begin with those of the subtree there. -/
def SegL (T : List Tr) (j : Nat) (u : Tr) : Prop := ∀ n, n < size u → T[j + n]? = (pre u)[n]?
theorem seg_root {T : List Tr} {j : Nat} {u : Tr} (h : SegL T j u) : T[j]? = some u := by
  have := h 0 (size_pos u)
  rw [Nat.add_zero, pre_eq] at this
  simpa using this
theorem seg_lt {T : List Tr} {j : Nat} {u : Tr} (h : SegL T j u) : j + size u ≤ T.length := by
  have hp := size_pos u
  have := (h (size u - 1) (by omega)).trans (List.getElem?_eq_getElem (show size u - 1 < (pre u).length by rw [len_pre]; omega))
  have := (List.getElem?_eq_some_iff.1 this).1
  omega
theorem seg_pre (t : Tr) : SegL (pre t) 0 t := fun n _ => by rw [Nat.zero_add]
/-- The subtrees of the kids follow each other. -/
theorem seg_kid {T : List Tr} {j : Nat} {u : Tr} (h : SegL T j u) {i : Nat} (hi : i < u.kids.length) : SegL T (j + 1 + sizeL (u.kids.take i)) (u.kids[i]) := fun n hn => by
  have hsz : sizeL (u.kids.take i) + size (u.kids[i]) ≤ sizeL u.kids := by
    have e : u.kids = u.kids.take i ++ (u.kids[i] :: u.kids.drop (i + 1)) := by
      rw [← List.drop_eq_getElem_cons hi, List.take_append_drop]
    have e2 := congrArg sizeL e
    rw [sizeL_app, sizeL] at e2
    omega
  have h1 := h (1 + sizeL (u.kids.take i) + n) (by rw [size_eq]; omega)
  rw [show j + 1 + sizeL (u.kids.take i) + n = j + (1 + sizeL (u.kids.take i) + n) by omega, h1, pre_eq]
  rw [show 1 + sizeL (u.kids.take i) + n = (sizeL (u.kids.take i) + n) + 1 by omega, List.getElem?_cons_succ]
  have e : u.kids = u.kids.take i ++ (u.kids[i] :: u.kids.drop (i + 1)) := by
    rw [← List.drop_eq_getElem_cons hi, List.take_append_drop]
  have e2 := congrArg preL e
  rw [preL_app, preL] at e2
  rw [e2, List.getElem?_append_right (by rw [len_preL]; omega), len_preL, show sizeL (u.kids.take i) + n - sizeL (u.kids.take i) = n by omega,
    List.getElem?_append_left (by rw [len_pre]; exact hn)]
/-- A node of a subtree is a subtree. -/
theorem seg_in : ∀ (u : Tr) {T : List Tr} {j : Nat}, SegL T j u → ∀ n, n < size u → ∃ v, SegL T (j + n) v ∧ (pre u)[n]? = some v ∧ n + size v ≤ size u := by
  intro u
  induction u using tr_ind with
  | h u ih =>
    intro T j h n hn
    cases n with
    | zero => exact ⟨u, h, by rw [pre_eq]; rfl, by omega⟩
    | succ n =>
      rw [size_eq] at hn
      -- which kid
      have key : ∀ (ks : List Tr) (m : Nat), m < sizeL ks → ∃ i, ∃ hi : i < ks.length, ∃ r, m = sizeL (ks.take i) + r ∧ r < size ks[i] := by
        intro ks
        induction ks with
        | nil => intro m hm; rw [sizeL] at hm; omega
        | cons k ks ihk =>
          intro m hm
          rw [sizeL] at hm
          by_cases h1 : m < size k
          · exact ⟨0, by simp, m, by simp [sizeL], by simpa using h1⟩
          · obtain ⟨i, hi, r, h2, h3⟩ := ihk (m - size k) (by omega)
            exact ⟨i + 1, by simpa using hi, r, by rw [List.take_succ_cons, sizeL]; omega, by simpa using h3⟩
      obtain ⟨i, hi, r, h2, h3⟩ := key u.kids n (by omega)
      obtain ⟨v, hv1, hv2, hv3⟩ := ih (u.kids[i]) (size_kid (List.getElem_mem hi)) (seg_kid h hi) r h3
      have e : u.kids = u.kids.take i ++ (u.kids[i] :: u.kids.drop (i + 1)) := by
        rw [← List.drop_eq_getElem_cons hi, List.take_append_drop]
      have e2 := congrArg sizeL e
      rw [sizeL_app, sizeL] at e2
      refine ⟨v, by rw [show j + (n + 1) = j + 1 + sizeL (u.kids.take i) + r by omega]; exact hv1, ?_, by rw [size_eq u]; omega⟩
      rw [← seg_root hv1]
      have := h (n + 1) (by rw [size_eq]; omega)
      rw [show j + (n + 1) = j + 1 + sizeL (u.kids.take i) + r by omega] at this
      rw [this]
/-- The numbers of the kids. -/
def starts (n : Nat) : List Tr → List Nat
  | [] => []
  | k :: ks => n :: starts (n + size k) ks
theorem starts_len : ∀ (n : Nat) (ks : List Tr), (starts n ks).length = ks.length
  | _, [] => rfl
  | n, k :: ks => by rw [starts, List.length_cons, List.length_cons, starts_len]
theorem starts_at : ∀ (ks : List Tr) (n i : Nat), i < ks.length → (starts n ks)[i]? = some (n + sizeL (ks.take i))
  | k :: ks, n, 0, _ => by simp [starts, sizeL]
  | k :: ks, n, i + 1, h => by
    rw [starts, List.getElem?_cons_succ, starts_at ks _ i (by simpa using h), List.take_succ_cons, sizeL]
    congr 1; omega
theorem starts_snoc : ∀ (ks : List Tr) (k : Tr) (n : Nat), starts n (ks ++ [k]) = starts n ks ++ [n + sizeL ks]
  | [], k, n => by simp [starts, sizeL]
  | x :: ks, k, n => by rw [List.cons_append, starts, starts_snoc ks k, starts, sizeL, List.cons_append]; congr 3; omega
/-- What is written down for nodes that follow each other, from number n on. -/
def flE (n : Nat) : List Tr → List Int
  | [] => []
  | u :: us => ((n + size u : Nat) : Int) :: flE (n + 1) us
def flK (n : Nat) : List Tr → List (List Int)
  | [] => []
  | u :: us => (starts (n + 1) u.kids).map Int.ofNat :: flK (n + 1) us
theorem flE_len : ∀ (us : List Tr) (n : Nat), (flE n us).length = us.length
  | [], _ => rfl
  | u :: us, n => by rw [flE, List.length_cons, List.length_cons, flE_len]
theorem flK_len : ∀ (us : List Tr) (n : Nat), (flK n us).length = us.length
  | [], _ => rfl
  | u :: us, n => by rw [flK, List.length_cons, List.length_cons, flK_len]
theorem flE_app : ∀ (a b : List Tr) (n : Nat), flE n (a ++ b) = flE n a ++ flE (n + a.length) b
  | [], b, n => by simp [flE]
  | u :: us, b, n => by rw [List.cons_append, flE, flE_app us b, flE, List.cons_append, List.length_cons]; congr 3; omega
theorem flK_app : ∀ (a b : List Tr) (n : Nat), flK n (a ++ b) = flK n a ++ flK (n + a.length) b
  | [], b, n => by simp [flK]
  | u :: us, b, n => by rw [List.cons_append, flK, flK_app us b, flK, List.cons_append, List.length_cons]; congr 3; omega
theorem flE_at : ∀ (us : List Tr) (n i : Nat) (u : Tr), us[i]? = some u → (flE n us)[i]? = some ((n + i + size u : Nat) : Int)
  | x :: us, n, 0, u, h => by
    simp only [List.getElem?_cons_zero, Option.some.injEq] at h
    subst h; simp [flE]
  | x :: us, n, i + 1, u, h => by
    rw [List.getElem?_cons_succ] at h
    rw [flE, List.getElem?_cons_succ, flE_at us _ i u h]
    congr 2; omega
theorem flK_at : ∀ (us : List Tr) (n i : Nat) (u : Tr), us[i]? = some u → (flK n us)[i]? = some ((starts (n + i + 1) u.kids).map Int.ofNat)
  | x :: us, n, 0, u, h => by
    simp only [List.getElem?_cons_zero, Option.some.injEq] at h
    subst h; simp [flK]
  | x :: us, n, i + 1, u, h => by
    rw [List.getElem?_cons_succ] at h
    rw [flK, List.getElem?_cons_succ, flK_at us _ i u h]
    congr 3; omega

/-! ### Embeddings -/
mutual
inductive Emb : Tr → Tr → Prop
  | here {s t : Tr} : s.label = t.label → EmbL s.kids t.kids → Emb s t
  | under {s t u : Tr} : u ∈ t.kids → Emb s u → Emb s t
inductive EmbL : List Tr → List Tr → Prop
  | nil {ts : List Tr} : EmbL [] ts
  | take {s t : Tr} {ss ts : List Tr} : Emb s t → EmbL ss ts → EmbL (s :: ss) (t :: ts)
  | skip {t : Tr} {ss ts : List Tr} : EmbL ss ts → EmbL ss (t :: ts)
end
theorem embL_tail {s : Tr} {ss : List Tr} : ∀ {ts : List Tr}, EmbL (s :: ss) ts → EmbL ss ts
  | _, .take _ h => .skip h
  | _, .skip h => .skip (embL_tail h)
theorem embL_take {s t : Tr} {ss ts : List Tr} (h : EmbL (s :: ss) (t :: ts)) : EmbL ss ts := by
  cases h with
  | take _ h => exact h
  | skip h => exact embL_tail h
theorem embL_skip {s t : Tr} {ss ts : List Tr} (h : EmbL (s :: ss) (t :: ts)) (hn : ¬ Emb s t) : EmbL (s :: ss) ts := by
  cases h with
  | take h1 _ => exact absurd h1 hn
  | skip h => exact h
theorem embL_nil {s : Tr} {ss : List Tr} (h : EmbL (s :: ss) []) : False := by cases h
def Rooted (s u : Tr) : Prop := s.label = u.label ∧ EmbL s.kids u.kids
theorem emb_iff : ∀ (t s : Tr), Emb s t ↔ ∃ u ∈ pre t, Rooted s u := by
  intro t
  induction t using tr_ind with
  | h t ih =>
    intro s
    have hL : ∀ (ks : List Tr) (u : Tr), u ∈ preL ks ↔ ∃ k ∈ ks, u ∈ pre k := by
      intro ks
      induction ks with
      | nil => intro u; simp [preL]
      | cons k ks ihk => intro u; rw [preL, List.mem_append, ihk]; simp
    constructor
    · intro h
      cases h with
      | here h1 h2 => exact ⟨t, by rw [pre_eq]; simp, h1, h2⟩
      | under h1 h2 =>
        rename_i u
        obtain ⟨v, hv, hr⟩ := (ih u (size_kid h1) s).1 h2
        exact ⟨v, by rw [pre_eq]; exact List.mem_cons_of_mem _ ((hL _ _).2 ⟨u, h1, hv⟩), hr⟩
    · rintro ⟨u, hu, hr⟩
      rw [pre_eq] at hu
      rcases List.mem_cons.1 hu with rfl | hu
      · exact .here hr.1 hr.2
      · obtain ⟨k, hk, huk⟩ := (hL _ _).1 hu
        exact .under hk ((ih k (size_kid hk) s).2 ⟨u, huk, hr⟩)
theorem embL_refl_of : ∀ {ks : List Tr}, (∀ k ∈ ks, Emb k k) → EmbL ks ks
  | [], _ => .nil
  | k :: ks, h => .take (h k (by simp)) (embL_refl_of (fun x hx => h x (by simp [hx])))
theorem emb_refl (t : Tr) : Emb t t := by
  induction t using tr_ind with
  | h t ih => exact .here rfl (embL_refl_of fun k hk => ih k (size_kid hk))
/-- An embedded list, the sizes. -/
theorem emb_size : ∀ (t s : Tr), Emb s t → size s ≤ size t := by
  intro t
  induction t using tr_ind with
  | h t ih =>
    intro s h
    cases h with
    | here h1 h2 =>
      have key : ∀ (ts : List Tr), (∀ k ∈ ts, size k < size t) → ∀ ss, EmbL ss ts → sizeL ss ≤ sizeL ts := by
        intro ts
        induction ts with
        | nil => intro _ ss h; cases h; exact Nat.le_refl _
        | cons k ts ihk =>
          intro hs ss h
          cases h with
          | nil => rw [sizeL]; omega
          | take h3 h4 =>
            have a := ih k (hs k (by simp)) _ h3
            have b := ihk (fun x hx => hs x (by simp [hx])) _ h4
            rw [sizeL, sizeL]; omega
          | skip h4 =>
            have b := ihk (fun x hx => hs x (by simp [hx])) _ h4
            rw [sizeL.eq_2 k ts]; omega
      have := key t.kids (fun k hk => size_kid hk) _ h2
      rw [size_eq, size_eq]; omega
    | under h1 h2 =>
      have := ih _ (size_kid h1) s h2
      have := size_kid h1
      omega
theorem emb_trans : ∀ (c b a : Tr), Emb a b → Emb b c → Emb a c := by
  intro c
  induction c using tr_ind with
  | h c ih =>
    intro b
    induction b using tr_ind with
    | h b ihb =>
      intro a hab hbc
      cases hbc with
      | under h1 h2 => exact .under h1 (ih _ (size_kid h1) b a hab h2)
      | here h1 h2 =>
        cases hab with
        | here h3 h4 =>
          refine .here (h3.trans h1) ?_
          have key : ∀ (cs : List Tr), (∀ k ∈ cs, size k < size c) → ∀ bs as, EmbL bs cs → EmbL as bs → EmbL as cs := by
            intro cs
            induction cs with
            | nil => intro _ bs as h h'; cases h; exact h'
            | cons k cs ihk =>
              intro hs bs as h h'
              cases h with
              | nil => cases h'; exact .nil
              | skip h5 => exact .skip (ihk (fun x hx => hs x (by simp [hx])) _ _ h5 h')
              | take h5 h6 =>
                cases h' with
                | nil => exact .nil
                | take h7 h8 => exact .take (ih k (hs k (by simp)) _ _ h7 h5) (ihk (fun x hx => hs x (by simp [hx])) _ _ h6 h8)
                | skip h8 => exact .skip (ihk (fun x hx => hs x (by simp [hx])) _ _ h6 h8)
          exact key c.kids (fun k hk => size_kid hk) _ _ h2 h4
        | under h3 h4 =>
          -- a is within a kid of b, which is within a kid of c
          rename_i u
          have key : ∀ (cs bs : List Tr), EmbL bs cs → u ∈ bs → ∃ k ∈ cs, Emb u k := by
            intro cs
            induction cs with
            | nil => intro bs h hu; cases h; simp at hu
            | cons k cs ihk =>
              intro bs h hu
              cases h with
              | nil => simp at hu
              | take h5 h6 =>
                rcases List.mem_cons.1 hu with rfl | hu
                · exact ⟨k, by simp, h5⟩
                · obtain ⟨x, hx, hx2⟩ := ihk _ h6 hu
                  exact ⟨x, by simp [hx], hx2⟩
              | skip h6 =>
                obtain ⟨x, hx, hx2⟩ := ihk _ h6 hu
                exact ⟨x, by simp [hx], hx2⟩
          obtain ⟨k, hk, huk⟩ := key _ _ h2 h3
          exact .under hk (ih k (size_kid hk) u a h4 huk)
theorem emb_anti : ∀ (t s : Tr), Emb s t → size t ≤ size s → s = t := by
  intro t
  induction t using tr_ind with
  | h t ih =>
    intro s h hsz
    cases h with
    | under h1 h2 =>
      have := emb_size _ _ h2
      have := size_kid h1
      omega
    | here h1 h2 =>
      have key : ∀ (ts : List Tr), (∀ k ∈ ts, size k < size t) → ∀ ss, EmbL ss ts → sizeL ts ≤ sizeL ss → ss = ts := by
        intro ts
        induction ts with
        | nil => intro _ ss h _; cases h; rfl
        | cons k ts ihk =>
          intro hs ss h hle
          have szl : ∀ {ss ts : List Tr}, EmbL ss ts → sizeL ss ≤ sizeL ts := fun {ss ts} h => by
            have := emb_size (.node 0 ts) (.node 0 ss) (.here rfl h)
            rw [size, size] at this; omega
          cases h with
          | nil => have := size_pos k; simp [sizeL] at hle; omega
          | take h3 h4 =>
            have a := emb_size _ _ h3
            have b := szl h4
            rw [sizeL, sizeL] at hle
            rw [ih k (hs k (by simp)) _ h3 (by omega), ihk (fun x hx => hs x (by simp [hx])) _ h4 (by omega)]
          | skip h4 =>
            have b := szl h4
            have := size_pos k
            rw [sizeL] at hle; omega
      rw [size_eq, size_eq] at hsz
      have e := key t.kids (fun k hk => size_kid hk) _ h2 (by omega)
      cases s; cases t
      simp only [label, kids] at h1 e
      rw [h1, e]
theorem embL_app_left : ∀ (a : List Tr) {b ss : List Tr}, EmbL ss b → EmbL ss (a ++ b)
  | [], _, _, h => h
  | k :: a, _, _, h => .skip (embL_app_left a h)
theorem embL_mid : ∀ (a : List Tr) {b ss : List Tr} (k : Tr), EmbL ss (a ++ b) → EmbL ss (a ++ k :: b)
  | [], _, _, k, h => .skip h
  | x :: a, b, ss, k, h => by
    cases h with
    | nil => exact .nil
    | take h1 h2 => exact .take h1 (embL_mid a k h2)
    | skip h2 => exact .skip (embL_mid a k h2)
theorem embL_refl (ks : List Tr) : EmbL ks ks := embL_refl_of fun k _ => emb_refl k

end Go.Proofs.Ytnppmemcdcgjhaa
