/- Matchings: augmenting ways. -/
import Derived.Test.YtnppmemcdcgjhaaGp
namespace Go.Proofs.Ytnppmemcdcgjhaa
open Go.RowKit
set_option linter.unusedVariables false

/-- Whether a row has a column. -/
def tb (t : List (List Bool)) (r j : Nat) : Bool := (t[r]?.getD [])[j]?.getD false
def ow (O : List Nat) (j : Nat) : Nat := O[j]?.getD 0
def sn (S : List Bool) (j : Nat) : Bool := S[j]?.getD false
theorem own_set {O : List Nat} {j v : Nat} (h : j < O.length) (a : Nat) : ow (O.set j v) a = if a = j then v else ow O a := by
  unfold ow
  by_cases e : a = j
  · subst e; simp [h]
  · rw [if_neg e, List.getElem?_set_ne (by omega)]
theorem sn_set {S : List Bool} {j : Nat} (h : j < S.length) (a : Nat) : sn (S.set j true) a = if a = j then true else sn S a := by
  unfold sn
  by_cases e : a = j
  · subst e; simp [h]
  · rw [if_neg e, List.getElem?_set_ne (by omega)]
theorem sn_lt {S : List Bool} {j : Nat} (h : sn S j = true) : j < S.length := by
  unfold sn at h
  by_cases e : j < S.length
  · exact e
  · rw [List.getElem?_eq_none (by omega)] at h; simp at h
theorem count_mono : ∀ (S S' : List Bool), S.length = S'.length → (∀ j, sn S j = true → sn S' j = true) → S'.count false ≤ S.count false
  | [], [], _, _ => Nat.le_refl _
  | x :: S, y :: S', hl, h => by
    have h1 := count_mono S S' (by simpa using hl) (fun j hj => by have := h (j + 1); simp only [sn, List.getElem?_cons_succ] at this hj ⊢; exact this hj)
    have h0 := h 0
    simp only [sn, List.getElem?_cons_zero, Option.getD_some] at h0
    cases x <;> cases y <;> simp_all <;> omega
  | [], _ :: _, hl, _ => by simp at hl
  | _ :: _, [], hl, _ => by simp at hl
theorem count_set : ∀ (S : List Bool) (j : Nat), j < S.length → sn S j = false → (S.set j true).count false + 1 = S.count false
  | [], j, h, _ => by simp at h
  | x :: S, 0, _, h => by
    simp only [sn, List.getElem?_cons_zero, Option.getD_some] at h
    subst h
    simp
  | x :: S, j + 1, hl, h => by
    have := count_set S j (by simpa using hl) (by simpa [sn] using h)
    simp only [List.set_cons_succ]
    cases x <;> simp_all <;> omega

def EdgeO (t : List (List Bool)) (O : List Nat) : Prop := ∀ j, ow O j ≠ 0 → tb t (ow O j - 1) j = true
def InjO (O : List Nat) : Prop := ∀ j k, ow O j ≠ 0 → ow O j = ow O k → j = k
/-- Rows and columns: the rows have no other columns, and the columns' owners are among the rows. -/
def Shut (t : List (List Bool)) (O : List Nat) (D C : Nat → Prop) : Prop := (∀ r, D r → ∀ j, tb t r j = true → C j) ∧ ∀ j, C j → ow O j ≠ 0 ∧ D (ow O j - 1)
structure AugPre (t : List (List Bool)) (row : Nat) (O : List Nat) (S : List Bool) : Prop where
  edge : EdgeO t O
  inj : InjO O
  at_ : ∀ j, ow O j = row + 1 → sn S j = true
structure Win (t : List (List Bool)) (row : Nat) (O : List Nat) (S : List Bool) (O' : List Nat) (S' : List Bool) : Prop where
  new : ∃ k, sn S k = false ∧ sn S' k = true ∧ ow O' k = row + 1
  keep : ∀ j, sn S j = true → ow O' j = ow O j
  inj : ∀ j k, ow O' j ≠ 0 → ow O' j = ow O' k → j = k ∨ (ow O' j = row + 1 ∧ (sn S j = true ∨ sn S k = true))
  rows : ∀ r, r ≠ row → ((∃ j, ow O' j = r + 1) ↔ ∃ j, ow O j = r + 1)
  edge : EdgeO t O'
  mono : ∀ j, sn S j = true → sn S' j = true
  shut : ∀ D C, Shut t O D C → ¬ D row ∧ ∀ j, C j → ow O' j = ow O j
structure Lose (t : List (List Bool)) (row : Nat) (O : List Nat) (S S' : List Bool) (n : Nat) : Prop where
  mono : ∀ j, sn S j = true → sn S' j = true
  all : ∀ j, j < n → tb t row j = true → sn S' j = true
  clos : ∀ j, sn S' j = true → sn S j = false → ow O j ≠ 0 ∧ ∀ k, tb t (ow O j - 1) k = true → sn S' k = true

theorem lose_start {t : List (List Bool)} {row : Nat} {O : List Nat} {S : List Bool} : Lose t row O S S 0 :=
  ⟨fun _ h => h, fun j h => by omega, fun j h1 h2 => by rw [h1] at h2; cases h2⟩
theorem Lose.skip {t : List (List Bool)} {row : Nat} {O : List Nat} {S S0 : List Bool} {j : Nat} (h : Lose t row O S S0 j) (hj : tb t row j = false ∨ sn S0 j = true) : Lose t row O S S0 (j + 1) :=
  ⟨h.mono, fun a ha hb => by
    by_cases e : a = j
    · subst e
      rcases hj with hj | hj
      · rw [hb] at hj; cases hj
      · exact hj
    · exact h.all a (by omega) hb, h.clos⟩
theorem Lose.fail {t : List (List Bool)} {row : Nat} {O : List Nat} {S S0 S2 : List Bool} {j m : Nat} (h : Lose t row O S S0 j) (hj : j < S0.length) (ho : ow O j ≠ 0)
    (hr : Lose t (ow O j - 1) O (S0.set j true) S2 m) (hm : ∀ k, tb t (ow O j - 1) k = true → k < m) : Lose t row O S S2 (j + 1) := by
  have up : ∀ a, sn S0 a = true → sn S2 a = true := fun a ha => hr.mono a (by rw [sn_set hj]; split; rfl; exact ha)
  have hj2 : sn S2 j = true := hr.mono j (by rw [sn_set hj]; simp)
  refine ⟨fun a ha => up a (h.mono a ha), fun a ha hb => ?_, fun a ha hb => ?_⟩
  · by_cases e : a = j
    · subst e; exact hj2
    · exact up a (h.all a (by omega) hb)
  · by_cases e : a = j
    · subst e; exact ⟨ho, fun k hk => hr.all k (hm k hk) hk⟩
    · by_cases h0 : sn S0 a = true
      · exact ⟨(h.clos a h0 hb).1, fun k hk => up k ((h.clos a h0 hb).2 k hk)⟩
      · exact hr.clos a ha (by rw [sn_set hj, if_neg e]; simpa using h0)

theorem win_free {t : List (List Bool)} {row j : Nat} {O : List Nat} {S S0 : List Bool} (hp : AugPre t row O S) (h : Lose t row O S S0 j) (hO : j < O.length) (hS : j < S0.length) (hb : tb t row j = true) (h0 : sn S0 j = false) (ho : ow O j = 0) :
    Win t row O S (O.set j (row + 1)) (S0.set j true) := by
  have hSj : sn S j = false := by
    cases e : sn S j
    · rfl
    · rw [h.mono j e] at h0; cases h0
  refine ⟨⟨j, hSj, by rw [sn_set hS]; simp, by rw [own_set hO]; simp⟩, fun a ha => ?_, fun a b ha hab => ?_, fun r hr => ?_, fun a ha => ?_, fun a ha => ?_, fun D C hs => ?_⟩
  · rw [own_set hO, if_neg (by rintro rfl; rw [hSj] at ha; cases ha)]
  · rw [own_set hO] at ha hab ⊢
    rw [own_set hO] at hab
    by_cases ea : a = j
    · subst ea
      by_cases eb : b = a
      · exact .inl eb.symm
      · rw [if_pos rfl, if_neg eb] at hab
        exact .inr ⟨by rw [if_pos rfl], .inr (hp.at_ b hab.symm)⟩
    · rw [if_neg ea] at ha hab ⊢
      by_cases eb : b = j
      · rw [if_pos eb] at hab
        exact .inr ⟨hab, .inl (hp.at_ a hab)⟩
      · rw [if_neg eb] at hab
        exact .inl (hp.inj a b ha hab)
  · constructor
    · rintro ⟨a, ha⟩
      rw [own_set hO] at ha
      by_cases ea : a = j
      · rw [if_pos ea] at ha; omega
      · rw [if_neg ea] at ha; exact ⟨a, ha⟩
    · rintro ⟨a, ha⟩
      exact ⟨a, by rw [own_set hO, if_neg (by rintro rfl; omega)]; exact ha⟩
  · rw [own_set hO] at ha ⊢
    by_cases ea : a = j
    · subst ea; simpa using hb
    · rw [if_neg ea] at ha ⊢; exact hp.edge a ha
  · rw [sn_set hS]; split; rfl; exact h.mono a ha
  · have hc : ¬ C j := fun hc => (hs.2 j hc).1 ho
    exact ⟨fun hd => hc (hs.1 row hd j hb), fun a ha => by rw [own_set hO, if_neg (by rintro rfl; exact hc ha)]⟩

theorem win_deep {t : List (List Bool)} {row j : Nat} {O O1 : List Nat} {S S0 S2 : List Bool} (hp : AugPre t row O S) (h : Lose t row O S S0 j) (hO : j < O1.length) (hS : j < S0.length) (hb : tb t row j = true) (h0 : sn S0 j = false) (ho : ow O j ≠ 0)
    (hw : Win t (ow O j - 1) O (S0.set j true) O1 S2) : Win t row O S (O1.set j (row + 1)) S2 := by
  have hSj : sn S j = false := by
    cases e : sn S j
    · rfl
    · rw [h.mono j e] at h0; cases h0
  have up : ∀ a, sn S a = true → sn (S0.set j true) a = true := fun a ha => by rw [sn_set hS]; split; rfl; exact h.mono a ha
  have hj1 : sn (S0.set j true) j = true := by rw [sn_set hS]; simp
  have hrr : ow O j - 1 ≠ row := fun e => by
    have := hp.at_ j (by omega)
    rw [hSj] at this; cases this
  have hoj : ow O1 j = ow O j := hw.keep j hj1
  refine ⟨⟨j, hSj, hw.mono j hj1, by rw [own_set hO]; simp⟩, fun a ha => ?_, fun a b ha hab => ?_, fun r hr => ?_, fun a ha => ?_, fun a ha => hw.mono a (up a ha), fun D C hs => ?_⟩
  · rw [own_set hO, if_neg (by rintro rfl; rw [hSj] at ha; cases ha)]
    exact hw.keep a (up a ha)
  · have key : ∀ b, ow O1 b = row + 1 → sn S b = true := fun b hb1 => by
      obtain ⟨c, hc⟩ := (hw.rows row (Ne.symm hrr)).1 ⟨b, hb1⟩
      have hsc := hp.at_ c hc
      have h1 : ow O1 c = row + 1 := by rw [hw.keep c (up c hsc), hc]
      rcases hw.inj b c (by omega) (by omega) with rfl | ⟨h2, _⟩
      · exact hsc
      · omega
    rw [own_set hO] at ha hab ⊢
    rw [own_set hO] at hab
    by_cases ea : a = j
    · subst ea
      by_cases eb : b = a
      · exact .inl eb.symm
      · rw [if_pos rfl, if_neg eb] at hab
        exact .inr ⟨by rw [if_pos rfl], .inr (key b hab.symm)⟩
    · rw [if_neg ea] at ha hab ⊢
      by_cases eb : b = j
      · rw [if_pos eb] at hab
        exact .inr ⟨hab, .inl (key a hab)⟩
      · rw [if_neg eb] at hab
        rcases hw.inj a b ha hab with e | ⟨h2, h3⟩
        · exact .inl e
        · exfalso
          rcases h3 with h3 | h3
          · have := hw.keep a h3
            exact ea (hp.inj a j (by omega) (by omega))
          · have := hw.keep b h3
            exact eb (hp.inj b j (by omega) (by omega))
  · by_cases er : r = ow O j - 1
    · subst er
      constructor
      · intro _; exact ⟨j, by omega⟩
      · intro _
        obtain ⟨k, hk1, hk2, hk3⟩ := hw.new
        exact ⟨k, by rw [own_set hO, if_neg (by rintro rfl; rw [hj1] at hk1; cases hk1)]; exact hk3⟩
    · constructor
      · rintro ⟨a, ha⟩
        rw [own_set hO] at ha
        by_cases ea : a = j
        · rw [if_pos ea] at ha; omega
        · rw [if_neg ea] at ha; exact (hw.rows r er).1 ⟨a, ha⟩
      · intro hx
        obtain ⟨a, ha⟩ := (hw.rows r er).2 hx
        exact ⟨a, by rw [own_set hO, if_neg (by rintro rfl; omega)]; exact ha⟩
  · rw [own_set hO] at ha ⊢
    by_cases ea : a = j
    · subst ea; simpa using hb
    · rw [if_neg ea] at ha ⊢; exact hw.edge a ha
  · obtain ⟨h1, h2⟩ := hw.shut D C hs
    have hc : ¬ C j := fun hc => h1 (hs.2 j hc).2
    exact ⟨fun hd => hc (hs.1 row hd j hb), fun a ha => by rw [own_set hO, if_neg (by rintro rfl; exact hc ha)]; exact h2 a ha⟩
theorem AugPre.deep {t : List (List Bool)} {row j : Nat} {O : List Nat} {S S0 : List Bool} (hp : AugPre t row O S) (hS : j < S0.length) (ho : ow O j ≠ 0) : AugPre t (ow O j - 1) O (S0.set j true) :=
  ⟨hp.edge, hp.inj, fun a ha => by
    have := hp.inj a j (by omega) (by omega)
    subst this
    rw [sn_set hS]; simp⟩

end Go.Proofs.Ytnppmemcdcgjhaa
