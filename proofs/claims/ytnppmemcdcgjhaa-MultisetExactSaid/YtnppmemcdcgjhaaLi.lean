/- MultisetExact: what both sides answer, in one form. -/
import Derived.Test.YtnppmemcdcgjhaaLh
import Derived.Test.YtnppmemcdcgjhaaHl
namespace Go.Proofs.Ytnppmemcdcgjhaa
open Go.RowKit
set_option linter.unusedVariables false

/-- A table whose blocks are not the deck's. -/
def TabN (w : World) (d : Nat) (v : Value) (ps : List BRow) : Prop := BRowsP w v ps ∧ (∀ g, v.ownBlock = some g → g ≠ d) ∧ ∀ q ∈ ps, ∀ g, q.1.ownBlock = some g → g ≠ d
theorem TabN.same {w w' : World} {d : Nat} {v : Value} {ps : List BRow} (h : TabN w d v ps) (g : w.grownBy w' none) : TabN w' d v ps := ⟨h.1.same g, h.2⟩
theorem TabN.deal {w w' : World} {d : Nat} {v : Value} {ps : List BRow} (h : TabN w d v ps) (g : w.grownBy w' (some d)) : TabN w' d v ps :=
  ⟨h.1.keptR g (by rintro k ⟨⟩ e; exact h.2.1 _ e rfl) (fun q hq k hk e => by cases hk; exact h.2.2 q hq _ e rfl), h.2⟩
theorem TabD.tabN {w : World} {d : Nat} {v : Value} {ps : List BRow} (h : TabD w d v ps) : TabN w d v ps := ⟨h.1, fun g hg => by have := h.2.2.1 g hg; omega, fun q hq g hg => by have := h.2.2.2 q hq g hg; omega⟩
def IntN (w : World) (d : Nat) (v : Value) (xs : List Int) : Prop := Ints w v xs ∧ ∀ g, v.ownBlock = some g → g ≠ d
theorem IntN.same {w w' : World} {d : Nat} {v : Value} {xs : List Int} (h : IntN w d v xs) (g : w.grownBy w' none) : IntN w' d v xs := ⟨h.1.same g, h.2⟩
theorem IntN.deal {w w' : World} {d : Nat} {v : Value} {xs : List Int} (h : IntN w d v xs) (g : w.grownBy w' (some d)) : IntN w' d v xs := ⟨h.1.kept g (by rintro k ⟨⟩ e; exact h.2 _ e rfl), h.2⟩
theorem lexLe_anti {a b : List Nat} (h : LexLe a b) (k : LexLe b a) : a = b := by
  rcases h with h | ⟨i, hi, hi', h1, h2⟩
  · exact h
  rcases k with k | ⟨j, hj, hj', k1, k2⟩
  · exact k.symm
  exfalso
  have at_ : ∀ {x y : List Nat} {n p : Nat}, x.take n = y.take n → p < n → cl x p = cl y p := fun {x y n p} e hp => by
    have := congrArg (fun l : List Nat => l[p]?) e
    simp only [List.getElem?_take, if_pos hp] at this
    unfold cl
    rw [this]
  rcases Nat.lt_trichotomy i j with e | e | e
  · have := at_ k1 e; omega
  · subst e; omega
  · have := at_ h1 e; omega
def MU (T : List (List Bool)) (b : Bool) (xs : List Int) : Prop :=
  (b = false ∧ xs = [] ∧ ¬ (validT T = true ∧ ∃ m, PM T m)) ∨ (b = true ∧ validT T = true ∧ ∃ m, xs = m.map Int.ofNat ∧ PM T m ∧ ∀ m', PM T m' → LexLe m m')
theorem MU.eq {T : List (List Bool)} {b b' : Bool} {xs xs' : List Int} (h : MU T b xs) (k : MU T b' xs') : b = b' ∧ xs = xs' := by
  rcases h with ⟨rfl, rfl, h⟩ | ⟨rfl, hv, m, rfl, hm, hl⟩ <;> rcases k with ⟨rfl, rfl, k⟩ | ⟨rfl, kv, m', rfl, km, kl⟩
  · exact ⟨rfl, rfl⟩
  · exact absurd ⟨kv, m', km⟩ h
  · exact absurd ⟨hv, m, hm⟩ k
  · rw [lexLe_anti (hl _ km) (kl _ hm)]; exact ⟨rfl, rfl⟩
def MatchU (T : List (List Bool)) (w : World) (e : Ending) (w' : World) : Prop := ∃ v b xs, e = .returned (.tuple #[v, .bool b]) ∧ Ints w' v xs ∧ w.grownBy w' none ∧ MU T b xs
theorem pm_bd {T : List (List Bool)} {m : List Nat} (h : PM T m) (hv : validT T = true) : ∀ x ∈ m.map Int.ofNat, -9223372036854775808 ≤ x ∧ x ≤ 9223372036854775807 := by
  intro x hx
  obtain ⟨y, hy, rfl⟩ := List.mem_map.1 hx
  obtain ⟨i, hi, rfl⟩ := List.getElem_of_mem hy
  have h1 := h.edge i hi
  obtain ⟨hr, hj⟩ := tb_lt h1
  have h2 := ((validT_iff.1 hv).2 _ (List.getElem_mem hr)).1
  have e : cl m i = m[i] := by unfold cl; rw [List.getElem?_eq_getElem hi]; rfl
  rw [e] at hj
  have : Int.ofNat m[i] = ((m[i] : Nat) : Int) := rfl
  omega
theorem MatchAll.u {T : List (List Bool)} {w : World} {e : Ending} {w' : World} (h : MatchAll T w e w') : MatchU T w e w' := by
  obtain ⟨hg, (⟨hn, rfl⟩ | ⟨hv, v, m, rfl, ho, hm, hl⟩)⟩ := h
  · exact ⟨_, _, [], rfl, ⟨none, 0, rfl, Nat.zero_le _, by simp, .inl rfl⟩, hg, .inl ⟨rfl, rfl, hn⟩⟩
  · exact ⟨v, true, _, rfl, ho.ints (pm_bd hm hv), hg, .inr ⟨rfl, hv, m, rfl, hm, hl⟩⟩
def MO (T : List (List Bool)) (b : Bool) (n : Nat) : Prop := (b = false ∧ n = 0 ∧ validT T = false) ∨ (b = true ∧ validT T = true ∧ Nu T n)
theorem MO.eq {T : List (List Bool)} {b b' : Bool} {n n' : Nat} (h : MO T b n) (k : MO T b' n') : b = b' ∧ n = n' := by
  rcases h with ⟨rfl, rfl, h⟩ | ⟨rfl, hv, h⟩ <;> rcases k with ⟨rfl, rfl, k⟩ | ⟨rfl, kv, k⟩
  · exact ⟨rfl, rfl⟩
  · rw [h] at kv; cases kv
  · rw [k] at hv; cases hv
  · exact ⟨rfl, h.eq k⟩
def MostU (T : List (List Bool)) (w : World) (e : Ending) (w' : World) : Prop := ∃ (n : Nat) (b : Bool), e = .returned (.tuple #[.int .i64 (n : Int), .bool b]) ∧ w.grownBy w' none ∧ MO T b n
theorem MostAll.u {T : List (List Bool)} {w : World} {e : Ending} {w' : World} (h : MostAll T w e w') : MostU T w e w' := by
  obtain ⟨hg, (⟨hn, rfl⟩ | ⟨hv, n, rfl, h⟩)⟩ := h
  · exact ⟨0, false, rfl, hg, .inl ⟨rfl, rfl, hn⟩⟩
  · exact ⟨n, true, rfl, hg, .inr ⟨rfl, hv, h⟩⟩
theorem prov_eq {p : Prop} {b b' : Bool} (h : b = true ↔ p) (k : b' = true ↔ p) : b' = b := by
  rw [Bool.eq_iff_iff]; exact k.trans h.symm

end Go.Proofs.Ytnppmemcdcgjhaa
