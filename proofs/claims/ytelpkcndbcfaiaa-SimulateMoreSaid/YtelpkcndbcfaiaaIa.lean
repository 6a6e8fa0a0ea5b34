/- Simulations of finite systems, as relations. -/
import Derived.Test.YtelpkcndbcfaiaaGp
namespace Go.Proofs.Ytelpkcndbcfaiaa
set_option linter.unusedVariables false
/-- An arc: its label, and the state to which it leads. -/
abbrev Ar := Int × Int
abbrev Sys := List (List Ar)
def arcsOf (a : Sys) (x : Nat) : List Ar := a[x]?.getD []
theorem arcs_at {a : Sys} {x : Nat} (h : x < a.length) : arcsOf a x = a[x] := by simp [arcsOf, h]
/-- All arcs lead to states. -/
def VS (a : Sys) : Prop := ∀ l ∈ a, ∀ p ∈ l, 0 ≤ p.2 ∧ p.2 < (a.length : Int)
theorem VS.at {a : Sys} (h : VS a) {x : Nat} {p : Ar} (hp : p ∈ arcsOf a x) : p.2.toNat < a.length := by
  unfold arcsOf at hp
  cases hx : a[x]? with
  | none => rw [hx] at hp; simp at hp
  | some l =>
    rw [hx] at hp
    have := h l (List.mem_of_getElem? hx) p (by simpa using hp)
    omega
def SimP (a b : Sys) (R : Nat → Nat → Prop) : Prop := ∀ x y, x < a.length → y < b.length → R x y → ∀ p ∈ arcsOf a x, ∃ q ∈ arcsOf b y, q.1 = p.1 ∧ R p.2.toNat q.2.toNat
/-- The greatest simulation. -/
def Gr (a b : Sys) (x y : Nat) : Prop := ∃ R, SimP a b R ∧ R x y
theorem gr_sim (a b : Sys) : SimP a b (Gr a b) := by
  rintro x y hx hy ⟨R, hR, hr⟩ p hp
  obtain ⟨q, hq, h1, h2⟩ := hR x y hx hy hr p hp
  exact ⟨q, hq, h1, R, hR, h2⟩
theorem gr_of {a b : Sys} {R : Nat → Nat → Prop} (h : SimP a b R) {x y : Nat} (hr : R x y) : Gr a b x y := ⟨R, h, hr⟩
theorem gr_refl (a : Sys) (x : Nat) : Gr a a x x :=
  gr_of (R := fun x y => x = y) (by rintro x y _ _ rfl p hp; exact ⟨p, hp, rfl, rfl⟩) rfl
theorem gr_trans {a b c : Sys} (hb : VS b) {x y z : Nat} (hy : y < b.length) (h1 : Gr a b x y) (h2 : Gr b c y z) : Gr a c x z := by
  refine gr_of (R := fun x z => ∃ y, y < b.length ∧ Gr a b x y ∧ Gr b c y z) ?_ ⟨y, hy, h1, h2⟩
  rintro x z hx hz ⟨y, hy, h1, h2⟩ p hp
  obtain ⟨q, hq, e1, g1⟩ := gr_sim a b x y hx hy h1 p hp
  obtain ⟨s, hs, e2, g2⟩ := gr_sim b c y z hy hz h2 q hq
  exact ⟨s, hs, by rw [e2, e1], q.2.toNat, hb.at hq, g1, g2⟩
/-- One state, three labels. -/
def all3 : Sys := [[(0, 0), (1, 0), (2, 0)]]
theorem gr_all {a : Sys} (h : ∀ l ∈ a, ∀ p ∈ l, 0 ≤ p.1 ∧ p.1 < 3) (x : Nat) : Gr a all3 x 0 := by
  refine gr_of (R := fun _ y => y = 0) ?_ rfl
  rintro x y hx _ rfl p hp
  rw [arcs_at hx] at hp
  have h1 := h _ (List.getElem_mem hx) p hp
  obtain e | e | e : p.1 = 0 ∨ p.1 = 1 ∨ p.1 = 2 := by omega
  · exact ⟨(0, 0), by simp [arcsOf, all3], e.symm, rfl⟩
  · exact ⟨(1, 0), by simp [arcsOf, all3], e.symm, rfl⟩
  · exact ⟨(2, 0), by simp [arcsOf, all3], e.symm, rfl⟩
/-- A table of Bools, read anywhere. -/
abbrev Rel := List (List Bool)
def atB (r : Rel) (x y : Nat) : Bool := (r[x]?.getD [])[y]?.getD false
def matchB (la lb : List Ar) (r : Rel) : Bool := la.all (fun p => lb.any (fun q => q.1 == p.1 && atB r p.2.toNat q.2.toNat))
theorem match_iff {la lb : List Ar} {r : Rel} : matchB la lb r = true ↔ ∀ p ∈ la, ∃ q ∈ lb, q.1 = p.1 ∧ atB r p.2.toNat q.2.toNat = true := by
  unfold matchB
  simp only [List.all_eq_true, List.any_eq_true, Bool.and_eq_true, beq_iff_eq]
/-- r holds all of the greatest simulation. -/
def Over (a b : Sys) (r : Rel) : Prop := ∀ x y, x < a.length → y < b.length → Gr a b x y → atB r x y = true
/-- What has not been found wanting is as the greatest simulation asks. -/
theorem over_drop {a b : Sys} (ha : VS a) (hb : VS b) {r : Rel} (h : Over a b r) {x y : Nat} (hx : x < a.length) (hy : y < b.length) (hm : matchB (arcsOf a x) (arcsOf b y) r = false) : ¬ Gr a b x y := by
  intro g
  have : matchB (arcsOf a x) (arcsOf b y) r = true := match_iff.2 (fun p hp => by
    obtain ⟨q, hq, e, g2⟩ := gr_sim a b x y hx hy g p hp
    exact ⟨q, hq, e, h _ _ (ha.at hp) (hb.at hq) g2⟩)
  rw [this] at hm
  cases hm
theorem over_is {a b : Sys} {r : Rel} (h : Over a b r) (hs : ∀ x y, x < a.length → y < b.length → atB r x y = true → matchB (arcsOf a x) (arcsOf b y) r = true) {x y : Nat} (hx : x < a.length) (hy : y < b.length) : atB r x y = true ↔ Gr a b x y :=
  ⟨fun g => gr_of (R := fun x y => atB r x y = true) (fun x y hx hy hr => match_iff.1 (hs x y hx hy hr)) g, h x y hx hy⟩
/-- A table with one value less. -/
def dropB (r : Rel) (x y : Nat) : Rel := r.set x ((r[x]?.getD []).set y false)
theorem at_drop (r : Rel) (x y u v : Nat) : atB (dropB r x y) u v = if u = x ∧ v = y then false else atB r u v := by
  unfold atB dropB
  by_cases hx : x < r.length
  · rw [List.getElem?_eq_getElem hx]
    simp only [Option.getD_some, List.getElem?_set]
    by_cases hu : x = u
    · subst hu
      simp only [hx, if_true, Option.getD_some, List.getElem?_set, true_and, List.getElem?_eq_getElem hx]
      by_cases hv : y = v
      · subst hv
        simp only [if_true]
        split <;> rfl
      · rw [if_neg hv, if_neg (fun e => hv e.symm)]
    · rw [if_neg hu, if_neg (fun e => hu e.1.symm)]
  · rw [List.set_eq_of_length_le (by omega)]
    by_cases h : u = x ∧ v = y
    · rw [if_pos h]; have e : r[x]? = none := List.getElem?_eq_none (by omega)
      simp [e, h.1]
    · rw [if_neg h]
end Go.Proofs.Ytelpkcndbcfaiaa
