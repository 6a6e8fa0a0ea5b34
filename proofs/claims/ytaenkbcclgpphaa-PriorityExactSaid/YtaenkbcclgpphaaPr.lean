/- Words of falling ranks: they have no drops, and are all words without drops. -/
import Derived.Test.YtaenkbcclgpphaaPq
namespace Go.Proofs.Ytaenkbcclgpphaa
open Go.RowKit
set_option linter.unusedVariables false

theorem mem_fallA {rs : List Int} {f : Nat} {m : Int} {u : List Int} : u ∈ fallA rs (f + 1) m ↔ ∃ x : Nat, x < rs.length ∧ rs[x]?.getD 0 ≤ m ∧ ∃ v, u = (x : Int) :: v ∧ (v = [] ∨ v ∈ fallA rs f (rs[x]?.getD 0 - 1)) := by
  rw [show fallA rs (f + 1) m = ascL ((List.range rs.length).flatMap (fallX rs m (fallA rs f))) from rfl, ascL_mem, List.mem_flatMap]
  constructor
  · rintro ⟨x, hx, hu⟩
    rw [List.mem_range] at hx
    unfold fallX at hu
    split at hu
    · simp at hu
    · rcases List.mem_cons.1 hu with rfl | hu
      · exact ⟨x, hx, by omega, [], rfl, .inl rfl⟩
      · obtain ⟨v, hv, rfl⟩ := List.mem_map.1 hu
        exact ⟨x, hx, by omega, v, rfl, .inr hv⟩
  · rintro ⟨x, hx, hm, v, rfl, hv⟩
    refine ⟨x, List.mem_range.2 hx, ?_⟩
    unfold fallX
    rw [if_neg (by omega)]
    rcases hv with rfl | hv
    · exact List.mem_cons_self
    · exact List.mem_cons_of_mem _ (List.mem_map.2 ⟨v, hv, rfl⟩)
theorem rk_nat9 (rs : List Int) (x : Nat) : rk rs (x : Int) = rs[x]?.getD 0 := rfl
theorem fallA_head {rs : List Int} : ∀ {f : Nat} {m : Int} {u : List Int} {z : Int} {v : List Int}, u ∈ fallA rs f m → u = z :: v → rk rs z ≤ m
  | 0, m, u, z, v, h, _ => by simp [fallA] at h
  | f + 1, m, u, z, v, h, e => by
    obtain ⟨x, hx, hm, v', rfl, _⟩ := mem_fallA.1 h
    simp only [List.cons.injEq] at e
    rw [← e.1, rk_nat9]; exact hm
theorem fallA_drop {rs : List Int} : ∀ {f : Nat} {m : Int} {u d : List Int}, u ∈ fallA rs f m → ¬ Drop1 rs d u
  | 0, m, u, d, h => by simp [fallA] at h
  | f + 1, m, u, d, h => by
    obtain ⟨x, hx, hm, v, rfl, hv⟩ := mem_fallA.1 h
    intro hd
    rcases hv with rfl | hv
    · cases hd with
      | there h1 => cases h1
    · cases hd with
      | here h1 =>
        have h2 := fallA_head hv rfl
        rw [rk_nat9] at h1
        omega
      | there h1 => exact fallA_drop hv h1
theorem fallA_of {rs : List Int} (h0 : ∀ r ∈ rs, 0 ≤ r) : ∀ {u : List Int} {f : Nat} {m : Int}, u ≠ [] → (∀ z ∈ u, 0 ≤ z ∧ z < rs.length) → (∀ d, ¬ Drop1 rs d u) → (∀ z v, u = z :: v → rk rs z ≤ m ∧ rk rs z < f) → u ∈ fallA rs f m
  | [], f, m, hne, _, _, _ => absurd rfl hne
  | z :: v, 0, m, _, hz, _, hf => by
    exfalso
    have h1 := (hf z v rfl).2
    have h2 := hz z List.mem_cons_self
    have h3 : z.toNat < rs.length := by omega
    have h4 := h0 (rs[z.toNat]) (List.getElem_mem h3)
    unfold rk at h1
    rw [List.getElem?_eq_getElem h3] at h1
    simp only [Option.getD_some] at h1
    omega
  | z :: v, f + 1, m, _, hz, hd, hf => by
    have h2 := hz z List.mem_cons_self
    have h1 := hf z v rfl
    refine mem_fallA.2 ⟨z.toNat, by omega, h1.1, v, by rw [Int.toNat_of_nonneg h2.1], ?_⟩
    cases v with
    | nil => exact .inl rfl
    | cons y v =>
      refine .inr (fallA_of h0 (by simp) (fun c hc => hz c (List.mem_cons_of_mem _ hc)) (fun d h => hd _ (.there h)) ?_)
      intro a b e
      simp only [List.cons.injEq] at e
      obtain ⟨rfl, rfl⟩ := e
      have h3 : ¬ rk rs z ≤ rk rs y := fun h => hd _ (.here h)
      have h4 : rk rs z = rs[z.toNat]?.getD 0 := rfl
      rw [← h4]
      omega
theorem drops_none {rs b : List Int} (hb : validP rs b = true) : dropsP rs b = [] ↔ ∀ d, ¬ Drop1 rs d b := by
  rw [List.eq_nil_iff_forall_not_mem]
  exact ⟨fun h d hd => h d ((drops_iff hb).2 hd), fun h d hd => h d ((drops_iff hb).1 hd)⟩
theorem fall_valid {rs : List Int} (hr : ranksB rs = true) {f : Nat} (hf : f ≤ 12) {m : Int} {u : List Int} (h : u ∈ fallA rs f m) : validP rs u = true := by
  obtain ⟨h1, h2, h3⟩ := fallA_el rs f m u h
  unfold validP
  simp only [Bool.and_eq_true, decide_eq_true_eq, List.all_eq_true]
  exact ⟨⟨hr, by omega⟩, fun z hz => letB_in (h3 z hz).1 (h3 z hz).2⟩
theorem fall_drops {rs : List Int} (hr : ranksB rs = true) {f : Nat} (hf : f ≤ 12) {m : Int} {u : List Int} (h : u ∈ fallA rs f m) : dropsP rs u = [] :=
  (drops_none (fall_valid hr hf h)).2 fun d hd => fallA_drop h hd
theorem fall_has {rs : List Int} (hr : ranksB rs = true) (h2 : ∀ r ∈ rs, 0 ≤ r ∧ r ≤ 2) {u : List Int} (hu : validP rs u = true) (hd : dropsP rs u = []) (hne : u ≠ []) : u ∈ fallA rs 3 2 := by
  have hl := (validP_le hu).2.2
  have hz : ∀ z ∈ u, 0 ≤ z ∧ z < rs.length := fun z hz => hl z hz
  refine fallA_of (fun r h => (h2 r h).1) hne hz ((drops_none hu).1 hd) (fun z v e => ?_)
  have h3 := hz z (by rw [e]; exact List.mem_cons_self)
  have h4 : z.toNat < rs.length := by omega
  have h5 := h2 (rs[z.toNat]) (List.getElem_mem h4)
  unfold rk
  rw [List.getElem?_eq_getElem h4]
  simp only [Option.getD_some]
  exact ⟨h5.2, by omega⟩

end Go.Proofs.Ytaenkbcclgpphaa
