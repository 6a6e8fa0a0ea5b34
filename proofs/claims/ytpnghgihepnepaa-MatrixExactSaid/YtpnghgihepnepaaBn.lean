/- The reference's rows are the primitive ones of the lines of the program's rows. -/
import Derived.Test.YtpnghgihepnepaaBm
namespace Go.Proofs.Ytpnghgihepnepaa
open Go.RowKit
set_option linter.unusedVariables false

theorem gcdF_mul (x : Int) : ∀ (l : List Int) (g : Nat), gcdF (g * x.natAbs) (l.map (fun y => y * x)) = gcdF g l * x.natAbs
  | [], g => rfl
  | y :: l, g => by
    show gcdF (Nat.gcd (y * x).natAbs (g * x.natAbs)) (l.map (fun y => y * x)) = gcdF (Nat.gcd y.natAbs g) l * x.natAbs
    rw [Int.natAbs_mul, Nat.gcd_mul_right, gcdF_mul x l]
theorem gcdF_mul0 (x : Int) (l : List Int) : gcdF 0 (l.map (fun y => y * x)) = gcdF 0 l * x.natAbs := by
  have := gcdF_mul x l 0
  rwa [Nat.zero_mul] at this
theorem gcdF_none {l : List Int} (h : gcdF 0 l = 0) (j : Nat) : l[j]?.getD 0 = 0 := by
  cases e : l[j]? with
  | none => rfl
  | some x =>
    have h1 := ((gcdF_dvd 0 l 0).1 (by rw [h]; exact Nat.dvd_refl 0)).2 x (List.mem_of_getElem? e)
    have := Nat.eq_zero_of_zero_dvd h1
    show x = 0
    omega
theorem prim_fac (u : List Int) : ∃ g : Nat, 1 ≤ g ∧ (∀ j : Nat, u[j]?.getD 0 = (primL u)[j]?.getD 0 * (g : Int)) ∧ gcdF 0 (primL u) ≤ 1 := by
  by_cases h : 1 < gcdF 0 u
  · refine ⟨gcdF 0 u, by omega, fun j => ?_, ?_⟩
    · unfold primL
      rw [if_pos h, List.getElem?_map]
      cases e : u[j]? with
      | none => simp
      | some x =>
        have h1 := ((gcdF_dvd (gcdF 0 u) u 0).1 (Nat.dvd_refl _)).2 x (List.mem_of_getElem? e)
        show x = x.tdiv _ * _
        rw [Int.tdiv_mul_cancel (by rw [← Int.natAbs_dvd_natAbs, Int.natAbs_natCast]; exact h1)]
    · have hu : (primL u).map (fun y => y * ((gcdF 0 u : Nat) : Int)) = u := by
        unfold primL
        rw [if_pos h, List.map_map]
        conv => rhs; rw [← List.map_id u]
        refine List.map_congr_left (fun x hx => ?_)
        have h1 := ((gcdF_dvd (gcdF 0 u) u 0).1 (Nat.dvd_refl _)).2 x hx
        exact Int.tdiv_mul_cancel (by rw [← Int.natAbs_dvd_natAbs, Int.natAbs_natCast]; exact h1)
      have h2 := gcdF_mul0 ((gcdF 0 u : Nat) : Int) (primL u)
      rw [hu, Int.natAbs_natCast] at h2
      have h3 : gcdF 0 (primL u) * gcdF 0 u = 1 * gcdF 0 u := by omega
      have := Nat.eq_of_mul_eq_mul_right (by omega) h3
      omega
  · refine ⟨1, Nat.le_refl _, fun j => ?_, ?_⟩
    · unfold primL; rw [if_neg h]; simp
    · unfold primL; rw [if_neg h]; omega
/-- R is the primitive row of the line of B. -/
structure PropR (R B : List Int) : Prop where
  len : R.length = B.length
  mul : ∃ μ : Int, μ ≠ 0 ∧ ∀ j : Nat, B[j]?.getD 0 = R[j]?.getD 0 * μ
  prim : gcdF 0 R ≤ 1
theorem PropR.zero {R B : List Int} (h : PropR R B) (j : Nat) : R[j]?.getD 0 = 0 ↔ B[j]?.getD 0 = 0 := by
  obtain ⟨μ, h1, h2⟩ := h.mul
  rw [h2 j]
  constructor
  · intro e; rw [e, Int.zero_mul]
  · intro e
    rcases Int.mul_eq_zero.1 e with e | e
    · exact e
    · exact absurd e h1
theorem PropR.bd {R B : List Int} (h : PropR R B) (j : Nat) : (R[j]?.getD 0).natAbs ≤ (B[j]?.getD 0).natAbs := by
  obtain ⟨μ, h1, h2⟩ := h.mul
  rw [h2 j, Int.natAbs_mul]
  exact Nat.le_mul_of_pos_right _ (by omega)
theorem prim_prop {u B : List Int} {s t : Int} (hs : s ≠ 0) (ht : t ≠ 0) (hl : u.length = B.length) (h : ∀ j : Nat, u[j]?.getD 0 * s = B[j]?.getD 0 * t) : PropR (primL u) B := by
  obtain ⟨g, hg1, hg, hp⟩ := prim_fac u
  refine ⟨by rw [primL_len]; exact hl, ?_, hp⟩
  have hR : ∀ j : Nat, (primL u)[j]?.getD 0 * ((g : Int) * s) = B[j]?.getD 0 * t := fun j => by rw [← h j, hg j, Int.mul_assoc]
  generalize primL u = R at *
  have ha : (g : Int) * s ≠ 0 := Int.mul_ne_zero (by omega) hs
  generalize (g : Int) * s = a at *
  by_cases h0 : gcdF 0 R = 0
  · refine ⟨1, by omega, fun j => ?_⟩
    have h1 := gcdF_none h0 j
    have h2 := hR j
    rw [h1, Int.zero_mul] at h2
    rw [h1, Int.zero_mul]
    rcases Int.mul_eq_zero.1 h2.symm with e | e
    · exact e
    · exact absurd e ht
  · have h1 : gcdF 0 R = 1 := by omega
    have hd : t.natAbs ∣ gcdF 0 (R.map (fun y => y * a)) := (gcdF_dvd _ _ _).2 ⟨Nat.dvd_zero _, fun x hx => by
      obtain ⟨y, hy, rfl⟩ := List.mem_map.1 hx
      obtain ⟨j, hj, rfl⟩ := List.mem_iff_getElem.1 hy
      have h2 := hR j
      rw [List.getElem?_eq_getElem hj] at h2
      simp only [Option.getD_some] at h2
      rw [h2, Int.natAbs_mul]
      exact Nat.dvd_mul_left _ _⟩
    rw [gcdF_mul0, h1, Nat.one_mul, Int.natAbs_dvd_natAbs] at hd
    obtain ⟨μ, rfl⟩ := hd
    refine ⟨μ, fun e => ha (by rw [e, Int.mul_zero]), fun j => ?_⟩
    have h2 := hR j
    have h3 : t * (R[j]?.getD 0 * μ) = t * B[j]?.getD 0 := by
      rw [Int.mul_comm t (B[j]?.getD 0), ← h2, Int.mul_left_comm]
    exact (Int.eq_of_mul_eq_mul_left ht h3).symm
theorem prim_same {R : List Int} (h : gcdF 0 R ≤ 1) : primL R = R := by unfold primL; rw [if_neg (by omega)]
/-- What the reference does with a row that is no pivot's. -/
def comboL (x y : Int) (row top : List Int) : List Int := List.zipWith (fun a b => a * x - y * b) row top
theorem comboL_at {x y : Int} {row top : List Int} (h : row.length = top.length) (j : Nat) : (comboL x y row top)[j]?.getD 0 = row[j]?.getD 0 * x - y * top[j]?.getD 0 := by
  unfold comboL
  rw [List.getElem?_zipWith]
  by_cases h1 : j < row.length
  · rw [List.getElem?_eq_getElem h1, List.getElem?_eq_getElem (show j < top.length by omega)]; rfl
  · rw [List.getElem?_eq_none (show row.length ≤ j by omega), List.getElem?_eq_none (show top.length ≤ j by omega)]; simp
def relim (c : Nat) (top row : List Int) : List Int :=
  if row[c]?.getD 0 = 0 then row else primL (comboL ((top[c]?.getD 0).tdiv (Nat.gcd (top[c]?.getD 0).natAbs (row[c]?.getD 0).natAbs : Nat)) ((row[c]?.getD 0).tdiv (Nat.gcd (top[c]?.getD 0).natAbs (row[c]?.getD 0).natAbs : Nat)) row top)
theorem gcd_parts (a b : Int) (hb : b ≠ 0) : ∃ g : Int, 0 < g ∧ g = ((Nat.gcd a.natAbs b.natAbs : Nat) : Int) ∧ a.tdiv g * g = a ∧ b.tdiv g * g = b := by
  refine ⟨((Nat.gcd a.natAbs b.natAbs : Nat) : Int), ?_, rfl, ?_, ?_⟩
  · have : 0 < Nat.gcd a.natAbs b.natAbs := Nat.gcd_pos_of_pos_right _ (by omega)
    omega
  · exact Int.tdiv_mul_cancel (by rw [← Int.natAbs_dvd_natAbs, Int.natAbs_natCast]; exact Nat.gcd_dvd_left _ _)
  · exact Int.tdiv_mul_cancel (by rw [← Int.natAbs_dvd_natAbs, Int.natAbs_natCast]; exact Nat.gcd_dvd_right _ _)
theorem relim_prop {c : Nat} {rt bt row b b' : List Int} {f : Int} (ht : PropR rt bt) (hr : PropR row b) (hl : row.length = rt.length) (hb : b'.length = b.length) (hf : f ≠ 0) (hL : bt[c]?.getD 0 ≠ 0)
    (he : ∀ j : Nat, b'[j]?.getD 0 * f = b[j]?.getD 0 * bt[c]?.getD 0 - b[c]?.getD 0 * bt[j]?.getD 0) : PropR (relim c rt row) b' := by
  obtain ⟨μ, hμ, hμ2⟩ := ht.mul
  obtain ⟨ν, hν, hν2⟩ := hr.mul
  have ht0 : rt[c]?.getD 0 ≠ 0 := fun e => hL ((ht.zero c).1 e)
  unfold relim
  by_cases h0 : row[c]?.getD 0 = 0
  · rw [if_pos h0]
    have hb0 := (hr.zero c).1 h0
    have := prim_prop (u := row) (B := b') (s := ν * bt[c]?.getD 0) (t := f) (Int.mul_ne_zero hν hL) hf (by rw [hb]; exact hr.len) (fun j => by
      rw [he j, hb0, Int.zero_mul, Int.sub_zero, hν2 j, Int.mul_assoc])
    rwa [prim_same hr.prim] at this
  · rw [if_neg h0]
    obtain ⟨g, hg0, hge, hx, hy⟩ := gcd_parts (rt[c]?.getD 0) (row[c]?.getD 0) h0
    rw [← hge]
    refine prim_prop (s := g * (μ * ν)) (t := f) (Int.mul_ne_zero (by omega) (Int.mul_ne_zero hμ hν)) hf (by unfold comboL; rw [List.length_zipWith, hb, ← hr.len]; omega) (fun j => ?_)
    rw [comboL_at hl, he j, hν2 j, hν2 c, hμ2 c, hμ2 j]
    generalize (rt[c]?.getD 0).tdiv g = x at *
    generalize (row[c]?.getD 0).tdiv g = y at *
    generalize rt[c]?.getD 0 = tc at *
    generalize row[c]?.getD 0 = rc at *
    generalize rt[j]?.getD 0 = tj at *
    generalize row[j]?.getD 0 = rj at *
    subst hx
    subst hy
    grind
theorem relim_pos {c p : Nat} {rt row : List Int} (hl : row.length = rt.length) (hc : 0 < rt[c]?.getD 0) (hp : rt[p]?.getD 0 = 0) (hr : 0 < row[p]?.getD 0) : 0 < (relim c rt row)[p]?.getD 0 := by
  unfold relim
  by_cases h0 : row[c]?.getD 0 = 0
  · rw [if_pos h0]; exact hr
  · rw [if_neg h0]
    obtain ⟨g, hg0, hge, hx, hy⟩ := gcd_parts (rt[c]?.getD 0) (row[c]?.getD 0) h0
    rw [← hge]
    obtain ⟨k, hk1, hk, -⟩ := prim_fac (comboL ((rt[c]?.getD 0).tdiv g) ((row[c]?.getD 0).tdiv g) row rt)
    have h1 := hk p
    rw [comboL_at hl, hp, Int.mul_zero, Int.sub_zero] at h1
    have hx0 : 0 < (rt[c]?.getD 0).tdiv g := by
      by_cases e : 0 < (rt[c]?.getD 0).tdiv g
      · exact e
      · have := Int.mul_nonpos_of_nonpos_of_nonneg (show (rt[c]?.getD 0).tdiv g ≤ 0 by omega) (show 0 ≤ g by omega)
        omega
    have h2 := Int.mul_pos hr hx0
    rw [h1] at h2
    by_cases e : 0 < (primL (comboL ((rt[c]?.getD 0).tdiv g) ((row[c]?.getD 0).tdiv g) row rt))[p]?.getD 0
    · exact e
    · have := Int.mul_nonpos_of_nonpos_of_nonneg (show (primL (comboL ((rt[c]?.getD 0).tdiv g) ((row[c]?.getD 0).tdiv g) row rt))[p]?.getD 0 ≤ 0 by omega) (show 0 ≤ (k : Int) by omega)
      omega
/-- A row that is turned round. -/
theorem neg_prop {R B : List Int} (h : PropR R B) : PropR (timesL (-1) R) B := by
  obtain ⟨μ, h1, h2⟩ := h.mul
  refine ⟨by unfold timesL; rw [List.length_map]; exact h.len, ⟨-μ, by omega, fun j => ?_⟩, ?_⟩
  · rw [h2 j]
    unfold timesL
    rw [List.getElem?_map]
    cases R[j]? with
    | none => simp
    | some x => show x * μ = x * -1 * -μ; grind
  · unfold timesL
    rw [gcdF_mul0]
    have := h.prim
    simpa using this
end Go.Proofs.Ytpnghgihepnepaa
