/- Laws 13: what they share. -/
import Derived.Test.YtgdnlibklopdiaaTk
namespace Go.Proofs.Ytgdnlibklopdiaa
open Go.RowKit
set_option linter.unusedVariables false

theorem LinD.step {w w' : World} {d n : Nat} {v : Value} {b : List Int} {ps : List (List Int)} (h : LinD w d n v b ps) (g : w.grownBy w' none) : LinD w' d n v b ps := by
  obtain ⟨vb, vp, qs, h0, h1, h2, h3⟩ := h
  exact ⟨vb, vp, qs, h0, h1.step g, h2.same g, h3⟩
theorem LinD.deal {w w' : World} {d n : Nat} {v : Value} {b : List Int} {ps : List (List Int)} (h : LinD w d n v b ps) (g : w.grownBy w' (some d)) : LinD w' d n v b ps := by
  obtain ⟨vb, vp, qs, h0, h1, h2, h3, h4, h5⟩ := h
  exact ⟨vb, vp, qs, h0, h1.deal g, h2.far h4 (Nat.le_refl _) g, h3, h4, h5⟩
theorem LinD.lin {w : World} {d n : Nat} {v : Value} {b : List Int} {ps : List (List Int)} (h : LinD w d n v b ps) : LinV w v b ps := by
  obtain ⟨vb, vp, qs, h0, h1, h2, h3, h4, h5, -⟩ := h
  exact ⟨vb, vp, qs, h0, h1.1, h2, h3, h5⟩
theorem LinD.valid {w : World} {d n : Nat} {v : Value} {b : List Int} {ps : List (List Int)} (h : LinD w d n v b ps) : ValidS n b ps := by
  obtain ⟨vb, vp, qs, h0, h1, h2, h3, h4, h5, h6, -⟩ := h
  exact h6
theorem LinD.small {w : World} {d n : Nat} {v : Value} {b : List Int} {ps : List (List Int)} (h : LinD w d n v b ps) : (∀ x ∈ b, x ≤ 4) ∧ ∀ p ∈ ps, ∀ x ∈ p, x ≤ 4 := by
  obtain ⟨vb, vp, qs, h0, h1, h2, h3, h4, h5, h6, h7⟩ := h
  exact h7
/-- The value of a dealt set, opened. -/
theorem LinD.open {w : World} {d n : Nat} {v : Value} {b : List Int} {ps : List (List Int)} (h : LinD w d n v b ps) : ∃ ab cb ap cp, v = .agg #[.slice ab b.length cb, .slice ap ps.length cp] := by
  obtain ⟨vb, vp, qs, rfl, ⟨⟨⟨ab, cb, hvb, -⟩, -⟩, -⟩, ⟨ap, cp, hvp, -⟩, -, -, rfl, -⟩ := h
  dsimp only at hvb
  subst hvb hvp
  exact ⟨ab, cb, ap, cp, by rw [List.length_map]⟩
theorem LinD.ok {w : World} {d n : Nat} {x y : Value} {b : List Int} {ps : List (List Int)} (h : LinD w d n (.agg #[x, y]) b ps) : SetOk w n ((x, y), (b, ps)) := ⟨h.lin, h.valid⟩
/-- The two cells of a variable that holds a set. -/
def BoxD (w : World) (d g : Nat) (x y : Value) : Prop := w.cell? ⟨g, 0, none⟩ = some x ∧ w.cell? ⟨g, 1, none⟩ = some y ∧ d < g
theorem BoxD.step {w w' : World} {d g : Nat} {x y : Value} (h : BoxD w d g x y) (k : w.grownBy w' none) : BoxD w' d g x y := ⟨k.cell h.1 (by simp), k.cell h.2.1 (by simp), h.2.2⟩
theorem BoxD.deal {w w' : World} {d g : Nat} {x y : Value} (h : BoxD w d g x y) (k : w.grownBy w' (some d)) : BoxD w' d g x y := by
  have := h.2.2
  exact ⟨k.cell h.1 (by simp; omega), k.cell h.2.1 (by simp; omega), h.2.2⟩
theorem BoxD.new {w : World} {d : Nat} {x y : Value} {e : TypeId} (h : d < w.heap.size) : BoxD (w.alloc (.cells #[x, y] e)) d w.heap.size x y :=
  ⟨(cells_of (heap_new _ rfl)).1, (cells_of (heap_new _ rfl)).2, h⟩
def DealsR (P : Int → Prop) (n : Nat) (w0 w : World) (p : Value) (d : Nat) (e : Ending) (w' : World) : Prop :=
  ∃ v xs, e = .returned v ∧ xs.length = n ∧ (∀ x ∈ xs, P x) ∧ RVec w' d v xs ∧ St w0 w' p d ∧ w.grownBy w' (some d)
theorem small_rv {w0 w : World} {p : Value} {d : Nat} (h : St w0 w p d) (n : Nat) (most : Int) (h1 : n ≤ 1000) (h2 : 0 ≤ most) (h3 : most ≤ 1000000) :
    Calls Try.prog 30 #[p, .int .i64 (n : Int), .int .i64 most] w (DealsR (fun x => 0 ≤ x ∧ x ≤ most) n w0 w p d) :=
  (small_any p d n most w h.1 (by omega) h2 h3).mono fun e w' ⟨v, xs, he, hl, hp, ho, hd, hg⟩ => ⟨v, xs, he, by rw [hl]; simp, hp, ho.rvec (by intro x hx; have := hp x hx; omega) h.lt, h.deal hd hg, hg⟩

theorem lessL_iff : ∀ {n : Nat} {v b : List Int}, v.length = n → b.length = n → ((∀ x ∈ lessL v b, x = 0) ↔ b = v)
  | 0, [], [], _, _ => by simp [lessL]
  | n + 1, x :: v, y :: b, hv, hb => by
    have ih := lessL_iff (n := n) (v := v) (b := b) (by simpa using hv) (by simpa using hb)
    simp only [lessL, List.zipWith_cons_cons, List.mem_cons, forall_eq_or_imp, List.cons.injEq] at ih ⊢
    rw [ih]
    constructor
    · rintro ⟨h1, h2⟩; exact ⟨by omega, h2⟩
    · rintro ⟨h1, h2⟩; exact ⟨by omega, h2⟩
  | 0, _ :: _, _, h, _ => by simp at h
  | 0, [], _ :: _, _, h => by simp at h
  | _ + 1, [], _, h, _ => by simp at h
  | _ + 1, _ :: _, [], _, h => by simp at h
/-- Solutions are multiples that make the vector. -/
theorem sol_made {n : Nat} {v : List Int} (hv : v.length = n) : ∀ (ps : List (List Int)) (ks b : List Int), (∀ p ∈ ps, p.length = n) → b.length = n →
    (Sol ps ks (lessL v b) ↔ ks.length = ps.length ∧ (∀ k ∈ ks, 0 ≤ k) ∧ madeL b ps ks = v)
  | [], [], b, _, hb => by
    unfold Sol madeL
    rw [lessL_iff hv hb]
    simp
  | p :: ps, k :: ks, b, hp, hb => by
    have ih := sol_made hv ps ks (addk k p b) (fun q hq => hp q (by simp [hq])) (addk_len (hp p (by simp)) hb)
    unfold Sol madeL
    rw [subk_less, ih]
    simp only [List.length_cons, List.mem_cons, forall_eq_or_imp, Nat.add_right_cancel_iff]
    constructor
    · rintro ⟨h0, h1, h2, h3⟩; exact ⟨h1, ⟨h0, h2⟩, h3⟩
    · rintro ⟨h1, ⟨h0, h2⟩, h3⟩; exact ⟨h0, h1, h2, h3⟩
  | [], _ :: _, _, _, _ => by simp [Sol]
  | _ :: _, [], _, _, _ => by simp [Sol]
theorem madeL_small {n : Nat} : ∀ (ps : List (List Int)) (ts b : List Int) (M T : Int), (∀ p ∈ ps, PerOk n p ∧ ∀ x ∈ p, x ≤ 4) → b.length = n → 0 ≤ T → (∀ t ∈ ts, 0 ≤ t ∧ t ≤ T) → 0 ≤ M → (∀ x ∈ b, 0 ≤ x ∧ x ≤ M) → ∀ x ∈ madeL b ps ts, 0 ≤ x ∧ x ≤ M + 4 * T * ps.length
  | [], _, b, M, T, _, _, _, _, _, h => by unfold madeL; simpa using h
  | p :: ps, [], b, M, T, _, _, hT, _, _, h => by
    unfold madeL
    intro x hx
    have := h x hx
    have h2 : 0 ≤ 4 * T * ((p :: ps).length : Int) := Int.mul_nonneg (by omega) (by omega)
    omega
  | p :: ps, t :: ts, b, M, T, hp, hb, hT, ht, hM, h => by
    unfold madeL
    have h1 : ∀ x ∈ addk t p b, 0 ≤ x ∧ x ≤ M + 4 * T := by
      intro z hz
      obtain ⟨x, hx, y, hy, rfl⟩ := mem_zipWith _ b p z hz
      have a1 := h x hx
      have a2 := (hp p (by simp)).1.1.2 y hy
      have a3 := (hp p (by simp)).2 y hy
      have a4 := ht t (by simp)
      have a5 := Int.mul_nonneg a4.1 a2
      have a6 : t * y ≤ T * 4 := Int.mul_le_mul a4.2 a3 a2 hT
      omega
    have := madeL_small ps ts (addk t p b) (M + 4 * T) T (fun q hq => hp q (by simp [hq])) (addk_len (hp p (by simp)).1.1.1 hb) hT (fun u hu => ht u (by simp [hu])) (by omega) h1
    intro x hx
    have := this x hx
    rw [show (((p :: ps).length : Nat) : Int) = (ps.length : Int) + 1 by simp, Int.mul_add]
    omega
theorem LinD.per {w : World} {d n : Nat} {v : Value} {b : List Int} {ps : List (List Int)} (h : LinD w d n v b ps) : ∀ p ∈ ps, PerOk n p ∧ ∀ x ∈ p, x ≤ 4 := fun p hp => ⟨h.valid.2.2.2.2.1 p hp, h.small.2 p hp⟩
theorem LinD.bas {w : World} {d n : Nat} {v : Value} {b : List Int} {ps : List (List Int)} (h : LinD w d n v b ps) : ∀ x ∈ b, 0 ≤ x ∧ x ≤ 4 := fun x hx => ⟨(h.valid.2.2.2.1 x hx).1, h.small.1 x hx⟩
/-- What multiples up to 4 make. -/
theorem LinD.made {w : World} {d n : Nat} {v : Value} {b ts : List Int} {ps : List (List Int)} (h : LinD w d n v b ps) (ht : ∀ t ∈ ts, 0 ≤ t ∧ t ≤ 4) : (madeL b ps ts).length = n ∧ ∀ x ∈ madeL b ps ts, 0 ≤ x ∧ x ≤ 52 := by
  refine ⟨madeL_len ps ts b (fun p hp => (h.per p hp).1.1.1) h.valid.2.2.1, fun x hx => ?_⟩
  have h1 := madeL_small ps ts b 4 4 h.per h.valid.2.2.1 (by omega) ht (by omega) h.bas x hx
  have h2 := h.valid.2.2.2.2.2.1
  omega
theorem compare_lex {a b : List Int} (h : a.length = b.length) : compareI a b = lexI a b := by unfold compareI; rw [h]; simp

end Go.Proofs.Ytgdnlibklopdiaa
