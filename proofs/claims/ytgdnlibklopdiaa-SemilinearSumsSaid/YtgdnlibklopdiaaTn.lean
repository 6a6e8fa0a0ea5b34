/- Laws 13, Within: what it needs. -/
import Derived.Test.YtgdnlibklopdiaaTl
namespace Go.Proofs.Ytgdnlibklopdiaa
open Go.RowKit
set_option linter.unusedVariables false

theorem sumL_zero : ∀ (n : Nat) (p : List Int), p.length = n → sumL (List.replicate n 0) p = p
  | 0, [], _ => rfl
  | n + 1, x :: p, h => by
    have := sumL_zero n p (by simpa using h)
    simp only [sumL, List.replicate_succ, List.zipWith_cons_cons, Int.zero_add] at this ⊢
    rw [this]
  | 0, _ :: _, h => by simp at h
  | _ + 1, [], h => by simp at h
/-- A period is in its own cone. -/
theorem sol_unit {n : Nat} {b : List Int} {ps : List (List Int)} (h : ValidS n b ps) {k : Nat} (hk : k < ps.length) : SolE ps ps[k] := by
  have hl : ∀ p ∈ ps, p.length = n := fun p hp => (h.2.2.2.2.1 p hp).1.1
  have hpk := hl _ (List.getElem_mem hk)
  have h1 := madeL_more ps (List.replicate ps.length 0) (List.replicate n 0) k hk (by simp)
  rw [madeL_zero ps _ (by simpa using hl), sumL_zero n _ hpk] at h1
  have h2 := (sol_made hpk ps ((List.replicate ps.length 0).set k ((List.replicate ps.length (0 : Int))[k]?.getD 0 + 1)) (List.replicate n 0) hl (by simp)).2 ⟨by simp, fun x hx => by
    rcases List.mem_or_eq_of_mem_set hx with hx | rfl
    · rw [List.eq_of_mem_replicate hx]; omega
    · simp [hk], h1⟩
  rw [lessL_zero n _ hpk] at h2
  exact ⟨_, h2⟩
theorem within_sub {n : Nat} {b : List Int} {ps qs : List (List Int)} (h : ValidS n b ps) (hq : ∀ p ∈ qs, p ∈ ps) : WithinP b qs b ps :=
  ⟨sol_self h, fun p hp => by
    obtain ⟨k, hk, rfl⟩ := List.getElem_of_mem (hq p hp)
    exact sol_unit h hk⟩
theorem within_self {n : Nat} {b : List Int} {ps : List (List Int)} (h : ValidS n b ps) : WithinP b ps b ps := within_sub h (fun p hp => hp)
theorem less_mem {ps : List (List Int)} {k : Nat} : ∀ p ∈ ps.take k ++ ps.drop (k + 1), p ∈ ps := by
  intro p hp
  rcases List.mem_append.1 hp with hp | hp
  · exact List.mem_of_mem_take hp
  · exact List.mem_of_mem_drop hp
theorem less_sub {ps : List (List Int)} {k : Nat} : (ps.take k ++ ps.drop (k + 1)).Sublist ps := by
  have h1 : (ps.take k ++ ps.drop (k + 1)).Sublist (ps.take k ++ ps.drop k) := List.Sublist.append (List.Sublist.refl _) (List.drop_sublist_drop_left ps (Nat.le_succ k))
  rwa [List.take_append_drop] at h1
theorem ValidS.less {n : Nat} {b : List Int} {ps : List (List Int)} (h : ValidS n b ps) (k : Nat) : ValidS n b (ps.take k ++ ps.drop (k + 1)) :=
  ⟨h.1, h.2.1, h.2.2.1, h.2.2.2.1, fun p hp => h.2.2.2.2.1 p (less_mem p hp), Nat.le_trans less_sub.length_le h.2.2.2.2.2.1, List.Pairwise.sublist less_sub h.2.2.2.2.2.2⟩

/-- Sums and multiples of what is generated are generated. -/
def zeroV (n : Nat) : List Int := List.replicate n 0
theorem solE_iff {n : Nat} {ps : List (List Int)} {v : List Int} (hl : ∀ p ∈ ps, p.length = n) (hv : v.length = n) : SolE ps v ↔ ∃ ks, ks.length = ps.length ∧ (∀ k ∈ ks, 0 ≤ k) ∧ madeL (zeroV n) ps ks = v := by
  have h0 : lessL v (zeroV n) = v := lessL_zero n v hv
  constructor
  · rintro ⟨ks, h⟩
    rw [← h0] at h
    exact ⟨ks, (sol_made hv ps ks (zeroV n) hl (by simp [zeroV])).1 h⟩
  · rintro ⟨ks, h⟩
    have := (sol_made hv ps ks (zeroV n) hl (by simp [zeroV])).2 h
    rw [h0] at this
    exact ⟨ks, this⟩
theorem addk_add : ∀ (s t : Int) (p x y : List Int), addk (s + t) p (sumL x y) = sumL (addk s p x) (addk t p y)
  | s, t, p, [], y => by cases p <;> cases y <;> simp [addk, sumL]
  | s, t, [], a :: x, y => by cases y <;> simp [addk, sumL]
  | s, t, w :: p, a :: x, [] => by simp [addk, sumL]
  | s, t, w :: p, a :: x, b :: y => by
    have := addk_add s t p x y
    simp only [addk, sumL, List.zipWith_cons_cons] at this ⊢
    rw [this, Int.add_mul]
    congr 1
    omega
theorem madeL_add : ∀ (ps : List (List Int)) (ks js x y : List Int), ks.length = ps.length → js.length = ps.length → madeL (sumL x y) ps (List.zipWith (· + ·) ks js) = sumL (madeL x ps ks) (madeL y ps js)
  | [], _, _, x, y, _, _ => by simp [madeL]
  | p :: ps, k :: ks, j :: js, x, y, h1, h2 => by
    simp only [List.zipWith_cons_cons]
    unfold madeL
    rw [addk_add]
    exact madeL_add ps ks js _ _ (by simpa using h1) (by simpa using h2)
  | _ :: _, [], _, _, _, h, _ => by simp at h
  | _ :: _, _ :: _, [], _, _, _, h => by simp at h
theorem solE_sum {n : Nat} {ps : List (List Int)} {v x : List Int} (hl : ∀ p ∈ ps, p.length = n) (hv : v.length = n) (hx : x.length = n) (h1 : SolE ps v) (h2 : SolE ps x) : SolE ps (sumL v x) := by
  obtain ⟨ks, a1, a2, a3⟩ := (solE_iff hl hv).1 h1
  obtain ⟨js, b1, b2, b3⟩ := (solE_iff hl hx).1 h2
  refine (solE_iff hl (sumL_len hv hx)).2 ⟨List.zipWith (· + ·) ks js, by simp [a1, b1], fun z hz => ?_, ?_⟩
  · obtain ⟨k, hk, j, hj, rfl⟩ := mem_zipWith _ ks js z hz
    have := a2 k hk
    have := b2 j hj
    omega
  · have h0 : sumL (zeroV n) (zeroV n) = zeroV n := sumL_zero n _ (by simp [zeroV])
    have := madeL_add ps ks js (zeroV n) (zeroV n) a1 b1
    rw [h0, a3, b3] at this
    exact this
theorem addk_nat {n : Nat} {ps : List (List Int)} {v p : List Int} (hl : ∀ q ∈ ps, q.length = n) (hv : v.length = n) (hp : p.length = n) (h1 : SolE ps v) (h2 : SolE ps p) : ∀ m : Nat, SolE ps (addk (m : Int) p v)
  | 0 => by rw [show ((0 : Nat) : Int) = 0 from rfl, addk_zero p v (by rw [hp, hv])]; exact h1
  | m + 1 => by
    rw [show ((m + 1 : Nat) : Int) = (m : Int) + 1 by omega, addk_sum]
    exact solE_sum hl (addk_len hp hv) hp (addk_nat hl hv hp h1 h2 m) h2
theorem lessL_addk : ∀ (t : Int) (p v b : List Int), lessL (addk t p v) b = addk t p (lessL v b)
  | t, p, [], b => by cases p <;> cases b <;> simp [addk, lessL]
  | t, [], x :: v, b => by cases b <;> simp [addk, lessL]
  | t, y :: p, x :: v, [] => by simp [addk, lessL]
  | t, y :: p, x :: v, z :: b => by
    have := lessL_addk t p v b
    simp only [addk, lessL, List.zipWith_cons_cons] at this ⊢
    rw [this]
    congr 1
    omega
/-- What is made from a set that is within another one is generated there. -/
theorem within_made {n : Nat} {c : List Int} {qs : List (List Int)} (hl : ∀ q ∈ qs, q.length = n) (hc : c.length = n) : ∀ (ps : List (List Int)) (ts b : List Int), b.length = n → (∀ p ∈ ps, p.length = n) → (∀ t ∈ ts, 0 ≤ t) → SolE qs (lessL b c) → (∀ p ∈ ps, SolE qs p) → SolE qs (lessL (madeL b ps ts) c)
  | [], _, b, _, _, _, h, _ => by unfold madeL; exact h
  | _ :: _, [], b, _, _, _, h, _ => by unfold madeL; exact h
  | p :: ps, t :: ts, b, hb, hp, ht, h, hq => by
    unfold madeL
    refine within_made hl hc ps ts (addk t p b) (addk_len (hp p (by simp)) hb) (fun q hq' => hp q (by simp [hq'])) (fun u hu => ht u (by simp [hu])) ?_ (fun q hq' => hq q (by simp [hq']))
    rw [lessL_addk]
    have h0 := ht t (by simp)
    have := addk_nat hl (lessL_len hc hb) (hp p (by simp)) h (hq p (by simp)) t.toNat
    rwa [show ((t.toNat : Nat) : Int) = t by omega] at this

theorem LinD.rows {w : World} {d n : Nat} {x y : Value} {B : List Int} {P : List (List Int)} (h : LinD w d n (.agg #[x, y]) B P) : ∃ qs : List Row, RowsP w y qs ∧ Good y ∧ qs.map Prod.snd = P := by
  obtain ⟨vb, vp, qs, he, -, h2, hgd, h4, h5, -⟩ := h
  simp only [Value.agg.injEq, Array.mk.injEq, List.cons.injEq, and_true] at he
  obtain ⟨-, rfl⟩ := he
  exact ⟨qs, h2, hgd, h5⟩
theorem own_ne_box {w : World} {base b : Nat} {v x y : Value} {ps : List Row} (h : OwnP w base v ps) (hb : w.heap[b]? = some (.cells #[x, y] 49 (0, 0))) : v.ownBlock ≠ some b := by
  intro e
  rcases h.1.2 with ⟨rfl, _⟩ | ⟨g, cap, cur, rfl, _, hh, _⟩
  · simp [Value.ownBlock] at e
  · simp only [Value.ownBlock, Option.some.injEq] at e
    subst e
    rw [hb] at hh
    simp at hh
theorem less_lin {w0 w W : World} {b base : Nat} {v vb : Value} {B : List Int} {rs : List Row} (hB : RowOk w0 (vb, B)) (hq : ∀ q ∈ rs, RowOk w0 q) (g : w0.grownBy w none) (h : OwnP w base v rs)
    (hb : w.heap[b]? = some (.cells #[.slice none 0 0, .slice none 0 0] 49 (0, 0))) (hl : w0.heap.size ≤ b) (hW : w.grownBy W (some b)) : LinV W (.agg #[vb, v]) B (rs.map Prod.snd) :=
  ⟨_, _, rs, rfl, (hB.same g).kept hW (by rintro k ⟨⟩ e; have := hB.2.2 _ e; omega), h.rows.keptR hW (by rintro k ⟨⟩ e; exact own_ne_box h hb e) (fun q hq' k hk e => by cases hk; have := (hq q hq').2.2 _ e; omega), h.good, rfl⟩
theorem less_map {qs : List Row} {P : List (List Int)} {k : Nat} (h : qs.map Prod.snd = P) : (qs.take k ++ qs.drop (k + 1)).map Prod.snd = P.take k ++ P.drop (k + 1) := by
  rw [List.map_append, List.map_take, List.map_drop, h]

theorem box_kept {X w : World} {b base : Nat} {v x y : Value} {rs : List Row} (h1 : X.heap[b]? = some (.cells #[x, y] 49 (0, 0))) (hC : OwnP X base v rs) (g : X.grownBy w v.ownBlock) : w.heap[b]? = some (.cells #[x, y] 49 (0, 0)) :=
  (g.block b (Array.getElem?_eq_some_iff.1 h1).1 (fun e => own_ne_box hC h1 e.symm)).trans h1
theorem box_none {X w : World} {b : Nat} {o : Obj} (h1 : X.heap[b]? = some o) (g : X.grownBy w none) : w.heap[b]? = some o := (g.block b (Array.getElem?_eq_some_iff.1 h1).1 (by simp)).trans h1
theorem set_two1 (b : Nat) (w : World) (x y : Value) : w.grownBy ((w.setCell ⟨b, 0, none⟩ x).setCell ⟨b, 1, none⟩ y) (some b) := grown_trans (grown_set _ _ _) (grown_set _ _ _)
theorem some_ne {a b : Nat} (h : a < b) : some a ≠ some b := by simp; omega

theorem less_mem1 {qs : List Row} {k : Nat} : ∀ q ∈ qs.take k ++ qs.drop (k + 1), q ∈ qs := by
  intro p hp
  rcases List.mem_append.1 hp with hp | hp
  · exact List.mem_of_mem_take hp
  · exact List.mem_of_mem_drop hp

end Go.Proofs.Ytgdnlibklopdiaa
