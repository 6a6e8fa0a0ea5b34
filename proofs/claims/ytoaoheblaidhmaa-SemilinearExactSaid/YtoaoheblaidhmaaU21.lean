/- Texts Tn, Tr, Vn, Vo in one. -/
import Derived.Test.YtoaoheblaidhmaaU20
import Derived.Test.YtoaoheblaidhmaaU17
import Derived.Test.YtoaoheblaidhmaaU15
import Derived.BigRegion
namespace Go.Proofs.Ytoaoheblaidhmaa
open Go.RowKit
set_option linter.unusedVariables false

theorem sumL_zero : ∀ (n : Nat) (p : List Int), p.length = n → sumL (List.replicate n 0) p = p
  | 0, [], _ => rfl
  | n + 1, x :: p, h => by
    have := sumL_zero n p (by simpa using h)
    simp only [sumL, List.replicate_succ, List.zipWith_cons_cons, Int.zero_add] at this ⊢
    rw [this]
  | 0, _ :: _, h => by simp at h
  | _ + 1, [], h => by simp at h
/-- A period is in its own cone. -/
theorem sol_unit {n : Nat} {b : List Int} {ps : List (List Int)} (h : ValidS n b ps) {k : Nat} (hk : k < ps.length) : SolE ps ps[k] := by
  have hl : ∀ p ∈ ps, p.length = n := fun p hp => (h.2.2.2.2.1 p hp).1.1
  have hpk := hl _ (List.getElem_mem hk)
  have h1 := madeL_more ps (List.replicate ps.length 0) (List.replicate n 0) k hk (by simp)
  rw [madeL_zero ps _ (by simpa using hl), sumL_zero n _ hpk] at h1
  have h2 := (sol_made hpk ps ((List.replicate ps.length 0).set k ((List.replicate ps.length (0 : Int))[k]?.getD 0 + 1)) (List.replicate n 0) hl (by simp)).2 ⟨by simp, fun x hx => by
    rcases List.mem_or_eq_of_mem_set hx with hx | rfl
    · rw [List.eq_of_mem_replicate hx]; omega
    · simp [hk], h1⟩
  rw [lessL_zero n _ hpk] at h2
  exact ⟨_, h2⟩
theorem within_sub {n : Nat} {b : List Int} {ps qs : List (List Int)} (h : ValidS n b ps) (hq : ∀ p ∈ qs, p ∈ ps) : WithinP b qs b ps :=
  ⟨sol_self h, fun p hp => by
    obtain ⟨k, hk, rfl⟩ := List.getElem_of_mem (hq p hp)
    exact sol_unit h hk⟩
theorem within_self {n : Nat} {b : List Int} {ps : List (List Int)} (h : ValidS n b ps) : WithinP b ps b ps := within_sub h (fun p hp => hp)
theorem less_mem {ps : List (List Int)} {k : Nat} : ∀ p ∈ ps.take k ++ ps.drop (k + 1), p ∈ ps := by
  intro p hp
  rcases List.mem_append.1 hp with hp | hp
  · exact List.mem_of_mem_take hp
  · exact List.mem_of_mem_drop hp
theorem less_sub {ps : List (List Int)} {k : Nat} : (ps.take k ++ ps.drop (k + 1)).Sublist ps := by
  have h1 : (ps.take k ++ ps.drop (k + 1)).Sublist (ps.take k ++ ps.drop k) := List.Sublist.append (List.Sublist.refl _) (List.drop_sublist_drop_left ps (Nat.le_succ k))
  rwa [List.take_append_drop] at h1
theorem ValidS.less {n : Nat} {b : List Int} {ps : List (List Int)} (h : ValidS n b ps) (k : Nat) : ValidS n b (ps.take k ++ ps.drop (k + 1)) :=
  ⟨h.1, h.2.1, h.2.2.1, h.2.2.2.1, fun p hp => h.2.2.2.2.1 p (less_mem p hp), Nat.le_trans less_sub.length_le h.2.2.2.2.2.1, List.Pairwise.sublist less_sub h.2.2.2.2.2.2⟩

/-- Sums and multiples of what is generated are generated. -/
def zeroV (n : Nat) : List Int := List.replicate n 0
theorem solE_iff {n : Nat} {ps : List (List Int)} {v : List Int} (hl : ∀ p ∈ ps, p.length = n) (hv : v.length = n) : SolE ps v ↔ ∃ ks, ks.length = ps.length ∧ (∀ k ∈ ks, 0 ≤ k) ∧ madeL (zeroV n) ps ks = v := by
  have h0 : lessL v (zeroV n) = v := lessL_zero n v hv
  constructor
  · rintro ⟨ks, h⟩
    rw [← h0] at h
    exact ⟨ks, (sol_made hv ps ks (zeroV n) hl (by simp [zeroV])).1 h⟩
  · rintro ⟨ks, h⟩
    have := (sol_made hv ps ks (zeroV n) hl (by simp [zeroV])).2 h
    rw [h0] at this
    exact ⟨ks, this⟩
theorem addk_add : ∀ (s t : Int) (p x y : List Int), addk (s + t) p (sumL x y) = sumL (addk s p x) (addk t p y)
  | s, t, p, [], y => by cases p <;> cases y <;> simp [addk, sumL]
  | s, t, [], a :: x, y => by cases y <;> simp [addk, sumL]
  | s, t, w :: p, a :: x, [] => by simp [addk, sumL]
  | s, t, w :: p, a :: x, b :: y => by
    have := addk_add s t p x y
    simp only [addk, sumL, List.zipWith_cons_cons] at this ⊢
    rw [this, Int.add_mul]
    congr 1
    omega
theorem madeL_add : ∀ (ps : List (List Int)) (ks js x y : List Int), ks.length = ps.length → js.length = ps.length → madeL (sumL x y) ps (List.zipWith (· + ·) ks js) = sumL (madeL x ps ks) (madeL y ps js)
  | [], _, _, x, y, _, _ => by simp [madeL]
  | p :: ps, k :: ks, j :: js, x, y, h1, h2 => by
    simp only [List.zipWith_cons_cons]
    unfold madeL
    rw [addk_add]
    exact madeL_add ps ks js _ _ (by simpa using h1) (by simpa using h2)
  | _ :: _, [], _, _, _, h, _ => by simp at h
  | _ :: _, _ :: _, [], _, _, _, h => by simp at h
theorem solE_sum {n : Nat} {ps : List (List Int)} {v x : List Int} (hl : ∀ p ∈ ps, p.length = n) (hv : v.length = n) (hx : x.length = n) (h1 : SolE ps v) (h2 : SolE ps x) : SolE ps (sumL v x) := by
  obtain ⟨ks, a1, a2, a3⟩ := (solE_iff hl hv).1 h1
  obtain ⟨js, b1, b2, b3⟩ := (solE_iff hl hx).1 h2
  refine (solE_iff hl (sumL_len hv hx)).2 ⟨List.zipWith (· + ·) ks js, by simp [a1, b1], fun z hz => ?_, ?_⟩
  · obtain ⟨k, hk, j, hj, rfl⟩ := mem_zipWith _ ks js z hz
    have := a2 k hk
    have := b2 j hj
    omega
  · have h0 : sumL (zeroV n) (zeroV n) = zeroV n := sumL_zero n _ (by simp [zeroV])
    have := madeL_add ps ks js (zeroV n) (zeroV n) a1 b1
    rw [h0, a3, b3] at this
    exact this
theorem addk_nat {n : Nat} {ps : List (List Int)} {v p : List Int} (hl : ∀ q ∈ ps, q.length = n) (hv : v.length = n) (hp : p.length = n) (h1 : SolE ps v) (h2 : SolE ps p) : ∀ m : Nat, SolE ps (addk (m : Int) p v)
  | 0 => by rw [show ((0 : Nat) : Int) = 0 from rfl, addk_zero p v (by rw [hp, hv])]; exact h1
  | m + 1 => by
    rw [show ((m + 1 : Nat) : Int) = (m : Int) + 1 by omega, addk_sum]
    exact solE_sum hl (addk_len hp hv) hp (addk_nat hl hv hp h1 h2 m) h2
theorem lessL_addk : ∀ (t : Int) (p v b : List Int), lessL (addk t p v) b = addk t p (lessL v b)
  | t, p, [], b => by cases p <;> cases b <;> simp [addk, lessL]
  | t, [], x :: v, b => by cases b <;> simp [addk, lessL]
  | t, y :: p, x :: v, [] => by simp [addk, lessL]
  | t, y :: p, x :: v, z :: b => by
    have := lessL_addk t p v b
    simp only [addk, lessL, List.zipWith_cons_cons] at this ⊢
    rw [this]
    congr 1
    omega
/-- What is made from a set that is within another one is generated there. -/
theorem within_made {n : Nat} {c : List Int} {qs : List (List Int)} (hl : ∀ q ∈ qs, q.length = n) (hc : c.length = n) : ∀ (ps : List (List Int)) (ts b : List Int), b.length = n → (∀ p ∈ ps, p.length = n) → (∀ t ∈ ts, 0 ≤ t) → SolE qs (lessL b c) → (∀ p ∈ ps, SolE qs p) → SolE qs (lessL (madeL b ps ts) c)
  | [], _, b, _, _, _, h, _ => by unfold madeL; exact h
  | _ :: _, [], b, _, _, _, h, _ => by unfold madeL; exact h
  | p :: ps, t :: ts, b, hb, hp, ht, h, hq => by
    unfold madeL
    refine within_made hl hc ps ts (addk t p b) (addk_len (hp p (by simp)) hb) (fun q hq' => hp q (by simp [hq'])) (fun u hu => ht u (by simp [hu])) ?_ (fun q hq' => hq q (by simp [hq']))
    rw [lessL_addk]
    have h0 := ht t (by simp)
    have := addk_nat hl (lessL_len hc hb) (hp p (by simp)) h (hq p (by simp)) t.toNat
    rwa [show ((t.toNat : Nat) : Int) = t by omega] at this

theorem LinD.rows {w : World} {d n : Nat} {x y : Value} {B : List Int} {P : List (List Int)} (h : LinD w d n (.agg #[x, y]) B P) : ∃ qs : List Row, RowsP w y qs ∧ Good y ∧ qs.map Prod.snd = P := by
  obtain ⟨vb, vp, qs, he, -, h2, hgd, h4, h5, -⟩ := h
  simp only [Value.agg.injEq, Array.mk.injEq, List.cons.injEq, and_true] at he
  obtain ⟨-, rfl⟩ := he
  exact ⟨qs, h2, hgd, h5⟩
theorem own_ne_box {w : World} {base b : Nat} {v x y : Value} {ps : List Row} (h : OwnP w base v ps) (hb : w.heap[b]? = some (.cells #[x, y] 26 (0, 0))) : v.ownBlock ≠ some b := by
  intro e
  rcases h.1.2 with ⟨rfl, _⟩ | ⟨g, cap, cur, rfl, _, hh, _⟩
  · simp [Value.ownBlock] at e
  · simp only [Value.ownBlock, Option.some.injEq] at e
    subst e
    rw [hb] at hh
    simp at hh
theorem less_lin {w0 w W : World} {b base : Nat} {v vb : Value} {B : List Int} {rs : List Row} (hB : RowOk w0 (vb, B)) (hq : ∀ q ∈ rs, RowOk w0 q) (g : w0.grownBy w none) (h : OwnP w base v rs)
    (hb : w.heap[b]? = some (.cells #[.slice none 0 0, .slice none 0 0] 26 (0, 0))) (hl : w0.heap.size ≤ b) (hW : w.grownBy W (some b)) : LinV W (.agg #[vb, v]) B (rs.map Prod.snd) :=
  ⟨_, _, rs, rfl, (hB.same g).kept hW (by rintro k ⟨⟩ e; have := hB.2.2 _ e; omega), h.rows.keptR hW (by rintro k ⟨⟩ e; exact own_ne_box h hb e) (fun q hq' k hk e => by cases hk; have := (hq q hq').2.2 _ e; omega), h.good, rfl⟩
theorem less_map {qs : List Row} {P : List (List Int)} {k : Nat} (h : qs.map Prod.snd = P) : (qs.take k ++ qs.drop (k + 1)).map Prod.snd = P.take k ++ P.drop (k + 1) := by
  rw [List.map_append, List.map_take, List.map_drop, h]

theorem box_kept {X w : World} {b base : Nat} {v x y : Value} {rs : List Row} (h1 : X.heap[b]? = some (.cells #[x, y] 26 (0, 0))) (hC : OwnP X base v rs) (g : X.grownBy w v.ownBlock) : w.heap[b]? = some (.cells #[x, y] 26 (0, 0)) :=
  (g.block b (Array.getElem?_eq_some_iff.1 h1).1 (fun e => own_ne_box hC h1 e.symm)).trans h1
theorem box_none {X w : World} {b : Nat} {o : Obj} (h1 : X.heap[b]? = some o) (g : X.grownBy w none) : w.heap[b]? = some o := (g.block b (Array.getElem?_eq_some_iff.1 h1).1 (by simp)).trans h1
theorem set_two1 (b : Nat) (w : World) (x y : Value) : w.grownBy ((w.setCell ⟨b, 0, none⟩ x).setCell ⟨b, 1, none⟩ y) (some b) := grown_trans (grown_set _ _ _) (grown_set _ _ _)
theorem some_ne {a b : Nat} (h : a < b) : some a ≠ some b := by simp; omega

theorem less_mem1 {qs : List Row} {k : Nat} : ∀ q ∈ qs.take k ++ qs.drop (k + 1), q ∈ qs := by
  intro p hp
  rcases List.mem_append.1 hp with hp | hp
  · exact List.mem_of_mem_take hp
  · exact List.mem_of_mem_drop hp

end Go.Proofs.Ytoaoheblaidhmaa

namespace Go.Proofs.Ytoaoheblaidhmaa
open Go.RowKit
set_option linter.unusedVariables false

theorem or_none (g cap : Nat) (w : World) (c0 : w.cell? ⟨g, 0, none⟩ = some (.int .i64 0)) (c1 : w.cell? ⟨g, 1, none⟩ = some (.int .i64 0)) :
    Calls Try.prog 51 #[.slice (some ⟨g, 0, none⟩) 2 cap] w fun e w' => e = .returned (.int .i64 0) ∧ w' = w := by
  have C0 := Lib.hid c0; have C1 := Lib.hid c1
  clear c0 c1
  go_enter Try.func51, Try.ntmps51
  go_wp2_with fail
  go_loop [8] (fun i => ∃ k : Nat, k ≤ 2 ∧ i = .int .i64 k) (fun i => 2 - (intOf i).toNat)
  case atStart => exact ⟨0, by omega, rfl⟩
  case round =>
    obtain ⟨k, hk, rfl⟩ := hrel
    match k, hk with
    | 0, _ =>
      have c0 := C0.out
      go_wp2_with fail
      go_round
      case rel => exact ⟨1, by omega, by go_num⟩
      case measure => simp [intOf]
    | 1, _ =>
      have c1 := C1.out
      go_wp2_with fail
      go_round
      case rel => exact ⟨2, by omega, by go_num⟩
      case measure => simp [intOf]
    | 2, _ =>
      go_wp2_with fail
      go_ret
      exact ⟨rfl, rfl⟩

/-- limited, where there are too many periods. -/
def GotX (w : World) (e : Ending) (w' : World) : Prop := e = .returned (.tuple #[.agg #[.slice none 0 0, .slice none 0 0], .int .i64 1]) ∧ w.grownBy w' none
set_option maxRecDepth 100000 in
set_option maxHeartbeats 1000000 in
theorem limited_long (vb vp : Value) (b : List Int) (qs : List Row) (w : World) (hb : RowOk w (vb, b)) (hq : RowsP w vp qs) (h1 : 1 ≤ b.length) (h16 : ∀ x ∈ b, x ≤ 16) (hl : 3 < qs.length) :
    Calls Try.prog 47 #[vb, vp] w (GotX w) := by
  have HB := Lib.hid hb; have H16 := Lib.hid h16
  obtain ⟨⟨ab, cb, hvb, -, -, -⟩, -, -⟩ := hb
  dsimp only at hvb
  subst hvb
  obtain ⟨ap, cp, rfl, -, -, -⟩ := hq
  have hl3 : (3 : Int) < (qs.length : Int) := by omega
  clear h16
  go_enter Try.func47, Try.ntmps47
  go_wp2_with fail
  have HG1 := Lib.hid (World.grownBy_alloc w (.cells #[.slice none 0 0, .slice none 0 0] 26) none)
  refine (max_any _ b _ (HB.out.same HG1.out).1 h1).mono ?_
  rintro e w2 ⟨m, rfl, hm, rfl⟩
  have hm16 : ¬ (16 : Int) < m := by have := H16.out m hm.1; omega
  clear hm
  go_wp2_with fail
  refine bodyPost_ret (results_set2 rfl _ _ w.heap.size _ _ _ _ rfl (heap_new _ rfl) Try.underlying26 (by kernel_rfl)) rfl ?_
  exact ⟨rfl, HG1.out⟩

end Go.Proofs.Ytoaoheblaidhmaa

namespace Go.Proofs.Ytoaoheblaidhmaa
open Go.RowKit
set_option linter.unusedVariables false

/-- What Sum and Shift return: a set and an error. -/
def MoveU (b : List Int) (rs : List (List Int)) (err : Int) (w : World) (e : Ending) (w' : World) : Prop := ∃ sv, e = .returned (.tuple #[sv, .int .i64 err]) ∧ LinV w' sv b rs ∧ w.grownBy w' none
theorem moveU_nil {err : Int} {w w' : World} (g : w.grownBy w' none) : MoveU [] [] err w (.returned (.tuple #[.agg #[.slice none 0 0, .slice none 0 0], .int .i64 err])) w' :=
  ⟨_, rfl, ⟨_, _, [], rfl, (OwnI.nil w' 0).row (by simp), (OwnP.nil w' 0).rows, Good.nil, rfl⟩, g⟩
theorem GotS.u {b : List Int} {rs : List (List Int)} {w : World} {e : Ending} {w' : World} (h : GotS b rs w e w') : MoveU b rs 0 w e w' := by
  obtain ⟨vb, vp, qs, rfl, hb, hp, hg, hm, g, -, -⟩ := h
  exact ⟨_, rfl, ⟨_, _, qs, rfl, hb, hp, hg, hm⟩, g⟩
abbrev U1 (b : List Int) (qs : List Row) : List SetR := [((.slice none 0 0, .slice none 0 0), (b, qs))]
/-- What Shift answers. -/
inductive ShiftR (n : Int) (b : List Int) (qs : List Row) (v : List Int) : List Int → List (List Int) → Int → Prop
  | bad (err : Int) (h : CheckF n (U1 b qs) err) (he : err ≠ 0) : ShiftR n b qs v [] [] err
  | len (h : CheckF n (U1 b qs) 0) (hl : (v.length : Int) ≠ n) : ShiftR n b qs v [] [] 3
  | rng (h : CheckF n (U1 b qs) 0) (hl : (v.length : Int) = n) (hw : withB 16 v = false) : ShiftR n b qs v [] [] 2
  | big (h : CheckF n (U1 b qs) 0) (hl : (v.length : Int) = n) (hw : withB 16 v = true) (hs : withB 16 (sumL b v) = false) : ShiftR n b qs v [] [] 1
  | ok (h : CheckF n (U1 b qs) 0) (hl : (v.length : Int) = n) (hw : withB 16 v = true) (hs : withB 16 (sumL b v) = true) : ShiftR n b qs v (sumL b v) (qs.map Prod.snd) 0
theorem ShiftR.one {n : Int} {b v : List Int} {qs : List Row} {x x' : List Int} {y y' : List (List Int)} {z z' : Int} (h : ShiftR n b qs v x y z) (k : ShiftR n b qs v x' y' z') : x' = x ∧ y' = y ∧ z' = z := by
  cases h with
  | bad err h he => cases k with
    | bad err' h' he' => exact ⟨rfl, rfl, h'.one h⟩
    | len h' _ => exact absurd (h.one h') he
    | rng h' _ _ => exact absurd (h.one h') he
    | big h' _ _ _ => exact absurd (h.one h') he
    | ok h' _ _ _ => exact absurd (h.one h') he
  | len h hl => cases k with
    | bad err' h' he' => exact absurd (h'.one h) he'
    | len h' _ => exact ⟨rfl, rfl, rfl⟩
    | rng h' hl' _ => exact absurd hl' hl
    | big h' hl' _ _ => exact absurd hl' hl
    | ok h' hl' _ _ => exact absurd hl' hl
  | rng h hl hw => cases k with
    | bad err' h' he' => exact absurd (h'.one h) he'
    | len h' hl' => exact absurd hl hl'
    | rng h' hl' _ => exact ⟨rfl, rfl, rfl⟩
    | big h' hl' hw' _ => rw [hw] at hw'; cases hw'
    | ok h' hl' hw' _ => rw [hw] at hw'; cases hw'
  | big h hl hw hs => cases k with
    | bad err' h' he' => exact absurd (h'.one h) he'
    | len h' hl' => exact absurd hl hl'
    | rng h' hl' hw' => rw [hw] at hw'; cases hw'
    | big h' hl' hw' _ => exact ⟨rfl, rfl, rfl⟩
    | ok h' hl' hw' hs' => rw [hs] at hs'; cases hs'
  | ok h hl hw hs => cases k with
    | bad err' h' he' => exact absurd (h'.one h) he'
    | len h' hl' => exact absurd hl hl'
    | rng h' hl' hw' => rw [hw] at hw'; cases hw'
    | big h' hl' hw' hs' => rw [hs] at hs'; cases hs'
    | ok h' hl' hw' hs' => exact ⟨rfl, rfl, rfl⟩
def ShiftTo (n : Int) (b : List Int) (qs : List Row) (v : List Int) (w : World) (e : Ending) (w' : World) : Prop := ∃ x y z, ShiftR n b qs v x y z ∧ MoveU x y z w e w'

set_option maxRecDepth 100000 in
set_option maxHeartbeats 1000000 in
theorem limited_big (vb vp : Value) (b : List Int) (qs : List Row) (w : World) (hb : RowOk w (vb, b)) (hq : RowsP w vp qs) (h1 : 1 ≤ b.length) (h16 : ∃ x ∈ b, 16 < x) :
    Calls Try.prog 47 #[vb, vp] w (GotX w) := by
  have HB := Lib.hid hb; have H16 := Lib.hid h16
  obtain ⟨⟨ab, cb, hvb, -, -, -⟩, -, -⟩ := hb
  dsimp only at hvb
  subst hvb
  obtain ⟨ap, cp, rfl, -, -, -⟩ := hq
  clear h16
  go_enter Try.func47, Try.ntmps47
  go_wp2_with fail
  have HG1 := Lib.hid (World.grownBy_alloc w (.cells #[.slice none 0 0, .slice none 0 0] 26) none)
  refine (max_any _ b _ (HB.out.same HG1.out).1 h1).mono ?_
  rintro e w2 ⟨m, rfl, hm, rfl⟩
  have hm16 : (16 : Int) < m := by obtain ⟨x, hx, h⟩ := H16.out; have := hm.2 x hx; omega
  clear hm
  go_wp2_with fail
  refine bodyPost_ret (results_set2 rfl _ _ w.heap.size _ _ _ _ rfl (heap_new _ rfl) Try.underlying26 (by kernel_rfl)) rfl ?_
  exact ⟨rfl, HG1.out⟩

theorem big_sum {b v : List Int} (hb : ∀ x ∈ b, 0 ≤ x ∧ x ≤ 16) (hv : ∀ x ∈ v, 0 ≤ x ∧ x ≤ 16) (h : withB 16 (sumL b v) = false) : (∃ x ∈ sumL b v, 16 < x) := by
  apply Classical.byContradiction
  intro hn
  have : withB 16 (sumL b v) = true := withB_iff.2 fun x hx => ⟨sumL_lo (fun x hx => (hb x hx).1) (fun x hx => (hv x hx).1) x hx, by
    apply Classical.byContradiction
    intro h9
    exact hn ⟨x, hx, by omega⟩⟩
  rw [h] at this
  cases this
theorem sumL_hi {b v : List Int} (hb : ∀ x ∈ b, 0 ≤ x ∧ x ≤ 16) (hv : ∀ x ∈ v, 0 ≤ x ∧ x ≤ 16) : ∀ x ∈ sumL b v, 0 ≤ x ∧ x ≤ 32 := by
  intro z hz
  obtain ⟨x, hx, y, hy, rfl⟩ := mem_zipWith _ b v z hz
  have := hb x hx
  have := hv y hy
  omega
set_option maxRecDepth 100000 in
set_option maxHeartbeats 2000000 in
theorem Shift_bad {n : Int} {sv vv : Value} {b v : List Int} {qs : List Row} {w : World} (h : LinX w sv b qs) (hq : qs.length ≤ 20) (hr : RowOk w (vv, v)) (hb : ¬ (CheckF n (U1 b qs) 0 ∧ (v.length : Int) = n ∧ withB 16 v = true ∧ withB 16 (sumL b v) = true)) :
    Calls Try.prog 24 #[.int .i64 n, sv, vv] w (ShiftTo n b qs v w) := by
  have H := Lib.hid h; have HR := Lib.hid hr; have HBD := Lib.hid hb
  obtain ⟨vb, vp, rfl, hrb, hp0, hgd⟩ := h
  have HRB := Lib.hid hrb; have HP0 := Lib.hid hp0
  obtain ⟨ap, cp, rfl, -⟩ := hp0
  obtain ⟨⟨ab, cb, hvb, -⟩, -, -⟩ := hrb
  obtain ⟨⟨av, cv, hvv, -⟩, -, -⟩ := hr
  dsimp only at hvb hvv
  subst hvb hvv
  clear hb hgd
  go_enter Try.func24, Try.ntmps24
  go_wp2_with fail
  obtain ⟨k1, k2, k3⟩ := three_boxes w (.slice ab b.length cb) (.slice ap qs.length cp) (.slice none 0 0) (.slice none 0 0) 26
  have hg3 : w.grownBy (((w.alloc (.cells #[.slice ab b.length cb, .slice ap qs.length cp] 26)).alloc (.cells #[.slice none 0 0, .slice none 0 0] 26)).alloc (.cells #[.slice ab b.length cb, .slice ap qs.length cp] 26)) none := grown_after (grown_after (grown_after (grown_refl _ _)))
  generalize (((w.alloc (.cells #[.slice ab b.length cb, .slice ap qs.length cp] 26)).alloc (.cells #[.slice none 0 0, .slice none 0 0] 26)).alloc (.cells #[.slice ab b.length cb, .slice ap qs.length cp] 26)) = W at *
  refine (check_is n _ _ W (setsX_one k3 (H.out.same hg3) hq)).mono ?_
  rintro e w2 ⟨err, rfl, hf, hg2⟩
  have HF := Lib.hid (checkF_val (x' := .slice none 0 0) (y' := .slice none 0 0) hf)
  have G2 := Lib.hid (grown_trans hg3 hg2)
  have a0 := hg2.cell (cells_of k1).1 (by simp); have a1 := hg2.cell (cells_of k1).2 (by simp)
  have HH : Hid (w2.heap[w.heap.size + 1]? = some (.cells #[.slice none 0 0, .slice none 0 0] 26 (0, 0))) := Lib.hid ((hg2.block _ (Array.getElem?_eq_some_iff.1 k2).1 (by simp)).trans k2)
  clear k1 k2 k3 hg3 hg2 hf
  have A0 := Lib.hid a0; have A1 := Lib.hid a1
  clear a0 a1
  have GW : Hid (∀ w', w.grownBy w' none → w.grownBy ((w'.setCell ⟨w.heap.size + 1, 0, none⟩ (.slice none 0 0)).setCell ⟨w.heap.size + 1, 1, none⟩ (.slice none 0 0)) none) := Lib.hid (fun w' hg => grown_then hg (set_two w.heap.size w' _ _) (by rintro j ⟨⟩; exact .inl (by show w.heap.size ≤ w.heap.size + 1; omega)))
  by_cases he : err = 0
  case neg =>
    have q1 : (err != 0) = true := by simpa using he
    obtain ⟨p1, p2, p3, p4, p5⟩ := put_set (x := .slice none 0 0) (y := .slice none 0 0) HH.out
    have P1 := Lib.hid p1; have HE := Lib.hid he
    clear p1 he
    go_wp2_with fail
    refine bodyPost_ret (results_set2 rfl _ _ (w.heap.size + 1) _ _ _ _ rfl P1.out Try.underlying26 (by kernel_rfl)) rfl ?_
    exact ⟨_, _, _, .bad err HF.out HE.out, moveU_nil (GW.out _ G2.out)⟩
  subst he
  by_cases hl : (v.length : Int) = n
  case neg =>
    have q1 : ((v.length : Int) != n) = true := by simpa using hl
    obtain ⟨p1, p2, p3, p4, p5⟩ := put_set (x := .slice none 0 0) (y := .slice none 0 0) HH.out
    have P1 := Lib.hid p1; have HE := Lib.hid hl
    clear p1 hl
    go_wp2_with fail
    refine bodyPost_ret (results_set2 rfl _ _ (w.heap.size + 1) _ _ _ _ rfl P1.out Try.underlying26 (by kernel_rfl)) rfl ?_
    exact ⟨_, _, _, .len HF.out HE.out, moveU_nil (GW.out _ G2.out)⟩
  have q1 : ((v.length : Int) != n) = false := by simpa using hl
  have HL := Lib.hid hl
  clear hl
  go_wp2_with fail
  refine (within_any _ v _ _ (HR.out.same G2.out).1).mono ?_
  rintro e w9 ⟨rfl, hw9⟩
  subst hw9
  rename World => w2
  obtain ⟨B, hB⟩ : ∃ B, withB 16 v = B := ⟨_, rfl⟩
  rw [hB]
  have HB := Lib.hid hB
  clear hB
  cases B with
  | false =>
    obtain ⟨p1, p2, p3, p4, p5⟩ := put_set (x := .slice none 0 0) (y := .slice none 0 0) HH.out
    have P1 := Lib.hid p1
    clear p1
    go_wp2_with fail
    refine bodyPost_ret (results_set2 rfl _ _ (w.heap.size + 1) _ _ _ _ rfl P1.out Try.underlying26 (by kernel_rfl)) rfl ?_
    exact ⟨_, _, _, .rng HF.out HL.out HB.out, moveU_nil (GW.out _ G2.out)⟩
  | true =>
  obtain ⟨N, rfl, hn1, hn4, hval⟩ := checkF_zero HF.out
  have HV := Lib.hid hval
  have HLN : Hid (v.length = N) := Lib.hid (by have := HL.out; omega)
  have V16 := Lib.hid (withB_iff.1 HB.out)
  have HS : Hid (withB 16 (sumL b v) = false) := Lib.hid (by
    cases hs : withB 16 (sumL b v) with
    | false => rfl
    | true => exact absurd ⟨HF.out, HL.out, HB.out, hs⟩ HBD.out)
  have HSB := Lib.hid (big_sum HV.out.2.2.2.1 V16.out HS.out)
  have HQ : Hid (RowsP w (.slice ap qs.length cp) qs) := Lib.hid (HP0.out.toP1 (fun p hp => by rw [(HV.out.2.2.2.2.1 _ (List.mem_map_of_mem hp)).1.1]; exact hn1))
  have hlt2 : w.heap.size + 1 < w2.heap.size := (Array.getElem?_eq_some_iff.1 HH.out).1
  have hnn : ∀ g : Nat, some g ≠ (none : Option Nat) := by intro g; simp
  have G : Hid (w2.grownBy w2.drew none) := Lib.hid (grown_drew _ none)
  clear hval
  go_wp2_with fail
  go_region_held3 (fun w' => w'.cell? ⟨w.heap.size, 0, none⟩ = some (.slice ab b.length cb) ∧ w'.cell? ⟨w.heap.size, 1, none⟩ = some (.slice ap qs.length cp)) (first | exact ⟨G.out.cell A0.out (hnn _), G.out.cell A1.out (hnn _)⟩ | exact ⟨(set_two w.heap.size _ _ _).cell (G.out.cell A0.out (hnn _)) (by simp), (set_two w.heap.size _ _ _).cell (G.out.cell A1.out (hnn _)) (by simp)⟩) (first
    | (refine step_call 32 48 _ _ _ _ _ Try.f48 _ Try.func48 (by kernel_rfl) rfl [.slice ab b.length cb, .slice av v.length cv] (by kernel_rfl) _ (add_any _ _ b v _ ((HRB.out.same (grown_trans G2.out G.out)).ok (by show 1 ≤ b.length; rw [HV.out.2.2.1]; exact hn1)) (HR.out.same (grown_trans G2.out G.out)) (by rw [HLN.out, HV.out.2.2.1]) (by rw [HV.out.2.2.1]; omega) (fun x hx => by have := HV.out.2.2.2.1 x hx; omega) (fun x hx => by have := V16.out x hx; omega)) ?_; rintro e w32 ⟨v32, rfl, ho, hg⟩; obtain ⟨a32, c32, rfl⟩ := ownI_open ho; refine ⟨_, rfl, ?_⟩; have R32 := Lib.hid (ho.row (fun x hx => by have := sumL_hi HV.out.2.2.2.1 V16.out x hx; omega)); replace G : Hid (w2.grownBy w32 none) := Lib.hid (grown_trans G.out hg); clear ho hg)
    | (refine step_call 35 47 _ _ _ _ _ Try.f47 _ Try.func47 (by kernel_rfl) rfl [.slice a32 (sumL b v).length c32, .slice ap qs.length cp] (by kernel_rfl) _ (limited_big _ _ (sumL b v) qs _ R32.out (HQ.out.same (grown_trans G2.out G.out)) (by rw [sumL_len HV.out.2.2.1 HLN.out]; exact hn1) HSB.out) ?_; rintro e w35 ⟨rfl, hg⟩; refine ⟨_, rfl, ?_⟩; replace G : Hid (w2.grownBy w35 none) := Lib.hid (grown_trans G.out hg); obtain ⟨p1, p2, p3, p4, p5⟩ := put_set (x := .slice none 0 0) (y := .slice none 0 0) ((G.out.block _ hlt2 (by simp)).trans HH.out); have P1 := Lib.hid p1; clear hg p1))
  all_goals
    go_wp2_with fail
    clear p2 p3 p4 p5
    refine bodyPost_ret (results_set2 rfl _ _ (w.heap.size + 1) _ _ _ _ rfl P1.out Try.underlying26 (by kernel_rfl)) rfl ?_
    exact ⟨_, _, _, .big HF.out HL.out HB.out HS.out, moveU_nil (GW.out _ (grown_trans G2.out G.out))⟩
theorem Shift_is {n : Int} {sv vv : Value} {b v : List Int} {qs : List Row} {w : World} (h : LinX w sv b qs) (hq : qs.length ≤ 20) (hr : RowOk w (vv, v)) :
    Calls Try.prog 24 #[.int .i64 n, sv, vv] w (ShiftTo n b qs v w) := by
  by_cases hb : CheckF n (U1 b qs) 0 ∧ (v.length : Int) = n ∧ withB 16 v = true ∧ withB 16 (sumL b v) = true
  · obtain ⟨hf, hl, hw, hs⟩ := hb
    obtain ⟨N, rfl, hn1, hn4, hval⟩ := checkF_zero hf
    have hlin := h.lin (by rw [hval.2.2.1]; exact hn1) (fun p hp => by rw [(hval.2.2.2.2.1 _ (List.mem_map_of_mem hp)).1.1]; exact hn1)
    obtain ⟨vb, vp, rfl, -⟩ := h
    refine (Shift_any N ((vb, vp), (b, qs.map Prod.snd)) vv v w ⟨hlin, hval⟩ hr (by omega) hw (fun x hx => (withB_iff.1 hs x hx).2)).mono ?_
    intro e w' hg
    exact ⟨_, _, _, .ok hf hl hw hs, hg.u⟩
  · exact Shift_bad h hq hr hb

end Go.Proofs.Ytoaoheblaidhmaa

namespace Go.Proofs.Ytoaoheblaidhmaa
open Go.RowKit
set_option linter.unusedVariables false

theorem OwnS.lin {w : World} {base : Nat} {vb vp : Value} {b : List Int} {ps : List Row} (h : OwnS w base vb vp b ps) (hb : ∀ x ∈ b, -9223372036854775808 ≤ x ∧ x ≤ 9223372036854775807) : LinV w (.agg #[vb, vp]) b (ps.map Prod.snd) :=
  ⟨_, _, ps, rfl, h.1.row hb, h.2.1.rows, h.2.1.good, rfl⟩
set_option maxRecDepth 100000 in
set_option maxHeartbeats 2000000 in
theorem rShift_is {n : Int} {sv vv : Value} {b v : List Int} {qs : List Row} {w : World} (h : LinX w sv b qs) (hq : qs.length ≤ 20) (hr : RowOk w (vv, v)) :
    Calls Try.prog 25 #[.int .i64 n, sv, vv] w (ShiftTo n b qs v w) := by
  have H := Lib.hid h; have HR := Lib.hid hr
  obtain ⟨vb, vp, rfl, hrb, hp0, hgd⟩ := h
  have HRB := Lib.hid hrb; have HP0 := Lib.hid hp0
  obtain ⟨ap, cp, rfl, -⟩ := hp0
  obtain ⟨⟨ab, cb, hvb, -⟩, -, -⟩ := hrb
  obtain ⟨⟨av, cv, hvv, -⟩, -, -⟩ := hr
  dsimp only at hvb hvv
  subst hvb hvv
  clear hgd
  go_enter Try.func25, Try.ntmps25
  go_wp2_with fail
  obtain ⟨k1, k2, k3⟩ := three_boxes w (.slice ab b.length cb) (.slice ap qs.length cp) (.slice none 0 0) (.slice none 0 0) 26
  have hg3 : w.grownBy (((w.alloc (.cells #[.slice ab b.length cb, .slice ap qs.length cp] 26)).alloc (.cells #[.slice none 0 0, .slice none 0 0] 26)).alloc (.cells #[.slice ab b.length cb, .slice ap qs.length cp] 26)) none := grown_after (grown_after (grown_after (grown_refl _ _)))
  generalize (((w.alloc (.cells #[.slice ab b.length cb, .slice ap qs.length cp] 26)).alloc (.cells #[.slice none 0 0, .slice none 0 0] 26)).alloc (.cells #[.slice ab b.length cb, .slice ap qs.length cp] 26)) = W at *
  refine (rcheck13_is n _ _ W (setsX_one k3 (H.out.same hg3) hq)).mono ?_
  rintro e w2 ⟨err, rfl, hf, hg2⟩
  have HF := Lib.hid (checkF_val (x' := .slice none 0 0) (y' := .slice none 0 0) hf)
  have G2 := Lib.hid (grown_trans hg3 hg2)
  have a0 := hg2.cell (cells_of k1).1 (by simp); have a1 := hg2.cell (cells_of k1).2 (by simp)
  have HH : Hid (w2.heap[w.heap.size + 1]? = some (.cells #[.slice none 0 0, .slice none 0 0] 26 (0, 0))) := Lib.hid ((hg2.block _ (Array.getElem?_eq_some_iff.1 k2).1 (by simp)).trans k2)
  clear k1 k2 k3 hg3 hg2 hf
  have GW : Hid (∀ w' x y, w.grownBy w' none → w.grownBy ((w'.setCell ⟨w.heap.size + 1, 0, none⟩ x).setCell ⟨w.heap.size + 1, 1, none⟩ y) none) := Lib.hid (fun w' x y hg => grown_then hg (set_two w.heap.size w' _ _) (by rintro j ⟨⟩; exact .inl (by show w.heap.size ≤ w.heap.size + 1; omega)))
  by_cases he : err = 0
  case neg =>
    have q1 : (err != 0) = true := by simpa using he
    obtain ⟨p1, p2, p3, p4, p5⟩ := put_set (x := .slice none 0 0) (y := .slice none 0 0) HH.out
    have P1 := Lib.hid p1; have HE := Lib.hid he
    clear p1 he
    go_wp2_with fail
    refine bodyPost_ret (results_set2 rfl _ _ (w.heap.size + 1) _ _ _ _ rfl P1.out Try.underlying26 (by kernel_rfl)) rfl ?_
    exact ⟨_, _, _, .bad err HF.out HE.out, moveU_nil (GW.out _ _ _ G2.out)⟩
  subst he
  by_cases hl : (v.length : Int) = n
  case neg =>
    have q1 : ((v.length : Int) != n) = true := by simpa using hl
    obtain ⟨p1, p2, p3, p4, p5⟩ := put_set (x := .slice none 0 0) (y := .slice none 0 0) HH.out
    have P1 := Lib.hid p1; have HE := Lib.hid hl
    clear p1 hl
    go_wp2_with fail
    refine bodyPost_ret (results_set2 rfl _ _ (w.heap.size + 1) _ _ _ _ rfl P1.out Try.underlying26 (by kernel_rfl)) rfl ?_
    exact ⟨_, _, _, .len HF.out HE.out, moveU_nil (GW.out _ _ _ G2.out)⟩
  have q1 : ((v.length : Int) != n) = false := by simpa using hl
  have HL := Lib.hid hl
  clear hl
  go_wp2_with fail
  refine (rnumbers_is _ _ _ _ (HR.out.same G2.out).1).mono ?_
  rintro e w9 ⟨rfl, hw9⟩
  subst hw9
  rename World => w2
  obtain ⟨B, hB⟩ : ∃ B, withB 16 v = B := ⟨_, rfl⟩
  rw [hB]
  have HB := Lib.hid hB
  clear hB
  cases B with
  | false =>
    obtain ⟨p1, p2, p3, p4, p5⟩ := put_set (x := .slice none 0 0) (y := .slice none 0 0) HH.out
    have P1 := Lib.hid p1
    clear p1
    go_wp2_with fail
    refine bodyPost_ret (results_set2 rfl _ _ (w.heap.size + 1) _ _ _ _ rfl P1.out Try.underlying26 (by kernel_rfl)) rfl ?_
    exact ⟨_, _, _, .rng HF.out HL.out HB.out, moveU_nil (GW.out _ _ _ G2.out)⟩
  | true =>
  obtain ⟨N, rfl, hn1, hn4, hval⟩ := checkF_zero HF.out
  have HV := Lib.hid hval
  have HLN : Hid (v.length = N) := Lib.hid (by have := HL.out; omega)
  have V16 := Lib.hid (withB_iff.1 HB.out)
  have HLIN : Hid (LinV w2 (.agg #[.slice ab b.length cb, .slice ap qs.length cp]) b (qs.map Prod.snd)) := Lib.hid ((H.out.lin (by rw [HV.out.2.2.1]; exact hn1) (fun p hp => by rw [(HV.out.2.2.2.2.1 _ (List.mem_map_of_mem hp)).1.1]; exact hn1)).same G2.out)
  clear hval
  go_wp2_with fail
  refine (rmoved_any HLIN.out (HR.out.same G2.out) (by rw [HLN.out, HV.out.2.2.1]) (by rw [HV.out.2.2.1]; exact hn1) (by rw [HV.out.2.2.1]; omega) (fun r hr => by rw [(HV.out.2.2.2.2.1 r hr).1.1]; omega) (by rw [List.length_map]; omega) HV.out.2.2.2.1 V16.out).mono ?_
  rintro e w3 ⟨hg, hm⟩
  have G3 := Lib.hid (grown_trans G2.out hg)
  have H3 := Lib.hid (box_none HH.out hg)
  have BW : Hid (w.heap.size + 1 < w2.heap.size) := Lib.hid (Array.getElem?_eq_some_iff.1 HH.out).1
  clear hg a0 a1
  rcases hm with ⟨hs, vb2, vp2, ps, rfl, hos, hps⟩ | ⟨hs, rfl⟩
  · have HOS := Lib.hid hos; have HPS := Lib.hid hps; have HS := Lib.hid hs
    obtain ⟨a2, c2, rfl⟩ := ownI_open hos.1
    obtain ⟨a3, c3, rfl⟩ := hos.2.1.slice
    obtain ⟨p1, p2, p3, p4, p5⟩ := put_set (x := .slice a2 (sumL b v).length c2) (y := .slice a3 ps.length c3) H3.out
    have P1 := Lib.hid p1
    clear p1 hos hps hs
    go_wp2_with fail
    clear p2 p3 p4 p5
    refine bodyPost_ret (results_set2 rfl _ _ (w.heap.size + 1) _ _ _ _ rfl P1.out Try.underlying26 (by kernel_rfl)) rfl ?_
    have hbw := BW.out
    have HO := HOS.out
    have GS := set_two w.heap.size w3 (.slice a2 (sumL b v).length c2) (.slice a3 ps.length c3)
    refine ⟨_, _, _, .ok HF.out HL.out HB.out HS.out, ⟨_, rfl, HPS.out ▸ OwnS.lin (base := w2.heap.size) ⟨HO.1.keptB1 GS (fun i hi e => by have h7 : w.heap.size + 1 = i := Option.some.inj hi; have := (HO.1.fresh _ e).1; omega), HO.2.1.keptB1 GS (fun i hi e => by have h7 : w.heap.size + 1 = i := Option.some.inj hi; have := (HO.2.1.fresh _ e).1; omega) (fun q hq i hi e => by have h7 : w.heap.size + 1 = i := Option.some.inj hi; have := HO.2.2.1 q hq i e; omega), HO.2.2⟩ (fun x hx => by have := sumL_hi HV.out.2.2.2.1 V16.out x hx; omega), GW.out _ _ _ G3.out⟩⟩
  · obtain ⟨p1, p2, p3, p4, p5⟩ := put_set (x := .slice none 0 0) (y := .slice none 0 0) H3.out
    have P1 := Lib.hid p1; have HS := Lib.hid hs
    clear p1 hs
    go_wp2_with fail
    clear p2 p3 p4 p5
    refine bodyPost_ret (results_set2 rfl _ _ (w.heap.size + 1) _ _ _ _ rfl P1.out Try.underlying26 (by kernel_rfl)) rfl ?_
    exact ⟨_, _, _, .big HF.out HL.out HB.out HS.out, moveU_nil (GW.out _ _ _ G3.out)⟩
/-- Shift: one answer for both sides. -/
theorem shift_u (n : Int) (b v : List Int) (qs : List Row) (hq : qs.length ≤ 20) : ∃ x y z, (∀ w sv vv, LinX w sv b qs → RowOk w (vv, v) → Calls Try.prog 24 #[.int .i64 n, sv, vv] w (MoveU x y z w)) ∧ (∀ w sv vv, LinX w sv b qs → RowOk w (vv, v) → Calls Try.prog 25 #[.int .i64 n, sv, vv] w (MoveU x y z w)) ∧ x.length ≤ 1000 ∧ y.length ≤ 1000 ∧ (∀ r ∈ y, r.length ≤ 1000) := by
  obtain ⟨err, hp, -⟩ := check_u n (U1 b qs)
  by_cases hex : ∃ x y z, ShiftR n b qs v x y z
  · obtain ⟨x, y, z, hR⟩ := hex
    refine ⟨x, y, z, fun w sv vv h1 h2 => (Shift_is h1 hq h2).mono fun e w' ⟨x', y', z', h3, h4⟩ => ?_, fun w sv vv h1 h2 => (rShift_is h1 hq h2).mono fun e w' ⟨x', y', z', h3, h4⟩ => ?_, ?_⟩
    · obtain ⟨rfl, rfl, rfl⟩ := hR.one h3; exact h4
    · obtain ⟨rfl, rfl, rfl⟩ := hR.one h3; exact h4
    · cases hR with
      | ok h hl hw hs =>
        obtain ⟨N, rfl, hn1, hn4, hval⟩ := checkF_zero h
        refine ⟨by rw [sumL_len hval.2.2.1 (by omega : v.length = N)]; omega, by rw [List.length_map]; omega, fun r hr => by rw [(hval.2.2.2.2.1 r hr).1.1]; omega⟩
      | _ => exact ⟨by simp, by simp, by simp⟩
  · refine ⟨[], [], 0, fun w sv vv h1 h2 => (Shift_is h1 hq h2).mono fun e w' ⟨x', y', z', h3, h4⟩ => absurd ⟨_, _, _, h3⟩ hex, fun w sv vv h1 h2 => (rShift_is h1 hq h2).mono fun e w' ⟨x', y', z', h3, h4⟩ => absurd ⟨_, _, _, h3⟩ hex, by simp, by simp, by simp⟩

end Go.Proofs.Ytoaoheblaidhmaa
