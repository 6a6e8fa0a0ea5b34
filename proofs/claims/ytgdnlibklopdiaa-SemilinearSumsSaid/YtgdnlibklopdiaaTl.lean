/- Laws 13: what they share. -/
import Derived.Test.YtgdnlibklopdiaaTk
namespace Go.Proofs.Ytgdnlibklopdiaa
open Go.RowKit
set_option linter.unusedVariables false

theorem wanted_step {c : Bool} {A B : Prop} (h : c = true) (ha : A) : (if c = true then A else B) := by rw [if_pos h]; exact ha
/-- A call whose guard is decided. -/
theorem oper_call {a : Act} {w : World} {K : Act → World → Prop} {Q : Exit → Act → World → Prop} (d : Nat) (F : FuncId) (xs : List Operand) (tys : Array TypeId) (ty : TypeId) (pos : String) (af : Array Edge) (gd : Option (Nat × Bool))
    (fn : Func) (c : Code) (hf : Try.prog.funcs[F]? = some fn) (hname : (fn.name == "runtime.NumGoroutine") = false) (hb : fn.body = some c) (vs : List Value) (he : xs.map a.eval = vs) (Post : Ending → World → Prop) (hc : Calls Try.prog F vs.toArray w Post)
    (k : ∀ e w', Post e w' → ∃ v, e = .returned v ∧ K (a.put (some d) v) w') :
    Oper.wp Try.prog { dst := some d, op := .call { callee := .value (.func F), args := xs.toArray, argTypes := tys }, type := ty, pos := pos, after := af, guard := gd } a w K Q := by
  subst he
  unfold Oper.wp execOp
  have h1 : fn.name ≠ "runtime.NumGoroutine" := by simpa using hname
  have hrun : (callFunc F (xs.map a.eval).toArray).run Try.prog w = .ok (.enter F (xs.map a.eval).toArray) w := by simp [callFunc, hf, h1, hb]
  simp only [resolve, Deferred.ofValue, List.map_toArray]
  go_simp
  refine hc.mono ?_
  intro e w1 hp
  obtain ⟨v, rfl, hk⟩ := k e w1 hp
  exact hk

theorem LinD.step {w w' : World} {d n : Nat} {v : Value} {b : List Int} {ps : List (List Int)} (h : LinD w d n v b ps) (g : w.grownBy w' none) : LinD w' d n v b ps := by
  obtain ⟨vb, vp, qs, h0, h1, h2, h3⟩ := h
  exact ⟨vb, vp, qs, h0, h1.step g, h2.same g, h3⟩
theorem LinD.deal {w w' : World} {d n : Nat} {v : Value} {b : List Int} {ps : List (List Int)} (h : LinD w d n v b ps) (g : w.grownBy w' (some d)) : LinD w' d n v b ps := by
  obtain ⟨vb, vp, qs, h0, h1, h2, h3, h4, h5⟩ := h
  exact ⟨vb, vp, qs, h0, h1.deal g, h2.far h4 (Nat.le_refl _) g, h3, h4, h5⟩
theorem LinD.lin {w : World} {d n : Nat} {v : Value} {b : List Int} {ps : List (List Int)} (h : LinD w d n v b ps) : LinV w v b ps := by
  obtain ⟨vb, vp, qs, h0, h1, h2, h3, h4, h5, -⟩ := h
  exact ⟨vb, vp, qs, h0, h1.1, h2, h3, h5⟩
theorem LinD.valid {w : World} {d n : Nat} {v : Value} {b : List Int} {ps : List (List Int)} (h : LinD w d n v b ps) : ValidS n b ps := by
  obtain ⟨vb, vp, qs, h0, h1, h2, h3, h4, h5, h6, -⟩ := h
  exact h6
theorem LinD.small {w : World} {d n : Nat} {v : Value} {b : List Int} {ps : List (List Int)} (h : LinD w d n v b ps) : (∀ x ∈ b, x ≤ 4) ∧ ∀ p ∈ ps, ∀ x ∈ p, x ≤ 4 := by
  obtain ⟨vb, vp, qs, h0, h1, h2, h3, h4, h5, h6, h7⟩ := h
  exact h7
/-- The value of a dealt set, opened. -/
theorem LinD.open {w : World} {d n : Nat} {v : Value} {b : List Int} {ps : List (List Int)} (h : LinD w d n v b ps) : ∃ ab cb ap cp, v = .agg #[.slice ab b.length cb, .slice ap ps.length cp] := by
  obtain ⟨vb, vp, qs, rfl, ⟨⟨⟨ab, cb, hvb, -⟩, -⟩, -⟩, ⟨ap, cp, hvp, -⟩, -, -, rfl, -⟩ := h
  dsimp only at hvb
  subst hvb hvp
  exact ⟨ab, cb, ap, cp, by rw [List.length_map]⟩
theorem LinD.ok {w : World} {d n : Nat} {x y : Value} {b : List Int} {ps : List (List Int)} (h : LinD w d n (.agg #[x, y]) b ps) : SetOk w n ((x, y), (b, ps)) := ⟨h.lin, h.valid⟩
/-- The two cells of a variable that holds a set. -/
def BoxD (w : World) (d g : Nat) (x y : Value) : Prop := w.cell? ⟨g, 0, none⟩ = some x ∧ w.cell? ⟨g, 1, none⟩ = some y ∧ d < g
theorem BoxD.step {w w' : World} {d g : Nat} {x y : Value} (h : BoxD w d g x y) (k : w.grownBy w' none) : BoxD w' d g x y := ⟨k.cell h.1 (by simp), k.cell h.2.1 (by simp), h.2.2⟩
theorem BoxD.deal {w w' : World} {d g : Nat} {x y : Value} (h : BoxD w d g x y) (k : w.grownBy w' (some d)) : BoxD w' d g x y := by
  have := h.2.2
  exact ⟨k.cell h.1 (by simp; omega), k.cell h.2.1 (by simp; omega), h.2.2⟩
theorem BoxD.new {w : World} {d : Nat} {x y : Value} {e : TypeId} (h : d < w.heap.size) : BoxD (w.alloc (.cells #[x, y] e)) d w.heap.size x y :=
  ⟨(cells_of (heap_new _ rfl)).1, (cells_of (heap_new _ rfl)).2, h⟩
theorem BoxD.two {w : World} {d : Nat} {x y x' y' : Value} {e : TypeId} (h : d < w.heap.size) : BoxD ((w.alloc (.cells #[x, y] e)).alloc (.cells #[x', y'] e)) d w.heap.size x y ∧ BoxD ((w.alloc (.cells #[x, y] e)).alloc (.cells #[x', y'] e)) d (w.heap.size + 1) x' y' := by
  have h1 : ((w.alloc (.cells #[x, y] e)).alloc (.cells #[x', y'] e)).heap[w.heap.size + 1]? = some (.cells #[x', y'] e (0, 0)) := heap_new _ (by show _ = (w.heap.push _).size; simp)
  exact ⟨(BoxD.new h).step (World.grownBy_alloc _ _ none), (cells_of h1).1, (cells_of h1).2, by omega⟩
theorem cells_two {w : World} {g : Nat} {x y x' y' : Value} {e : TypeId} {f : Nat × Nat} (h : w.heap[g]? = some (.cells #[x, y, x', y'] e f)) : CellsS w g 0 [(x, y), (x', y')] := by
  intro i hi
  match i, hi with
  | 0, _ => exact ⟨by unfold World.cell?; dsimp only; rw [h]; rfl, by unfold World.cell?; dsimp only; rw [h]; rfl⟩
  | 1, _ => exact ⟨by unfold World.cell?; dsimp only; rw [h]; rfl, by unfold World.cell?; dsimp only; rw [h]; rfl⟩
theorem CellsS.head {w : World} {g : Nat} {u v : Value × Value} (h : CellsS w g 0 [u, v]) : CellsS w g 0 [u] := fun i hi => by
  have : i = 0 := by simpa using hi
  subst this
  exact h 0 (by simp)
theorem CellsS.last {w : World} {g : Nat} {u v : Value × Value} (h : CellsS w g 0 [u, v]) : CellsS w g 2 [v] := fun i hi => by
  have : i = 0 := by simpa using hi
  subst this
  exact h 1 (by simp)
theorem grown_wide {w w' : World} {d : Nat} (h : w.grownBy w' none) : w.grownBy w' (some d) := grown_then (grown_refl _ _) h (by simp)
theorem ne_some {d e : Nat} (h : d < e) : some e ≠ some d := by simp; omega
theorem OwnI.same1 {w w' : World} {base : Nat} {v : Value} {xs : List Int} (h : OwnI w base v xs) (g : w.grownBy w' none) : OwnI w' base v xs := h.kept g (by simp)
theorem OwnI.deal {w w' : World} {base d : Nat} {v : Value} {xs : List Int} (h : OwnI w base v xs) (hd : d < base) (g : w.grownBy w' (some d)) : OwnI w' base v xs := h.kept g (by rintro j ⟨⟩; exact hd)
theorem CellsS.far {w w' : World} {b off d : Nat} {us : List (Value × Value)} (h : CellsS w b off us) (hd : d ≠ b) (g : w.grownBy w' (some d)) : CellsS w' b off us :=
  fun i hi => ⟨g.cell (h i hi).1 (by simp; omega), g.cell (h i hi).2 (by simp; omega)⟩
theorem sum_step {n j : Nat} {p v zs : List Int} (hp : p.length = n) (hv : v.length = n) (hz : zs.length = n) (hj : j < n)
    (ht : zs.take j = (sumL v p).take j) (hd : zs.drop j = v.drop j) :
    zs[j]?.getD 0 = v[j]?.getD 0 ∧ (zs.set j (zs[j]?.getD 0 + p[j]?.getD 0)).take (j + 1) = (sumL v p).take (j + 1) ∧ (zs.set j (zs[j]?.getD 0 + p[j]?.getD 0)).drop (j + 1) = v.drop (j + 1) := by
  have e0 : zs[j]?.getD 0 = v[j]?.getD 0 := by
    have h1 : (zs.drop j)[0]? = (v.drop j)[0]? := by rw [hd]
    rw [List.getElem?_drop, List.getElem?_drop] at h1
    simpa using congrArg (fun o => o.getD 0) h1
  refine ⟨e0, ?_, ?_⟩
  · have e1 : zs[j]?.getD 0 + p[j]?.getD 0 = (sumL v p)[j]?.getD 0 := by
      rw [e0]
      exact (zip_at _ v p j (by omega) (by omega)).symm
    rw [e1]
    exact set_take zs _ j (by rw [hz, sumL_len hv hp]) (by rw [sumL_len hv hp]; exact hj) ht
  · rw [List.drop_set_of_lt (by omega)]
    have : (zs.drop j).drop 1 = (v.drop j).drop 1 := by rw [hd]
    simpa [List.drop_drop, Nat.add_comm] using this
theorem anyS_two {u v : SetE} {x : List Int} : AnyS [u, v] x ↔ AnyS [u] x ∨ AnyS [v] x := by
  unfold AnyS
  simp
theorem LinD.at {w : World} {d n : Nat} {a b : Option Addr} {x y c k : Nat} {B : List Int} {P : List (List Int)} (h : LinD w d n (.agg #[.slice a x y, .slice b P.length c]) B P) (hk : k < P.length) :
    ∃ pv pc e o, b = some ⟨e, o, none⟩ ∧ w.cell? ⟨e, o + k, none⟩ = some (.slice pv (P[k]).length pc) ∧ RVec w d (.slice pv (P[k]).length pc) (P[k]) ∧ P.length ≤ c ∧ d < e := by
  obtain ⟨vb, vp, qs, he, -, h2, hgd, h4, rfl, -⟩ := h
  simp only [Value.agg.injEq, Array.mk.injEq, List.cons.injEq, and_true] at he
  obtain ⟨-, rfl⟩ := he
  have hk' : k < qs.length := by simpa using hk
  obtain ⟨a1, cap, hv, -, hc, hr⟩ := h2
  simp only [Value.slice.injEq] at hv
  obtain ⟨rfl, -, rfl⟩ := hv
  obtain ⟨e, o, rfl, hx⟩ := RowsP.at hc hk'
  have hrk := hr _ (List.getElem_mem hk')
  obtain ⟨⟨pv, pc, hp, -⟩, -⟩ := hrk
  have e1 : (qs.map Prod.snd)[k] = (qs[k]).2 := by simp
  refine ⟨pv, pc, e, o, rfl, by rw [hx, hp, e1], ?_, hgd.2 _ _ _ rfl, h4.1 e rfl⟩
  rw [e1, ← hp]
  exact ⟨hr _ (List.getElem_mem hk'), h4.2 _ (List.getElem_mem hk')⟩
theorem addk_sum : ∀ (t : Int) (p v : List Int), addk (t + 1) p v = sumL (addk t p v) p
  | t, [], v => by cases v <;> simp [addk, sumL]
  | t, x :: p, [] => by simp [addk, sumL]
  | t, x :: p, y :: v => by
    have := addk_sum t p v
    simp only [addk, sumL, List.zipWith_cons_cons] at this ⊢
    rw [this, Int.add_mul]
    congr 1
    omega
theorem addk_sum_comm : ∀ (t : Int) (p v x : List Int), addk t p (sumL v x) = sumL (addk t p v) x
  | t, p, [], x => by cases p <;> cases x <;> simp [addk, sumL]
  | t, p, y :: v, [] => by cases p <;> simp [addk, sumL]
  | t, [], y :: v, z :: x => by simp [addk, sumL]
  | t, w :: p, y :: v, z :: x => by
    have := addk_sum_comm t p v x
    simp only [addk, sumL, List.zipWith_cons_cons] at this ⊢
    rw [this]
    congr 1
    omega
theorem madeL_sum : ∀ (ps : List (List Int)) (ts b x : List Int), madeL (sumL b x) ps ts = sumL (madeL b ps ts) x
  | [], _, b, x => by simp [madeL]
  | p :: ps, [], b, x => by simp [madeL]
  | p :: ps, t :: ts, b, x => by
    unfold madeL
    rw [addk_sum_comm, madeL_sum]
/-- One period more. -/
theorem madeL_more : ∀ (ps : List (List Int)) (ts b : List Int) (k : Nat) (hk : k < ps.length), ts.length = ps.length → madeL b ps (ts.set k (ts[k]?.getD 0 + 1)) = sumL (madeL b ps ts) (ps[k])
  | p :: ps, t :: ts, b, 0, _, _ => by
    simp only [List.set_cons_zero, List.getElem?_cons_zero, Option.getD_some, List.getElem_cons_zero]
    unfold madeL
    rw [addk_sum, madeL_sum]
  | p :: ps, t :: ts, b, k + 1, hk, hl => by
    have := madeL_more ps ts (addk t p b) k (by simpa using hk) (by simpa using hl)
    simp only [List.set_cons_succ, List.getElem?_cons_succ, List.getElem_cons_succ]
    unfold madeL
    exact this
  | [], _, _, k, hk, _ => by simp at hk
  | _ :: _, [], _, _, _, hl => by simp at hl
def DealsR (P : Int → Prop) (n : Nat) (w0 w : World) (p : Value) (d : Nat) (e : Ending) (w' : World) : Prop :=
  ∃ v xs, e = .returned v ∧ xs.length = n ∧ (∀ x ∈ xs, P x) ∧ RVec w' d v xs ∧ St w0 w' p d ∧ w.grownBy w' (some d)
theorem small_rv {w0 w : World} {p : Value} {d : Nat} (h : St w0 w p d) (n : Nat) (most : Int) (h1 : n ≤ 1000) (h2 : 0 ≤ most) (h3 : most ≤ 1000000) :
    Calls Try.prog 30 #[p, .int .i64 (n : Int), .int .i64 most] w (DealsR (fun x => 0 ≤ x ∧ x ≤ most) n w0 w p d) :=
  (small_any p d n most w h.1 (by omega) h2 h3).mono fun e w' ⟨v, xs, he, hl, hp, ho, hd, hg⟩ => ⟨v, xs, he, by rw [hl]; simp, hp, ho.rvec (by intro x hx; have := hp x hx; omega) h.lt, h.deal hd hg, hg⟩

theorem lessL_iff : ∀ {n : Nat} {v b : List Int}, v.length = n → b.length = n → ((∀ x ∈ lessL v b, x = 0) ↔ b = v)
  | 0, [], [], _, _ => by simp [lessL]
  | n + 1, x :: v, y :: b, hv, hb => by
    have ih := lessL_iff (n := n) (v := v) (b := b) (by simpa using hv) (by simpa using hb)
    simp only [lessL, List.zipWith_cons_cons, List.mem_cons, forall_eq_or_imp, List.cons.injEq] at ih ⊢
    rw [ih]
    constructor
    · rintro ⟨h1, h2⟩; exact ⟨by omega, h2⟩
    · rintro ⟨h1, h2⟩; exact ⟨by omega, h2⟩
  | 0, _ :: _, _, h, _ => by simp at h
  | 0, [], _ :: _, _, h => by simp at h
  | _ + 1, [], _, h, _ => by simp at h
  | _ + 1, _ :: _, [], _, h => by simp at h
/-- Solutions are multiples that make the vector. -/
theorem sol_made {n : Nat} {v : List Int} (hv : v.length = n) : ∀ (ps : List (List Int)) (ks b : List Int), (∀ p ∈ ps, p.length = n) → b.length = n →
    (Sol ps ks (lessL v b) ↔ ks.length = ps.length ∧ (∀ k ∈ ks, 0 ≤ k) ∧ madeL b ps ks = v)
  | [], [], b, _, hb => by
    unfold Sol madeL
    rw [lessL_iff hv hb]
    simp
  | p :: ps, k :: ks, b, hp, hb => by
    have ih := sol_made hv ps ks (addk k p b) (fun q hq => hp q (by simp [hq])) (addk_len (hp p (by simp)) hb)
    unfold Sol madeL
    rw [subk_less, ih]
    simp only [List.length_cons, List.mem_cons, forall_eq_or_imp, Nat.add_right_cancel_iff]
    constructor
    · rintro ⟨h0, h1, h2, h3⟩; exact ⟨h1, ⟨h0, h2⟩, h3⟩
    · rintro ⟨h1, ⟨h0, h2⟩, h3⟩; exact ⟨h0, h1, h2, h3⟩
  | [], _ :: _, _, _, _ => by simp [Sol]
  | _ :: _, [], _, _, _ => by simp [Sol]
theorem madeL_small {n : Nat} : ∀ (ps : List (List Int)) (ts b : List Int) (M T : Int), (∀ p ∈ ps, PerOk n p ∧ ∀ x ∈ p, x ≤ 4) → b.length = n → 0 ≤ T → (∀ t ∈ ts, 0 ≤ t ∧ t ≤ T) → 0 ≤ M → (∀ x ∈ b, 0 ≤ x ∧ x ≤ M) → ∀ x ∈ madeL b ps ts, 0 ≤ x ∧ x ≤ M + 4 * T * ps.length
  | [], _, b, M, T, _, _, _, _, _, h => by unfold madeL; simpa using h
  | p :: ps, [], b, M, T, _, _, hT, _, _, h => by
    unfold madeL
    intro x hx
    have := h x hx
    have h2 : 0 ≤ 4 * T * ((p :: ps).length : Int) := Int.mul_nonneg (by omega) (by omega)
    omega
  | p :: ps, t :: ts, b, M, T, hp, hb, hT, ht, hM, h => by
    unfold madeL
    have h1 : ∀ x ∈ addk t p b, 0 ≤ x ∧ x ≤ M + 4 * T := by
      intro z hz
      obtain ⟨x, hx, y, hy, rfl⟩ := mem_zipWith _ b p z hz
      have a1 := h x hx
      have a2 := (hp p (by simp)).1.1.2 y hy
      have a3 := (hp p (by simp)).2 y hy
      have a4 := ht t (by simp)
      have a5 := Int.mul_nonneg a4.1 a2
      have a6 : t * y ≤ T * 4 := Int.mul_le_mul a4.2 a3 a2 hT
      omega
    have := madeL_small ps ts (addk t p b) (M + 4 * T) T (fun q hq => hp q (by simp [hq])) (addk_len (hp p (by simp)).1.1.1 hb) hT (fun u hu => ht u (by simp [hu])) (by omega) h1
    intro x hx
    have := this x hx
    rw [show (((p :: ps).length : Nat) : Int) = (ps.length : Int) + 1 by simp, Int.mul_add]
    omega
theorem addk_zero : ∀ (p b : List Int), p.length = b.length → addk 0 p b = b
  | [], [], _ => rfl
  | x :: p, y :: b, h => by
    have := addk_zero p b (by simpa using h)
    simp only [addk, List.zipWith_cons_cons, Int.zero_mul, Int.add_zero] at this ⊢
    rw [this]
  | [], _ :: _, h => by simp at h
  | _ :: _, [], h => by simp at h
theorem madeL_zero : ∀ (ps : List (List Int)) (b : List Int), (∀ p ∈ ps, p.length = b.length) → madeL b ps (List.replicate ps.length 0) = b
  | [], b, _ => rfl
  | p :: ps, b, h => by
    simp only [List.length_cons, List.replicate_succ]
    unfold madeL
    rw [addk_zero p b (h p (by simp))]
    exact madeL_zero ps b (fun q hq => h q (by simp [hq]))
theorem sol_self {n : Nat} {b : List Int} {ps : List (List Int)} (h : ValidS n b ps) : SolE ps (lessL b b) :=
  ⟨List.replicate ps.length 0, (sol_made h.2.2.1 ps _ b (fun p hp => (h.2.2.2.2.1 p hp).1.1) h.2.2.1).2 ⟨by simp, fun k hk => by rw [List.eq_of_mem_replicate hk]; omega, madeL_zero ps b (fun p hp => by rw [(h.2.2.2.2.1 p hp).1.1, h.2.2.1])⟩⟩
theorem LinD.base {w : World} {d n : Nat} {a : Option Addr} {x c : Nat} {y : Value} {B : List Int} {P : List (List Int)} (h : LinD w d n (.agg #[.slice a x c, y]) B P) : RVec w d (.slice a x c) B := by
  obtain ⟨vb, vp, qs, he, h1, -⟩ := h
  simp only [Value.agg.injEq, Array.mk.injEq, List.cons.injEq, and_true] at he
  obtain ⟨rfl, -⟩ := he
  exact h1
theorem ValidS.w64 {n : Nat} {b : List Int} {ps : List (List Int)} (h : ValidS n b ps) : withB 64 b = true := withB_iff.2 fun x hx => by have := h.2.2.2.1 x hx; omega
theorem LinD.per {w : World} {d n : Nat} {v : Value} {b : List Int} {ps : List (List Int)} (h : LinD w d n v b ps) : ∀ p ∈ ps, PerOk n p ∧ ∀ x ∈ p, x ≤ 4 := fun p hp => ⟨h.valid.2.2.2.2.1 p hp, h.small.2 p hp⟩
theorem LinD.bas {w : World} {d n : Nat} {v : Value} {b : List Int} {ps : List (List Int)} (h : LinD w d n v b ps) : ∀ x ∈ b, 0 ≤ x ∧ x ≤ 4 := fun x hx => ⟨(h.valid.2.2.2.1 x hx).1, h.small.1 x hx⟩
/-- What multiples up to 4 make. -/
theorem LinD.made {w : World} {d n : Nat} {v : Value} {b ts : List Int} {ps : List (List Int)} (h : LinD w d n v b ps) (ht : ∀ t ∈ ts, 0 ≤ t ∧ t ≤ 4) : (madeL b ps ts).length = n ∧ ∀ x ∈ madeL b ps ts, 0 ≤ x ∧ x ≤ 52 := by
  refine ⟨madeL_len ps ts b (fun p hp => (h.per p hp).1.1.1) h.valid.2.2.1, fun x hx => ?_⟩
  have h1 := madeL_small ps ts b 4 4 h.per h.valid.2.2.1 (by omega) ht (by omega) h.bas x hx
  have h2 := h.valid.2.2.2.2.2.1
  omega
theorem compare_lex {a b : List Int} (h : a.length = b.length) : compareI a b = lexI a b := by unfold compareI; rw [h]; simp

end Go.Proofs.Ytgdnlibklopdiaa
