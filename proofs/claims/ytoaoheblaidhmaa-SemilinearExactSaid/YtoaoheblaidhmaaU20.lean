/- Texts Tl, Tp, Tq in one. -/
import Derived.Test.YtoaoheblaidhmaaU19
import Derived.Test.YtoaoheblaidhmaaU4
import Derived.Test.YtoaoheblaidhmaaU5
namespace Go.Proofs.Ytoaoheblaidhmaa
open Go.RowKit
set_option linter.unusedVariables false

theorem wanted_step {c : Bool} {A B : Prop} (h : c = true) (ha : A) : (if c = true then A else B) := by rw [if_pos h]; exact ha
/-- A call whose guard is decided. -/
theorem oper_call {a : Act} {w : World} {K : Act → World → Prop} {Q : Exit → Act → World → Prop} (d : Nat) (F : FuncId) (xs : List Operand) (tys : Array TypeId) (ty : TypeId) (pos : String) (af : Array Edge) (gd : Option (Nat × Bool))
    (fn : Func) (c : Code) (hf : Try.prog.funcs[F]? = some fn) (hname : (fn.name == "runtime.NumGoroutine") = false) (hb : fn.body = some c) (vs : List Value) (he : xs.map a.eval = vs) (Post : Ending → World → Prop) (hc : Calls Try.prog F vs.toArray w Post)
    (k : ∀ e w', Post e w' → ∃ v, e = .returned v ∧ K (a.put (some d) v) w') :
    Oper.wp Try.prog { dst := some d, op := .call { callee := .value (.func F), args := xs.toArray, argTypes := tys }, type := ty, pos := pos, after := af, guard := gd } a w K Q := by
  subst he
  unfold Oper.wp execOp
  have h1 : fn.name ≠ "runtime.NumGoroutine" := by simpa using hname
  have hrun : (callFunc F (xs.map a.eval).toArray).run Try.prog w = .ok (.enter F (xs.map a.eval).toArray) w := by simp [callFunc, hf, h1, hb]
  simp only [resolve, Deferred.ofValue, List.map_toArray]
  go_simp
  refine hc.mono ?_
  intro e w1 hp
  obtain ⟨v, rfl, hk⟩ := k e w1 hp
  exact hk

theorem LinD.step {w w' : World} {d n : Nat} {v : Value} {b : List Int} {ps : List (List Int)} (h : LinD w d n v b ps) (g : w.grownBy w' none) : LinD w' d n v b ps := by
  obtain ⟨vb, vp, qs, h0, h1, h2, h3⟩ := h
  exact ⟨vb, vp, qs, h0, h1.step g, h2.same g, h3⟩
theorem LinD.deal {w w' : World} {d n : Nat} {v : Value} {b : List Int} {ps : List (List Int)} (h : LinD w d n v b ps) (g : w.grownBy w' (some d)) : LinD w' d n v b ps := by
  obtain ⟨vb, vp, qs, h0, h1, h2, h3, h4, h5⟩ := h
  exact ⟨vb, vp, qs, h0, h1.deal g, h2.far h4 (Nat.le_refl _) g, h3, h4, h5⟩
theorem LinD.lin {w : World} {d n : Nat} {v : Value} {b : List Int} {ps : List (List Int)} (h : LinD w d n v b ps) : LinV w v b ps := by
  obtain ⟨vb, vp, qs, h0, h1, h2, h3, h4, h5, -⟩ := h
  exact ⟨vb, vp, qs, h0, h1.1, h2, h3, h5⟩
theorem LinD.valid {w : World} {d n : Nat} {v : Value} {b : List Int} {ps : List (List Int)} (h : LinD w d n v b ps) : ValidS n b ps := by
  obtain ⟨vb, vp, qs, h0, h1, h2, h3, h4, h5, h6, -⟩ := h
  exact h6
theorem LinD.small {w : World} {d n : Nat} {v : Value} {b : List Int} {ps : List (List Int)} (h : LinD w d n v b ps) : (∀ x ∈ b, x ≤ 4) ∧ ∀ p ∈ ps, ∀ x ∈ p, x ≤ 4 := by
  obtain ⟨vb, vp, qs, h0, h1, h2, h3, h4, h5, h6, h7⟩ := h
  exact h7
/-- The value of a dealt set, opened. -/
theorem LinD.open {w : World} {d n : Nat} {v : Value} {b : List Int} {ps : List (List Int)} (h : LinD w d n v b ps) : ∃ ab cb ap cp, v = .agg #[.slice ab b.length cb, .slice ap ps.length cp] := by
  obtain ⟨vb, vp, qs, rfl, ⟨⟨⟨ab, cb, hvb, -⟩, -⟩, -⟩, ⟨ap, cp, hvp, -⟩, -, -, rfl, -⟩ := h
  dsimp only at hvb
  subst hvb hvp
  exact ⟨ab, cb, ap, cp, by rw [List.length_map]⟩
theorem LinD.ok {w : World} {d n : Nat} {x y : Value} {b : List Int} {ps : List (List Int)} (h : LinD w d n (.agg #[x, y]) b ps) : SetOk w n ((x, y), (b, ps)) := ⟨h.lin, h.valid⟩
/-- The two cells of a variable that holds a set. -/
def BoxD (w : World) (d g : Nat) (x y : Value) : Prop := w.cell? ⟨g, 0, none⟩ = some x ∧ w.cell? ⟨g, 1, none⟩ = some y ∧ d < g
theorem BoxD.step {w w' : World} {d g : Nat} {x y : Value} (h : BoxD w d g x y) (k : w.grownBy w' none) : BoxD w' d g x y := ⟨k.cell h.1 (by simp), k.cell h.2.1 (by simp), h.2.2⟩
theorem BoxD.deal {w w' : World} {d g : Nat} {x y : Value} (h : BoxD w d g x y) (k : w.grownBy w' (some d)) : BoxD w' d g x y := by
  have := h.2.2
  exact ⟨k.cell h.1 (by simp; omega), k.cell h.2.1 (by simp; omega), h.2.2⟩
theorem BoxD.new {w : World} {d : Nat} {x y : Value} {e : TypeId} (h : d < w.heap.size) : BoxD (w.alloc (.cells #[x, y] e)) d w.heap.size x y :=
  ⟨(cells_of (heap_new _ rfl)).1, (cells_of (heap_new _ rfl)).2, h⟩
theorem BoxD.two {w : World} {d : Nat} {x y x' y' : Value} {e : TypeId} (h : d < w.heap.size) : BoxD ((w.alloc (.cells #[x, y] e)).alloc (.cells #[x', y'] e)) d w.heap.size x y ∧ BoxD ((w.alloc (.cells #[x, y] e)).alloc (.cells #[x', y'] e)) d (w.heap.size + 1) x' y' := by
  have h1 : ((w.alloc (.cells #[x, y] e)).alloc (.cells #[x', y'] e)).heap[w.heap.size + 1]? = some (.cells #[x', y'] e (0, 0)) := heap_new _ (by show _ = (w.heap.push _).size; simp)
  exact ⟨(BoxD.new h).step (World.grownBy_alloc _ _ none), (cells_of h1).1, (cells_of h1).2, by omega⟩
theorem cells_two {w : World} {g : Nat} {x y x' y' : Value} {e : TypeId} {f : Nat × Nat} (h : w.heap[g]? = some (.cells #[x, y, x', y'] e f)) : CellsS w g 0 [(x, y), (x', y')] := by
  intro i hi
  match i, hi with
  | 0, _ => exact ⟨by unfold World.cell?; dsimp only; rw [h]; rfl, by unfold World.cell?; dsimp only; rw [h]; rfl⟩
  | 1, _ => exact ⟨by unfold World.cell?; dsimp only; rw [h]; rfl, by unfold World.cell?; dsimp only; rw [h]; rfl⟩
theorem CellsS.head {w : World} {g : Nat} {u v : Value × Value} (h : CellsS w g 0 [u, v]) : CellsS w g 0 [u] := fun i hi => by
  have : i = 0 := by simpa using hi
  subst this
  exact h 0 (by simp)
theorem CellsS.last {w : World} {g : Nat} {u v : Value × Value} (h : CellsS w g 0 [u, v]) : CellsS w g 2 [v] := fun i hi => by
  have : i = 0 := by simpa using hi
  subst this
  exact h 1 (by simp)
theorem grown_wide {w w' : World} {d : Nat} (h : w.grownBy w' none) : w.grownBy w' (some d) := grown_then (grown_refl _ _) h (by simp)
theorem ne_some {d e : Nat} (h : d < e) : some e ≠ some d := by simp; omega
theorem OwnI.same1 {w w' : World} {base : Nat} {v : Value} {xs : List Int} (h : OwnI w base v xs) (g : w.grownBy w' none) : OwnI w' base v xs := h.kept g (by simp)
theorem OwnI.deal {w w' : World} {base d : Nat} {v : Value} {xs : List Int} (h : OwnI w base v xs) (hd : d < base) (g : w.grownBy w' (some d)) : OwnI w' base v xs := h.kept g (by rintro j ⟨⟩; exact hd)
theorem CellsS.far {w w' : World} {b off d : Nat} {us : List (Value × Value)} (h : CellsS w b off us) (hd : d ≠ b) (g : w.grownBy w' (some d)) : CellsS w' b off us :=
  fun i hi => ⟨g.cell (h i hi).1 (by simp; omega), g.cell (h i hi).2 (by simp; omega)⟩
theorem sum_step {n j : Nat} {p v zs : List Int} (hp : p.length = n) (hv : v.length = n) (hz : zs.length = n) (hj : j < n)
    (ht : zs.take j = (sumL v p).take j) (hd : zs.drop j = v.drop j) :
    zs[j]?.getD 0 = v[j]?.getD 0 ∧ (zs.set j (zs[j]?.getD 0 + p[j]?.getD 0)).take (j + 1) = (sumL v p).take (j + 1) ∧ (zs.set j (zs[j]?.getD 0 + p[j]?.getD 0)).drop (j + 1) = v.drop (j + 1) := by
  have e0 : zs[j]?.getD 0 = v[j]?.getD 0 := by
    have h1 : (zs.drop j)[0]? = (v.drop j)[0]? := by rw [hd]
    rw [List.getElem?_drop, List.getElem?_drop] at h1
    simpa using congrArg (fun o => o.getD 0) h1
  refine ⟨e0, ?_, ?_⟩
  · have e1 : zs[j]?.getD 0 + p[j]?.getD 0 = (sumL v p)[j]?.getD 0 := by
      rw [e0]
      exact (zip_at _ v p j (by omega) (by omega)).symm
    rw [e1]
    exact set_take zs _ j (by rw [hz, sumL_len hv hp]) (by rw [sumL_len hv hp]; exact hj) ht
  · rw [List.drop_set_of_lt (by omega)]
    have : (zs.drop j).drop 1 = (v.drop j).drop 1 := by rw [hd]
    simpa [List.drop_drop, Nat.add_comm] using this
theorem anyS_two {u v : SetE} {x : List Int} : AnyS [u, v] x ↔ AnyS [u] x ∨ AnyS [v] x := by
  unfold AnyS
  simp
theorem LinD.at {w : World} {d n : Nat} {a b : Option Addr} {x y c k : Nat} {B : List Int} {P : List (List Int)} (h : LinD w d n (.agg #[.slice a x y, .slice b P.length c]) B P) (hk : k < P.length) :
    ∃ pv pc e o, b = some ⟨e, o, none⟩ ∧ w.cell? ⟨e, o + k, none⟩ = some (.slice pv (P[k]).length pc) ∧ RVec w d (.slice pv (P[k]).length pc) (P[k]) ∧ P.length ≤ c ∧ d < e := by
  obtain ⟨vb, vp, qs, he, -, h2, hgd, h4, rfl, -⟩ := h
  simp only [Value.agg.injEq, Array.mk.injEq, List.cons.injEq, and_true] at he
  obtain ⟨-, rfl⟩ := he
  have hk' : k < qs.length := by simpa using hk
  obtain ⟨a1, cap, hv, -, hc, hr⟩ := h2
  simp only [Value.slice.injEq] at hv
  obtain ⟨rfl, -, rfl⟩ := hv
  obtain ⟨e, o, rfl, hx⟩ := RowsP.at hc hk'
  have hrk := hr _ (List.getElem_mem hk')
  obtain ⟨⟨pv, pc, hp, -⟩, -⟩ := hrk
  have e1 : (qs.map Prod.snd)[k] = (qs[k]).2 := by simp
  refine ⟨pv, pc, e, o, rfl, by rw [hx, hp, e1], ?_, hgd.2 _ _ _ rfl, h4.1 e rfl⟩
  rw [e1, ← hp]
  exact ⟨hr _ (List.getElem_mem hk'), h4.2 _ (List.getElem_mem hk')⟩
theorem addk_sum : ∀ (t : Int) (p v : List Int), addk (t + 1) p v = sumL (addk t p v) p
  | t, [], v => by cases v <;> simp [addk, sumL]
  | t, x :: p, [] => by simp [addk, sumL]
  | t, x :: p, y :: v => by
    have := addk_sum t p v
    simp only [addk, sumL, List.zipWith_cons_cons] at this ⊢
    rw [this, Int.add_mul]
    congr 1
    omega
theorem addk_sum_comm : ∀ (t : Int) (p v x : List Int), addk t p (sumL v x) = sumL (addk t p v) x
  | t, p, [], x => by cases p <;> cases x <;> simp [addk, sumL]
  | t, p, y :: v, [] => by cases p <;> simp [addk, sumL]
  | t, [], y :: v, z :: x => by simp [addk, sumL]
  | t, w :: p, y :: v, z :: x => by
    have := addk_sum_comm t p v x
    simp only [addk, sumL, List.zipWith_cons_cons] at this ⊢
    rw [this]
    congr 1
    omega
theorem madeL_sum : ∀ (ps : List (List Int)) (ts b x : List Int), madeL (sumL b x) ps ts = sumL (madeL b ps ts) x
  | [], _, b, x => by simp [madeL]
  | p :: ps, [], b, x => by simp [madeL]
  | p :: ps, t :: ts, b, x => by
    unfold madeL
    rw [addk_sum_comm, madeL_sum]
/-- One period more. -/
theorem madeL_more : ∀ (ps : List (List Int)) (ts b : List Int) (k : Nat) (hk : k < ps.length), ts.length = ps.length → madeL b ps (ts.set k (ts[k]?.getD 0 + 1)) = sumL (madeL b ps ts) (ps[k])
  | p :: ps, t :: ts, b, 0, _, _ => by
    simp only [List.set_cons_zero, List.getElem?_cons_zero, Option.getD_some, List.getElem_cons_zero]
    unfold madeL
    rw [addk_sum, madeL_sum]
  | p :: ps, t :: ts, b, k + 1, hk, hl => by
    have := madeL_more ps ts (addk t p b) k (by simpa using hk) (by simpa using hl)
    simp only [List.set_cons_succ, List.getElem?_cons_succ, List.getElem_cons_succ]
    unfold madeL
    exact this
  | [], _, _, k, hk, _ => by simp at hk
  | _ :: _, [], _, _, _, hl => by simp at hl
def DealsR (P : Int → Prop) (n : Nat) (w0 w : World) (p : Value) (d : Nat) (e : Ending) (w' : World) : Prop :=
  ∃ v xs, e = .returned v ∧ xs.length = n ∧ (∀ x ∈ xs, P x) ∧ RVec w' d v xs ∧ St w0 w' p d ∧ w.grownBy w' (some d)
theorem small_rv {w0 w : World} {p : Value} {d : Nat} (h : St w0 w p d) (n : Nat) (most : Int) (h1 : n ≤ 1000) (h2 : 0 ≤ most) (h3 : most ≤ 1000000) :
    Calls Try.prog 16 #[p, .int .i64 (n : Int), .int .i64 most] w (DealsR (fun x => 0 ≤ x ∧ x ≤ most) n w0 w p d) :=
  (small_any p d n most w h.1 (by omega) h2 h3).mono fun e w' ⟨v, xs, he, hl, hp, ho, hd, hg⟩ => ⟨v, xs, he, by rw [hl]; simp, hp, ho.rvec (by intro x hx; have := hp x hx; omega) h.lt, h.deal hd hg, hg⟩

theorem lessL_iff : ∀ {n : Nat} {v b : List Int}, v.length = n → b.length = n → ((∀ x ∈ lessL v b, x = 0) ↔ b = v)
  | 0, [], [], _, _ => by simp [lessL]
  | n + 1, x :: v, y :: b, hv, hb => by
    have ih := lessL_iff (n := n) (v := v) (b := b) (by simpa using hv) (by simpa using hb)
    simp only [lessL, List.zipWith_cons_cons, List.mem_cons, forall_eq_or_imp, List.cons.injEq] at ih ⊢
    rw [ih]
    constructor
    · rintro ⟨h1, h2⟩; exact ⟨by omega, h2⟩
    · rintro ⟨h1, h2⟩; exact ⟨by omega, h2⟩
  | 0, _ :: _, _, h, _ => by simp at h
  | 0, [], _ :: _, _, h => by simp at h
  | _ + 1, [], _, h, _ => by simp at h
  | _ + 1, _ :: _, [], _, h => by simp at h
/-- Solutions are multiples that make the vector. -/
theorem sol_made {n : Nat} {v : List Int} (hv : v.length = n) : ∀ (ps : List (List Int)) (ks b : List Int), (∀ p ∈ ps, p.length = n) → b.length = n →
    (Sol ps ks (lessL v b) ↔ ks.length = ps.length ∧ (∀ k ∈ ks, 0 ≤ k) ∧ madeL b ps ks = v)
  | [], [], b, _, hb => by
    unfold Sol madeL
    rw [lessL_iff hv hb]
    simp
  | p :: ps, k :: ks, b, hp, hb => by
    have ih := sol_made hv ps ks (addk k p b) (fun q hq => hp q (by simp [hq])) (addk_len (hp p (by simp)) hb)
    unfold Sol madeL
    rw [subk_less, ih]
    simp only [List.length_cons, List.mem_cons, forall_eq_or_imp, Nat.add_right_cancel_iff]
    constructor
    · rintro ⟨h0, h1, h2, h3⟩; exact ⟨h1, ⟨h0, h2⟩, h3⟩
    · rintro ⟨h1, ⟨h0, h2⟩, h3⟩; exact ⟨h0, h1, h2, h3⟩
  | [], _ :: _, _, _, _ => by simp [Sol]
  | _ :: _, [], _, _, _ => by simp [Sol]
theorem madeL_small {n : Nat} : ∀ (ps : List (List Int)) (ts b : List Int) (M T : Int), (∀ p ∈ ps, PerOk n p ∧ ∀ x ∈ p, x ≤ 4) → b.length = n → 0 ≤ T → (∀ t ∈ ts, 0 ≤ t ∧ t ≤ T) → 0 ≤ M → (∀ x ∈ b, 0 ≤ x ∧ x ≤ M) → ∀ x ∈ madeL b ps ts, 0 ≤ x ∧ x ≤ M + 4 * T * ps.length
  | [], _, b, M, T, _, _, _, _, _, h => by unfold madeL; simpa using h
  | p :: ps, [], b, M, T, _, _, hT, _, _, h => by
    unfold madeL
    intro x hx
    have := h x hx
    have h2 : 0 ≤ 4 * T * ((p :: ps).length : Int) := Int.mul_nonneg (by omega) (by omega)
    omega
  | p :: ps, t :: ts, b, M, T, hp, hb, hT, ht, hM, h => by
    unfold madeL
    have h1 : ∀ x ∈ addk t p b, 0 ≤ x ∧ x ≤ M + 4 * T := by
      intro z hz
      obtain ⟨x, hx, y, hy, rfl⟩ := mem_zipWith _ b p z hz
      have a1 := h x hx
      have a2 := (hp p (by simp)).1.1.2 y hy
      have a3 := (hp p (by simp)).2 y hy
      have a4 := ht t (by simp)
      have a5 := Int.mul_nonneg a4.1 a2
      have a6 : t * y ≤ T * 4 := Int.mul_le_mul a4.2 a3 a2 hT
      omega
    have := madeL_small ps ts (addk t p b) (M + 4 * T) T (fun q hq => hp q (by simp [hq])) (addk_len (hp p (by simp)).1.1.1 hb) hT (fun u hu => ht u (by simp [hu])) (by omega) h1
    intro x hx
    have := this x hx
    rw [show (((p :: ps).length : Nat) : Int) = (ps.length : Int) + 1 by simp, Int.mul_add]
    omega
theorem addk_zero : ∀ (p b : List Int), p.length = b.length → addk 0 p b = b
  | [], [], _ => rfl
  | x :: p, y :: b, h => by
    have := addk_zero p b (by simpa using h)
    simp only [addk, List.zipWith_cons_cons, Int.zero_mul, Int.add_zero] at this ⊢
    rw [this]
  | [], _ :: _, h => by simp at h
  | _ :: _, [], h => by simp at h
theorem madeL_zero : ∀ (ps : List (List Int)) (b : List Int), (∀ p ∈ ps, p.length = b.length) → madeL b ps (List.replicate ps.length 0) = b
  | [], b, _ => rfl
  | p :: ps, b, h => by
    simp only [List.length_cons, List.replicate_succ]
    unfold madeL
    rw [addk_zero p b (h p (by simp))]
    exact madeL_zero ps b (fun q hq => h q (by simp [hq]))
theorem sol_self {n : Nat} {b : List Int} {ps : List (List Int)} (h : ValidS n b ps) : SolE ps (lessL b b) :=
  ⟨List.replicate ps.length 0, (sol_made h.2.2.1 ps _ b (fun p hp => (h.2.2.2.2.1 p hp).1.1) h.2.2.1).2 ⟨by simp, fun k hk => by rw [List.eq_of_mem_replicate hk]; omega, madeL_zero ps b (fun p hp => by rw [(h.2.2.2.2.1 p hp).1.1, h.2.2.1])⟩⟩
theorem LinD.base {w : World} {d n : Nat} {a : Option Addr} {x c : Nat} {y : Value} {B : List Int} {P : List (List Int)} (h : LinD w d n (.agg #[.slice a x c, y]) B P) : RVec w d (.slice a x c) B := by
  obtain ⟨vb, vp, qs, he, h1, -⟩ := h
  simp only [Value.agg.injEq, Array.mk.injEq, List.cons.injEq, and_true] at he
  obtain ⟨rfl, -⟩ := he
  exact h1
theorem ValidS.w64 {n : Nat} {b : List Int} {ps : List (List Int)} (h : ValidS n b ps) : withB 64 b = true := withB_iff.2 fun x hx => by have := h.2.2.2.1 x hx; omega
theorem LinD.per {w : World} {d n : Nat} {v : Value} {b : List Int} {ps : List (List Int)} (h : LinD w d n v b ps) : ∀ p ∈ ps, PerOk n p ∧ ∀ x ∈ p, x ≤ 4 := fun p hp => ⟨h.valid.2.2.2.2.1 p hp, h.small.2 p hp⟩
theorem LinD.bas {w : World} {d n : Nat} {v : Value} {b : List Int} {ps : List (List Int)} (h : LinD w d n v b ps) : ∀ x ∈ b, 0 ≤ x ∧ x ≤ 4 := fun x hx => ⟨(h.valid.2.2.2.1 x hx).1, h.small.1 x hx⟩
/-- What multiples up to 4 make. -/
theorem LinD.made {w : World} {d n : Nat} {v : Value} {b ts : List Int} {ps : List (List Int)} (h : LinD w d n v b ps) (ht : ∀ t ∈ ts, 0 ≤ t ∧ t ≤ 4) : (madeL b ps ts).length = n ∧ ∀ x ∈ madeL b ps ts, 0 ≤ x ∧ x ≤ 52 := by
  refine ⟨madeL_len ps ts b (fun p hp => (h.per p hp).1.1.1) h.valid.2.2.1, fun x hx => ?_⟩
  have h1 := madeL_small ps ts b 4 4 h.per h.valid.2.2.1 (by omega) ht (by omega) h.bas x hx
  have h2 := h.valid.2.2.2.2.2.1
  omega
theorem compare_lex {a b : List Int} (h : a.length = b.length) : compareI a b = lexI a b := by unfold compareI; rw [h]; simp

end Go.Proofs.Ytoaoheblaidhmaa

namespace Go.Proofs.Ytoaoheblaidhmaa
open Go.RowKit Go.Shelf Go.Lib Go.Sort
set_option linter.unusedVariables false

abbrev ElN (w : World) (g n0 : Nat) : Type := { p : Row // RowOk w p ∧ (∀ k, p.1.ownBlock = some k → k ≠ g) ∧ p.2.length = n0 }
def encElN (w : World) (g n0 : Nat) (x : ElN w g n0) : Value := x.1.1
def cmpElN (w : World) (g n0 : Nat) (x y : ElN w g n0) : Int := compareI x.1.2 y.1.2

theorem swo_cmpN (w : World) (g n0 : Nat) [Inhabited (ElN w g n0)] : Go.Sort.SWO (ltOf (cmpElN w g n0)) := by
  have hneg := fun a b : List Int => compareI_neg a b
  refine ⟨fun x => ?_, fun x y z h1 h2 => ?_, fun x y z h1 h2 => ?_⟩
  · unfold ltOf cmpElN
    have := (compareI_zero x.1.2 x.1.2).2 rfl
    rw [this]; rfl
  · unfold ltOf cmpElN at *
    simp only [decide_eq_true_eq] at *
    have h3 := cmp_trans _ _ _ (Int.le_of_lt h1) (Int.le_of_lt h2)
    rcases Int.lt_or_eq_of_le h3 with h4 | h4
    · exact h4
    · have := (compareI_zero _ _).1 h4
      rw [this] at h1
      have := hneg y.1.2 z.1.2
      omega
  · unfold ltOf cmpElN at *
    simp only [decide_eq_false_iff_not, Int.not_lt] at *
    have h3 := hneg y.1.2 x.1.2
    have h4 := hneg z.1.2 y.1.2
    have h5 := cmp_trans z.1.2 y.1.2 x.1.2 (by have := hneg y.1.2 z.1.2; omega) (by have := hneg x.1.2 y.1.2; omega)
    have := hneg x.1.2 z.1.2
    omega

theorem sortn_any (n0 : Nat) (v : Value) (ps : List Row) (base : Nat) (w : World) (h : OwnP w base v ps) (hlen : ps.length ≤ 1000000000000) (hl0 : ∀ p ∈ ps, p.2.length = n0) :
    Calls Try.prog 53 #[v, .func (.func 54) #[] #[]] w fun e w' => e = .returned (.tuple #[]) ∧ ∃ ps' : List Row, ps'.Perm ps ∧ ps'.Pairwise (fun p q => compareI p.2 q.2 ≤ 0) ∧ OwnP w' base v ps' ∧ w.grownBy w' v.ownBlock := by
  rcases h.1.2 with ⟨rfl, h0⟩ | ⟨g, cap, cur, rfl, hbg, hh, hn, hm, hs, ht⟩
  · have : ps = [] := List.eq_nil_of_length_eq_zero h0
    subst this
    refine (sort_none _ _ _ _).mono ?_
    rintro e w' ⟨rfl, rfl⟩
    exact ⟨rfl, [], List.Perm.refl _, List.Pairwise.nil, h, grown_refl _ _⟩
  · by_cases hps : ps = []
    · subst hps
      simp only [List.length_nil]
      refine (sort_none _ _ _ _).mono ?_
      rintro e w' ⟨rfl, rfl⟩
      exact ⟨rfl, [], List.Perm.refl _, List.Pairwise.nil, h, grown_refl _ _⟩
    have hall : ∀ p ∈ ps, RowOk w p ∧ (∀ k, p.1.ownBlock = some k → k ≠ g) ∧ p.2.length = n0 := fun p hp => ⟨(h.2 p hp).1, fun k hk e => (h.2 p hp).2 k hk (by rw [e]; rfl), hl0 p hp⟩
    haveI : Inhabited (ElN w g n0) := ⟨⟨ps.head hps, hall _ (List.head_mem hps)⟩⟩
    obtain ⟨d, hd⟩ : ∃ d : List (ElN w g n0), d.map Subtype.val = ps := ⟨ps.pmap (fun p hp => ⟨p, hp⟩) hall, by rw [List.map_pmap]; simp⟩
    have hdl : d.length = ps.length := by rw [← hd, List.length_map]
    have hdm : ∀ j (hj : j < d.length), encElN w g n0 d[j] = (ps[j]'(by omega)).1 := by
      intro j hj
      unfold encElN
      subst hd
      simp
    have H0 : Holds (encElN w g n0) w g 0 d.toArray := by
      intro j hj
      have hj' : j < d.length := by simpa using hj
      have h1 := World.ownsRow.cellAt h.1 j (by omega)
      refine ⟨?_, World.ownsRow.frozenAt h.1 _⟩
      rw [Nat.zero_add, h1]
      simp only [List.getElem?_map]
      rw [List.getElem?_eq_getElem (by omega), getElem!_pos d.toArray j hj]
      simp only [Option.map_some, List.getElem_toArray, hdm j hj']
    have hsz : d.toArray.size = ps.length := by simpa using hdl
    have hcmp : CmpLays1 Try.prog 54 #[] (encElN w g n0) (cmpElN w g n0) g 0 d.toArray.size w := by
      intro m os dk hdk x y
      have gx := x.2.1.1.kept (grownBy_sort (encElN w g n0) w g m os dk) (by rintro k ⟨⟩ e; exact x.2.2.1 _ e rfl)
      have gy := y.2.1.1.kept (grownBy_sort (encElN w g n0) w g m os dk) (by rintro k ⟨⟩ e; exact y.2.2.1 _ e rfl)
      refine (slcmp_any _ _ _ _ _ gx gy (by rw [x.2.2.2, y.2.2.2])).mono ?_
      rintro e w' ⟨rfl, rfl⟩
      exact ⟨by unfold cmpElN; rw [compare_lex (by rw [x.2.2.2, y.2.2.2])], 0, #[], by simp [World.drewN, grow]⟩
    have hone : OneCell (encElN w g n0) := fun x => slice_one x.2.1
    have hc := Any.slices_SortFunc Try.laysSlF6_f53 (encElN w g n0) hone (cmpElN w g n0) (swo_cmpN w g n0) 54 #[] g 0 cap d.toArray w (enters_of Try.func54 (by kernel_rfl) rfl) hcmp H0 (Array.getElem?_eq_some_iff.1 hh).1 (by omega)
    rw [hsz] at hc
    refine hc.mono ?_
    rintro e w' ⟨rfl, d', n, os, hP, hS, rfl⟩
    refine ⟨rfl, d'.toList.map Subtype.val, ?_, ?_, ?_, grownBy_sort _ _ _ _ _ _⟩
    · have h1 := hP.2.2
      rw [show d'.extract 0 ps.length = d' by rw [← hsz, ← hP.1]; exact Array.extract_size, show d.toArray.extract 0 ps.length = d.toArray by rw [← hsz]; exact Array.extract_size] at h1
      have h2 := h1.map Subtype.val
      rwa [show d.toArray.toList = d from rfl, hd] at h2
    · rw [List.pairwise_map, List.pairwise_iff_getElem]
      intro i j hi hj hij
      have hi' : i < d'.size := by simpa using hi
      have hj' : j < d'.size := by simpa using hj
      have h1 := hS i j (Nat.zero_le _) hij (by have := hP.1; omega)
      rw [getElem!_pos d' j hj', getElem!_pos d' i hi'] at h1
      unfold ltOf cmpElN at h1
      simp only [decide_eq_false_iff_not, Int.not_lt] at h1
      have := compareI_neg d'[j].1.2 d'[i].1.2
      simp only [Array.getElem_toList]
      omega
    · have hl' : d'.size = ps.length := by rw [hP.1, hsz]
      have hheap : (sortWorld (encElN w g n0) w g 0 n d' os).heap[g]? = some (.cells (putCells (encElN w g n0) 0 d' cur) 22 (0, 0)) := by
        unfold sortWorld
        rw [heap_grow_old _ _ (by simpa using (Array.getElem?_eq_some_iff.1 hh).1)]
        simp [putRow, mapBlock, Sort.ahead, Array.getElem?_modify, hh, onCells]
      have hpl : (d'.toList.map Subtype.val).length = ps.length := by simp [hl']
      refine ⟨⟨by simp, .inr ⟨g, cap, _, by rw [hpl], hbg, hheap, by rw [hpl]; exact hn, hm, by simp [putCells, hs], ?_⟩⟩, ?_⟩
      · apply List.ext_getElem?
        intro j
        by_cases hj : j < ps.length
        · rw [List.getElem?_take_of_lt (by rw [hpl]; omega), Array.getElem?_toList]
          have hjd : j < d'.size := by omega
          simp [putCells, encElN, hjd, show j < cur.size by omega]
        · rw [List.getElem?_take_eq_none (by rw [hpl]; omega), List.getElem?_eq_none (by simp; omega)]
      · intro p hp
        obtain ⟨x, -, rfl⟩ := List.mem_map.1 hp
        refine ⟨x.2.1.kept (grownBy_sort _ _ _ _ _ _) (by rintro k ⟨⟩ e; exact x.2.2.1 _ e rfl), fun k hk e => ?_⟩
        simp only [Value.ownBlock, Option.some.injEq] at e
        exact x.2.2.1 k hk e.symm

end Go.Proofs.Ytoaoheblaidhmaa

namespace Go.Proofs.Ytoaoheblaidhmaa
open Go.RowKit
set_option linter.unusedVariables false

theorem growR_nil (n : Nat) (w : World) (hn : n ≤ 1000000000000) :
    Calls Try.prog 68 #[.slice none 0 0, .int .i64 (n : Int)] w fun e w' => ∃ v, e = .returned v ∧ OwnP w' w.heap.size v [] ∧ w.grownBy w' none := by
  obtain ⟨i, hi, hz0, hz1, hz2⟩ := info_parts info_row
  rcases Nat.eq_zero_or_pos n with rfl | hpos
  · refine (Any8.slices_Grow_room Try.grow68 none 0 0 0 w (by omega) (by omega) (by omega) (by omega)).mono ?_
    rintro e w' ⟨rfl, rfl⟩
    exact ⟨_, rfl, OwnP.nil _ _, grown_refl _ _⟩
  · refine (Any8.slices_Grow_grow Try.grow68 i (.slice none 0 0) hi hz0 (by rw [hz1]; decide) none 0 0 n [] w (by omega) (by omega) (by rw [hz2]; omega) (by omega) (by simp) (fun _ => rfl) (by intro a h; cases h)).mono ?_
    rintro e w' ⟨rfl, rfl⟩
    refine ⟨_, rfl, ⟨?_, by simp⟩, grown_trans (grown_drew _ _) (World.grownBy_alloc _ _ _)⟩
    refine World.ownsRow_made (w := w.drew) (base := w.heap.size) _ _ (Nat.le_refl _) ?_ ?_
    · exact grownCap_le_maxLen _ _ _ _ (by unfold maxLen; omega)
    · have := grownCap_ge w n 0 (Try.grow68_ren.t 25)
      simp [size_zeroCells, Value.cells]
      omega

def part2 {α : Type} (a b : List α) (k : Nat) : List α := if k = 0 then [] else if k = 1 then a else a ++ b
set_option maxRecDepth 100000 in
set_option maxHeartbeats 1500000 in
theorem concatR_any (g cap : Nat) (x y : Value) (qs rs : List Row) (w : World) (c0 : w.cell? ⟨g, 0, none⟩ = some x) (c1 : w.cell? ⟨g, 1, none⟩ = some y) (hx : RowsP w x qs) (hy : RowsP w y rs) (hq : qs.length ≤ 1000) (hr : rs.length ≤ 1000) :
    Calls Try.prog 52 #[.slice (some ⟨g, 0, none⟩) 2 cap] w fun e w' => ∃ v, e = .returned v ∧ OwnP w' w.heap.size v (qs ++ rs) ∧ w.grownBy w' none := by
  have HX := Lib.hid hx; have HY := Lib.hid hy; have C0 := Lib.hid c0; have C1 := Lib.hid c1
  obtain ⟨ax, cx, rfl, -, -, -⟩ := hx
  obtain ⟨ay, cy, rfl, -, -, -⟩ := hy
  clear c0 c1
  go_enter Try.func52, Try.ntmps52
  go_wp2_with fail
  go_loop [3, 11] (fun s i => ∃ k : Nat, k ≤ 2 ∧ i = .int .i64 k ∧ s = .int .i64 ((part2 qs rs k).length : Nat)) (fun _ i => 2 - (intOf i).toNat)
  case atStart => exact ⟨0, by omega, rfl, rfl⟩
  case round =>
    obtain ⟨k, hk, rfl, rfl⟩ := hrel
    match k, hk with
    | 0, _ =>
      have c0 := C0.out
      simp only [part2, if_pos, List.length_nil]
      go_wp2_with fail
      go_round
      case rel => exact ⟨1, by omega, by go_num, by simp⟩
      case measure => simp [intOf]
    | 1, _ =>
      have c1 := C1.out
      have e1 : part2 qs rs 1 = qs := rfl
      rw [e1]
      have hs : ¬ (qs.length : Int) + (rs.length : Int) < 0 := by omega
      go_wp2_with fail
      go_round
      case rel => exact ⟨2, by omega, by go_num, by simp [part2]⟩
      case measure => simp [intOf]
    | 2, _ =>
      have e2 : part2 qs rs 2 = qs ++ rs := rfl
      rw [e2]
      have hle : (qs ++ rs).length ≤ 2000 := by simp; omega
      generalize hm : (qs ++ rs).length = m at *
      clear hm
      go_wp2_with fail
      refine (growR_nil m _ (by omega)).mono ?_
      rintro e w1 ⟨v1, rfl, ho, hg⟩
      have HO := Lib.hid ho; have HG := Lib.hid hg
      clear ho hg
      go_wp2_with fail
      go_loopw [6, 27] (fun v i wr => ∃ k : Nat, k ≤ 2 ∧ i = .int .i64 k ∧ Hid (OwnP wr w.heap.size v (part2 qs rs k)) ∧ Hid (w.grownBy wr none)) (fun _ i _ => 2 - (intOf i).toNat)
      case atStart => exact ⟨0, by omega, rfl, HO, HG⟩
      case round =>
        obtain ⟨k, hk, rfl, ho, hg⟩ := hrel
        match k, hk with
        | 0, _ =>
          have c := hg.out.cell C0.out (by simp)
          have hsz := hg.out.size
          have RX := Lib.hid (HX.out.same hg.out)
          have FX := Lib.hid (far_of (fun p hp => rows_rows HX.out p hp) ho.out (Nat.le_refl _))
          have HO2 := ho
          change Hid (OwnP _ w.heap.size _ ([])) at HO2
          clear ho
          go_wp2_with (at_builtin; refine app_all rfl _ _ rfl w.heap.size _ ([]) rfl HO2.out _ _ rfl RX.out FX.out (by first | omega | (simp; omega)) hsz ?_)
          intro a' n' c' w' hn' ho' hg'
          have HO3 : Hid (OwnP w' w.heap.size (.slice a' n' c') (qs)) := Lib.hid ho'
          have HG3 := Lib.hid (grown_then hg.out hg' (fun j hj => .inl (HO2.out.fresh j hj).1))
          clear ho' hg' hn' c
          go_wp2_with fail
          go_roundw
          case rel => exact ⟨1, by omega, by go_num, HO3, HG3⟩
          case measure => simp [intOf]
        | 1, _ =>
          have c := hg.out.cell C1.out (by simp)
          have hsz := hg.out.size
          have RX := Lib.hid (HY.out.same hg.out)
          have FX := Lib.hid (far_of (fun p hp => rows_rows HY.out p hp) ho.out (Nat.le_refl _))
          have HO2 := ho
          change Hid (OwnP _ w.heap.size _ (qs)) at HO2
          clear ho
          go_wp2_with (at_builtin; refine app_all rfl _ _ rfl w.heap.size _ (qs) rfl HO2.out _ _ rfl RX.out FX.out (by first | omega | (simp; omega)) hsz ?_)
          intro a' n' c' w' hn' ho' hg'
          have HO3 : Hid (OwnP w' w.heap.size (.slice a' n' c') (qs ++ rs)) := Lib.hid ho'
          have HG3 := Lib.hid (grown_then hg.out hg' (fun j hj => .inl (HO2.out.fresh j hj).1))
          clear ho' hg' hn' c
          go_wp2_with fail
          go_roundw
          case rel => exact ⟨2, by omega, by go_num, HO3, HG3⟩
          case measure => simp [intOf]
        | 2, _ =>
          go_wp2_with fail
          go_ret
          exact ⟨_, rfl, ho.out, hg.out⟩

end Go.Proofs.Ytoaoheblaidhmaa
