/- Flat trees in memory, that grow. -/
import Derived.Test.YtnppmemcdcgjhaaKd
import Derived.Test.YtnppmemcdcgjhaaRw
namespace Go.Proofs.Ytnppmemcdcgjhaa
open Go.RowKit Tr
set_option linter.unusedVariables false

/-! ### Appending one element, and where the slice lies then -/
theorem run_app_one (w : World) (base : Nat) (t ty e : TypeId) (z : Value) (bytes : Nat) (ht : Try.prog.underlying t = some (.slice e)) (hinfo : (Try.prog.info? e).map (fun i => (i.zero, i.size, i.bytes)) = some (some z, 1, bytes)) (hzs : z.cells.size = 1) (hby : bytes ≤ 64)
    (v : Value) (xs : List Value) (hown : w.ownsRow base e 1 v xs.length xs) (b : Nat) (y : Value) (hy : y.oneCell' = true) (hnew : w.cell? ⟨b, 0, none⟩ = some y) (hlen : xs.length ≤ 1000000000) (hbase : base ≤ w.heap.size) :
    ∃ v' w', (Builtin.append_ #[t, t] ty #[v, .slice (some ⟨b, 0, none⟩) 1 1]).run Try.prog w = .ok v' w' ∧ w'.ownsRow base e 1 v' (xs ++ [y]).length (xs ++ [y]) ∧ w.grownBy w' v.ownBlock ∧ ∀ g, v'.ownBlock = some g → v.ownBlock = some g ∨ w.heap.size ≤ g := by
  obtain ⟨i, hi, hz0, hz1, hz2⟩ := info_parts hinfo
  have hn : ∀ (j : Nat) u, [y][j]? = some u → w.cell? ((⟨b, 0, none⟩ : Addr).add j) = some u := by
    intro j u hu
    cases j with
    | zero => simp at hu; subst hu; simpa [Addr.add] using hnew
    | succ j => simp at hu
  have h1 : ∀ u ∈ [y], u.oneCell' = true := by intro u hu; simp at hu; subst hu; exact hy
  have hb2 : ∀ n, n ≤ 1000000001 → n * bytes ≤ 140737488355328 := fun n hn => Nat.le_trans (Nat.mul_le_mul hn hby) (by decide)
  obtain ⟨v', w', hr, h2, h3, -⟩ := run_append_own (P := Try.prog) w base t ty e i z 1 bytes ht hi hz0 hz1 hz2 hzs (by decide) v xs.length xs hown ⟨b, 0, none⟩ 1 1 [y] rfl hn h1 (by unfold maxLen; omega) (hb2 _ (by omega)) hbase
  refine ⟨v', w', hr, by simpa using h2, h3, ?_⟩
  rcases hown.2 with ⟨rfl, h0⟩ | ⟨g, cap, cur, rfl, hbg, hg, hnc, hcm, hcs, htake⟩
  · obtain ⟨v2, w2, hr2, h22, -⟩ := run_append_own (P := Try.prog) w w.heap.size t ty e i z 1 bytes ht hi hz0 hz1 hz2 hzs (by decide) (.slice none 0 0) xs.length xs ⟨hown.1, .inl ⟨rfl, h0⟩⟩ ⟨b, 0, none⟩ 1 1 [y] rfl hn h1 (by unfold maxLen; omega) (hb2 _ (by omega)) (Nat.le_refl _)
    rw [hr] at hr2
    cases hr2
    exact fun g hg => .inr (World.ownsRow.lt h22 g hg).1
  · by_cases hroom : xs.length + 1 ≤ cap
    · obtain ⟨w2, hr2, -, -⟩ := run_append_own_spare (P := Try.prog) w base t ty e i 1 ht hi hz1 g xs.length cap xs hown ⟨b, 0, none⟩ 1 1 [y] rfl hn h1 hroom
      rw [hr] at hr2
      cases hr2
      exact fun k hk => .inl hk
    · have holds : ∀ (j : Nat) u, xs[j]? = some u → w.cell? ((⟨g, 0, none⟩ : Addr).add j) = some u := hown.cells (g := g) rfl
      have hr2 := run_append_grow (P := Try.prog) w t ty e i z ht hi hz0 ⟨g, 0, none⟩ xs.length cap xs (by rw [hz1]; simp) holds ⟨b, 0, none⟩ 1 1 [y] (by rw [hz1]; rfl) hn (by omega) (by omega) (growslice_fits (by omega) (by rw [hz2]; have := hb2 (xs.length + 1) (by omega); omega))
      rw [hr] at hr2
      cases hr2
      intro k hk
      simp only [Value.ownBlock, Option.some.injEq] at hk
      exact .inr (by omega)
/-- The step, inside a region that draws its order. -/
theorem step_app_one {ops : Array Oper} {o : Oper} {a : Act} {w : World} {K : Act → World → Prop} {Q : Exit → Act → World → Prop} {E : Prop} (hgd : o.guard = none) (s x : Operand) (t e : TypeId) (z : Value) (bytes : Nat) (ht : Try.prog.underlying t = some (.slice e)) (hinfo : (Try.prog.info? e).map (fun i => (i.zero, i.size, i.bytes)) = some (some z, 1, bytes)) (hzs : z.cells.size = 1) (hby : bytes ≤ 64)
    (ho : o.op = .call { callee := .builtin .append, args := #[s, x], argTypes := #[t, t] }) (base : Nat) (v : Value) (xs : List Value) (hs : a.eval s = v)
    (hown : w.ownsRow base e 1 v xs.length xs) (b : Nat) (y : Value) (hy : y.oneCell' = true) (hx : a.eval x = .slice (some ⟨b, 0, none⟩) 1 1) (hnew : w.cell? ⟨b, 0, none⟩ = some y)
    (hlen : xs.length ≤ 1000000000) (hbase : base ≤ w.heap.size)
    (h : ∀ v' w', w'.ownsRow base e 1 v' (xs ++ [y]).length (xs ++ [y]) → w.grownBy w' v.ownBlock → (∀ g, v'.ownBlock = some g → v.ownBlock = some g ∨ w.heap.size ≤ g) → K (a.put o.dst v') w') : if Region.wanted o (yielded ops a.tmps) = true then Oper.wp Try.prog o a w K Q else E := by
  have hw : Region.wanted o (yielded ops a.tmps) = true := by simp [Region.wanted, hgd]
  rw [if_pos hw]
  obtain ⟨v', w', hr, h2, h3, h4⟩ := run_app_one w base t o.type e z bytes ht hinfo hzs hby v xs hown b y hy hnew hlen hbase
  unfold Oper.wp execOp
  simp only [ho, resolve, invoke, builtin, Sem.run_bind, Sem.run_pure, Result.andThen_ok, List.map_toArray, List.map_cons, List.map_nil, hs, hx, hr]
  exact h v' w' h2 h3 h4
theorem app_one {ops : Array Oper} {rest : List Oper} {o : Oper} {a : Act} {w : World} {Q : Exit → Act → World → Prop} (hgd : o.guard = none) (s x : Operand) (t e : TypeId) (z : Value) (bytes : Nat) (ht : Try.prog.underlying t = some (.slice e)) (hinfo : (Try.prog.info? e).map (fun i => (i.zero, i.size, i.bytes)) = some (some z, 1, bytes)) (hzs : z.cells.size = 1) (hby : bytes ≤ 64)
    (ho : o.op = .call { callee := .builtin .append, args := #[s, x], argTypes := #[t, t] }) (base : Nat) (v : Value) (xs : List Value) (hs : a.eval s = v)
    (hown : w.ownsRow base e 1 v xs.length xs) (b : Nat) (y : Value) (hy : y.oneCell' = true) (hx : a.eval x = .slice (some ⟨b, 0, none⟩) 1 1) (hnew : w.cell? ⟨b, 0, none⟩ = some y)
    (hlen : xs.length ≤ 1000000000) (hbase : base ≤ w.heap.size)
    (h : ∀ v' w', w'.ownsRow base e 1 v' (xs ++ [y]).length (xs ++ [y]) → w.grownBy w' v.ownBlock → (∀ g, v'.ownBlock = some g → v.ownBlock = some g ∨ w.heap.size ≤ g) → wpList Try.prog ops Q rest (a.put o.dst v') w') : wpList Try.prog ops Q (o :: rest) a w := by
  refine wpList_plain hgd fun K hK => ?_
  obtain ⟨v', w', hr, h2, h3, h4⟩ := run_app_one w base t o.type e z bytes ht hinfo hzs hby v xs hown b y hy hnew hlen hbase
  unfold Oper.wp execOp
  simp only [ho, resolve, invoke, builtin, Sem.run_bind, Sem.run_pure, Result.andThen_ok, List.map_toArray, List.map_cons, List.map_nil, hs, hx, hr]
  exact hK _ _ (h v' w' h2 h3 h4)

/-! ### What may have changed -/
structure Fr (w w' : World) (S : Nat → Prop) : Prop where
  os : w'.os = w.os
  tape : w'.tape = w.tape
  output : w'.output = w.output
  size : w.heap.size ≤ w'.heap.size
  block : ∀ k, k < w.heap.size → ¬ S k → w'.heap[k]? = w.heap[k]?
theorem fr_of {w w' : World} {row : Option Nat} (g : w.grownBy w' row) {S : Nat → Prop} (h : ∀ k, row = some k → S k) : Fr w w' S :=
  ⟨g.os, g.tape, g.output, g.size, fun k hk hs => g.block k hk (fun e => hs (h k e.symm))⟩
theorem Fr.trans {a b c : World} {S T : Nat → Prop} (h : Fr a b S) (k : Fr b c T) (hT : ∀ g, g < a.heap.size → T g → S g) : Fr a c S :=
  ⟨k.os.trans h.os, k.tape.trans h.tape, k.output.trans h.output, Nat.le_trans h.size k.size,
    fun g hg hs => (k.block g (Nat.lt_of_lt_of_le hg h.size) (fun e => hs (hT g hg e))).trans (h.block g hg hs)⟩
theorem Fr.weak {w w' : World} {S T : Nat → Prop} (h : Fr w w' S) (hs : ∀ g, g < w.heap.size → S g → T g) : Fr w w' T := ⟨h.os, h.tape, h.output, h.size, fun k hk ht => h.block k hk (fun e => ht (hs k hk e))⟩
theorem Fr.cell {w w' : World} {S : Nat → Prop} (h : Fr w w' S) {b o : Nat} {v : Value} (hc : w.cell? ⟨b, o, none⟩ = some v) (hb : ¬ S b) : w'.cell? ⟨b, o, none⟩ = some v := by
  have hlt : b < w.heap.size := by
    rcases Nat.lt_or_ge b w.heap.size with h | h
    · exact h
    · have : w.heap[b]? = none := Array.getElem?_eq_none h
      simp [World.cell?, this] at hc
  have := h.block b hlt hb
  unfold World.cell? at hc ⊢
  dsimp only at hc ⊢
  rw [this]; exact hc
theorem Fr.grown {w w' : World} {S : Nat → Prop} (h : Fr w w' S) {row : Option Nat} (hs : ∀ g, g < w.heap.size → S g → row = some g) : w.grownBy w' row :=
  ⟨h.os, h.tape, h.output, h.size, fun k hk hne => h.block k hk (fun e => hne (hs k hk e).symm)⟩
theorem TrK.fr {P : Nat → Prop} {w w' : World} {y : Value} {t : Tr} {S : Nat → Prop} (h : TrK P w y t) (g : Fr w w' S) (hs : ∀ b, P b → ¬ S b) : TrK P w' y t := h.keep (fun b o v hb hc => g.cell hc (hs b hb))
theorem World.ownsRow.keptB {w w' : World} {base : Nat} {e : TypeId} {size : Nat} {v : Value} {n : Nat} {xs : List Value} (h : w.ownsRow base e size v n xs) (hb : ∀ g, v.ownBlock = some g → w'.heap[g]? = w.heap[g]?) : w'.ownsRow base e size v n xs := by
  rcases h.2 with h0 | ⟨g, cap, cur, rfl, hbg, hh, hr⟩
  · exact ⟨h.1, .inl h0⟩
  · exact ⟨h.1, .inr ⟨g, cap, cur, rfl, hbg, (hb g rfl).trans hh, hr⟩⟩
theorem World.ownsRow.fr {w w' : World} {base : Nat} {e : TypeId} {size : Nat} {v : Value} {n : Nat} {xs : List Value} {S : Nat → Prop} (h : w.ownsRow base e size v n xs) (f : Fr w w' S) (hs : ∀ g, v.ownBlock = some g → ¬ S g) : w'.ownsRow base e size v n xs :=
  World.ownsRow.keptB h (fun g hg => f.block g (World.ownsRow.lt h g hg).2 (hs g hg))

/-! ### A flat tree -/
structure FX where
  vl : Value
  ve : Value
  vk : Value
  L : List Int
  E : List Int
  ks : List Row
def FX.own (x : FX) (g : Nat) : Prop := x.vl.ownBlock = some g ∨ x.ve.ownBlock = some g ∨ x.vk.ownBlock = some g ∨ ∃ q ∈ x.ks, q.1.ownBlock = some g
def OwnR (w : World) (base : Nat) (v : Value) (ks : List Row) : Prop := w.ownsRow base 22 1 v (ks.map Prod.fst).length (ks.map Prod.fst)
structure FlatB (w : World) (F : Nat) (x : FX) : Prop where
  blk : w.heap[F]? = some (.cells #[x.vl, x.ve, x.vk] 71 (0, 0))
  ol : OwnI w (F + 1) x.vl x.L
  oe : OwnI w (F + 1) x.ve x.E
  ok : OwnR w (F + 1) x.vk x.ks
  rows : ∀ q ∈ x.ks, OwnI w (F + 1) q.1 q.2
  le : ∀ g, x.vl.ownBlock = some g → x.ve.ownBlock ≠ some g
  lk : ∀ g, x.vl.ownBlock = some g → x.vk.ownBlock ≠ some g
  ek : ∀ g, x.ve.ownBlock = some g → x.vk.ownBlock ≠ some g
  rl : ∀ q ∈ x.ks, ∀ g, q.1.ownBlock = some g → x.vl.ownBlock ≠ some g ∧ x.ve.ownBlock ≠ some g ∧ x.vk.ownBlock ≠ some g
theorem FlatB.fresh {w : World} {F : Nat} {x : FX} (h : FlatB w F x) {g : Nat} (hg : x.own g) : F < g ∧ g < w.heap.size := by
  rcases hg with hg | hg | hg | ⟨q, hq, hg⟩
  · exact h.ol.fresh g hg
  · exact h.oe.fresh g hg
  · exact World.ownsRow.lt h.ok g hg
  · exact (h.rows q hq).fresh g hg
theorem FlatB.lt {w : World} {F : Nat} {x : FX} (h : FlatB w F x) : F < w.heap.size := (Array.getElem?_eq_some_iff.1 h.blk).1
/-- From one flat tree to a later one. -/
def FS (w : World) (F : Nat) (x : FX) (w' : World) (x' : FX) : Prop := Fr w w' (fun k => k = F ∨ x.own k) ∧ ∀ g, x'.own g → x.own g ∨ w.heap.size ≤ g
theorem FS.refl (w : World) (F : Nat) (x : FX) : FS w F x w x := ⟨⟨rfl, rfl, rfl, Nat.le_refl _, fun _ _ _ => rfl⟩, fun g h => .inl h⟩
theorem FS.trans {w w1 w2 : World} {F : Nat} {x x1 x2 : FX} (h : FS w F x w1 x1) (k : FS w1 F x1 w2 x2) : FS w F x w2 x2 :=
  ⟨h.1.trans k.1 (fun g hg hs => by
    rcases hs with rfl | hs
    · exact .inl rfl
    · rcases h.2 g hs with h1 | h1
      · exact .inr h1
      · omega), fun g hg => by
    rcases k.2 g hg with h1 | h1
    · exact h.2 g h1
    · exact .inr (Nat.le_trans h.1.size h1)⟩
theorem FS.then {w w1 w2 : World} {F : Nat} {x x1 : FX} (h : FS w F x w1 x1) (g : w1.grownBy w2 none) : FS w F x w2 x1 :=
  ⟨h.1.trans (fr_of g (S := fun _ => False) (by simp)) (fun _ _ h => h.elim), h.2⟩
theorem FS.before {w w1 w2 : World} {F : Nat} {x x1 : FX} (g : w.grownBy w1 none) (h : FS w1 F x w2 x1) : FS w F x w2 x1 :=
  ⟨(fr_of g (S := fun k => k = F ∨ x.own k) (by simp)).trans h.1 (fun _ _ h => h), fun k hk => by
    rcases h.2 k hk with h1 | h1
    · exact .inl h1
    · exact .inr (Nat.le_trans g.size h1)⟩
theorem FlatB.same {w w' : World} {F : Nat} {x : FX} (h : FlatB w F x) (f : Fr w w' (fun k => ¬ (k = F ∨ x.own k))) : FlatB w' F x :=
  ⟨(f.block F h.lt (fun e => e (.inl rfl))).trans h.blk, World.ownsRow.fr h.ol f (fun g hg e => e (.inr (.inl hg))), World.ownsRow.fr h.oe f (fun g hg e => e (.inr (.inr (.inl hg)))), World.ownsRow.fr h.ok f (fun g hg e => e (.inr (.inr (.inr (.inl hg))))),
    fun q hq => World.ownsRow.fr (h.rows q hq) f (fun g hg e => e (.inr (.inr (.inr (.inr ⟨q, hq, hg⟩))))), h.le, h.lk, h.ek, h.rl⟩
theorem FlatB.grow {w w' : World} {F : Nat} {x : FX} (h : FlatB w F x) (g : w.grownBy w' none) : FlatB w' F x := h.same (fr_of g (by simp))
/-- Other labels. -/
theorem FlatB.newL {w w' : World} {F : Nat} {x : FX} {v : Value} {L : List Int} (h : FlatB w F x) (f : Fr w w' (fun k => k = F ∨ x.vl.ownBlock = some k)) (hb : w'.heap[F]? = some (.cells #[v, x.ve, x.vk] 71 (0, 0)))
    (ho : OwnI w' (F + 1) v L) (hl : ∀ g, v.ownBlock = some g → x.vl.ownBlock = some g ∨ w.heap.size ≤ g) : FlatB w' F { x with vl := v, L := L } ∧ FS w F x w' { x with vl := v, L := L } := by
  have old : ∀ g, v.ownBlock = some g → ∀ u : Value, x.vl.ownBlock ≠ some g ∨ True → (∀ k, u.ownBlock = some k → k < w.heap.size) → (∀ k, x.vl.ownBlock = some k → u.ownBlock ≠ some k) → u.ownBlock ≠ some g := fun g hg u _ hu hx e => by
    rcases hl g hg with h1 | h1
    · exact hx g h1 e
    · have := hu g e; omega
  refine ⟨⟨hb, ho, World.ownsRow.fr h.oe f (fun g hg e => ?_), World.ownsRow.fr h.ok f (fun g hg e => ?_), fun q hq => World.ownsRow.fr (h.rows q hq) f (fun g hg e => ?_), fun g hg => old g hg _ (.inr trivial) (fun k hk => (h.oe.fresh k hk).2) h.le, fun g hg => old g hg _ (.inr trivial) (fun k hk => (World.ownsRow.lt h.ok k hk).2) h.lk, h.ek, fun q hq g hg => ⟨fun e => old g e q.1 (.inr trivial) (fun k hk => ((h.rows q hq).fresh k hk).2) (fun k hk e2 => (h.rl q hq k e2).1 hk) hg, (h.rl q hq g hg).2⟩⟩, ⟨f.weak (fun g _ hs => ?_), fun g hg => ?_⟩⟩
  · rcases e with rfl | e
    · have := (h.oe.fresh _ hg).1; omega
    · exact h.le g e hg
  · rcases e with rfl | e
    · have := (World.ownsRow.lt h.ok _ hg).1; omega
    · exact h.lk g e hg
  · rcases e with rfl | e
    · have := ((h.rows q hq).fresh _ hg).1; omega
    · exact (h.rl q hq g hg).1 e
  · rcases hs with rfl | hs
    · exact .inl rfl
    · exact .inr (.inl hs)
  · rcases hg with hg | hg
    · rcases hl g hg with h1 | h1
      · exact .inl (.inl h1)
      · exact .inr h1
    · exact .inl (.inr hg)
/-- Other ends. -/
theorem FlatB.newE {w w' : World} {F : Nat} {x : FX} {v : Value} {E : List Int} (h : FlatB w F x) (f : Fr w w' (fun k => k = F ∨ x.ve.ownBlock = some k)) (hb : w'.heap[F]? = some (.cells #[x.vl, v, x.vk] 71 (0, 0)))
    (ho : OwnI w' (F + 1) v E) (hl : ∀ g, v.ownBlock = some g → x.ve.ownBlock = some g ∨ w.heap.size ≤ g) : FlatB w' F { x with ve := v, E := E } ∧ FS w F x w' { x with ve := v, E := E } := by
  have old : ∀ g, v.ownBlock = some g → ∀ u : Value, (∀ k, u.ownBlock = some k → k < w.heap.size) → (∀ k, x.ve.ownBlock = some k → u.ownBlock ≠ some k) → u.ownBlock ≠ some g := fun g hg u hu hx e => by
    rcases hl g hg with h1 | h1
    · exact hx g h1 e
    · have := hu g e; omega
  refine ⟨⟨hb, World.ownsRow.fr h.ol f (fun g hg e => ?_), ho, World.ownsRow.fr h.ok f (fun g hg e => ?_), fun q hq => World.ownsRow.fr (h.rows q hq) f (fun g hg e => ?_), fun g hg e => old g e x.vl (fun k hk => (h.ol.fresh k hk).2) (fun k hk e2 => h.le k e2 hk) hg, h.lk, fun g hg => old g hg _ (fun k hk => (World.ownsRow.lt h.ok k hk).2) h.ek, fun q hq g hg => ⟨(h.rl q hq g hg).1, fun e => old g e q.1 (fun k hk => ((h.rows q hq).fresh k hk).2) (fun k hk e2 => (h.rl q hq k e2).2.1 hk) hg, (h.rl q hq g hg).2.2⟩⟩, ⟨f.weak (fun g _ hs => ?_), fun g hg => ?_⟩⟩
  · rcases e with rfl | e
    · have := (h.ol.fresh _ hg).1; omega
    · exact h.le g hg e
  · rcases e with rfl | e
    · have := (World.ownsRow.lt h.ok _ hg).1; omega
    · exact h.ek g e hg
  · rcases e with rfl | e
    · have := ((h.rows q hq).fresh _ hg).1; omega
    · exact (h.rl q hq g hg).2.1 e
  · rcases hs with rfl | hs
    · exact .inl rfl
    · exact .inr (.inr (.inl hs))
  · rcases hg with hg | hg | hg
    · exact .inl (.inl hg)
    · rcases hl g hg with h1 | h1
      · exact .inl (.inr (.inl h1))
      · exact .inr h1
    · exact .inl (.inr (.inr hg))
/-- Other lists of kids. -/
theorem FlatB.newK {w0 w w' : World} {F : Nat} {x0 x : FX} {v : Value} {ks : List Row} (h : FlatB w F x) (h0 : FS w0 F x0 w x) (f : Fr w w' (fun k => k = F ∨ x.vk.ownBlock = some k)) (hb : w'.heap[F]? = some (.cells #[x.vl, x.ve, v] 71 (0, 0)))
    (ho : OwnR w' (F + 1) v ks) (hl : ∀ g, v.ownBlock = some g → x.vk.ownBlock = some g ∨ w.heap.size ≤ g)
    (hr : ∀ q ∈ ks, q ∈ x.ks ∨ (OwnI w (F + 1) q.1 q.2 ∧ ∀ g, q.1.ownBlock = some g → ¬ x.own g ∧ w0.heap.size ≤ g)) : FlatB w' F { x with vk := v, ks := ks } ∧ FS w0 F x0 w' { x with vk := v, ks := ks } := by
  have old : ∀ g, v.ownBlock = some g → ∀ u : Value, (∀ k, u.ownBlock = some k → k < w.heap.size) → (∀ k, x.vk.ownBlock = some k → u.ownBlock ≠ some k) → u.ownBlock ≠ some g := fun g hg u hu hx e => by
    rcases hl g hg with h1 | h1
    · exact hx g h1 e
    · have := hu g e; omega
  have rows : ∀ q ∈ ks, OwnI w (F + 1) q.1 q.2 ∧ ∀ g, q.1.ownBlock = some g → x.vl.ownBlock ≠ some g ∧ x.ve.ownBlock ≠ some g ∧ x.vk.ownBlock ≠ some g := fun q hq => by
    rcases hr q hq with h1 | ⟨h1, h2⟩
    · exact ⟨h.rows q h1, h.rl q h1⟩
    · exact ⟨h1, fun g hg => ⟨fun e => (h2 g hg).1 (.inl e), fun e => (h2 g hg).1 (.inr (.inl e)), fun e => (h2 g hg).1 (.inr (.inr (.inl e)))⟩⟩
  refine ⟨⟨hb, World.ownsRow.fr h.ol f (fun g hg e => ?_), World.ownsRow.fr h.oe f (fun g hg e => ?_), ho, fun q hq => World.ownsRow.fr (rows q hq).1 f (fun g hg e => ?_), h.le, fun g hg e => old g e x.vl (fun k hk => (h.ol.fresh k hk).2) (fun k hk e2 => h.lk k e2 hk) hg, fun g hg e => old g e x.ve (fun k hk => (h.oe.fresh k hk).2) (fun k hk e2 => h.ek k e2 hk) hg, fun q hq g hg => ⟨((rows q hq).2 g hg).1, ((rows q hq).2 g hg).2.1, fun e => old g e q.1 (fun k hk => ((rows q hq).1.fresh k hk).2) (fun k hk e2 => ((rows q hq).2 k e2).2.2 hk) hg⟩⟩, ⟨h0.1.trans f (fun g hg hs => ?_), fun g hg => ?_⟩⟩
  · rcases e with rfl | e
    · have := (h.ol.fresh _ hg).1; omega
    · exact h.lk g hg e
  · rcases e with rfl | e
    · have := (h.oe.fresh _ hg).1; omega
    · exact h.ek g hg e
  · rcases e with rfl | e
    · have := ((rows q hq).1.fresh _ hg).1; omega
    · exact ((rows q hq).2 g hg).2.2 e
  · rcases hs with rfl | hs
    · exact .inl rfl
    · rcases h0.2 g (.inr (.inr (.inl hs))) with h1 | h1
      · exact .inr h1
      · omega
  · rcases hg with hg | hg | hg | ⟨q, hq, hg⟩
    · exact h0.2 g (.inl hg)
    · exact h0.2 g (.inr (.inl hg))
    · rcases hl g hg with h1 | h1
      · exact h0.2 g (.inr (.inr (.inl h1)))
      · exact .inr (Nat.le_trans h0.1.size h1)
    · rcases hr q hq with h1 | ⟨h1, h2⟩
      · exact h0.2 g (.inr (.inr (.inr ⟨q, h1, hg⟩)))
      · exact .inr (h2 g hg).2
theorem flat_cells {w : World} {F : Nat} {a b c : Value} {e : TypeId} (h : w.heap[F]? = some (.cells #[a, b, c] e (0, 0))) :
    w.cell? ⟨F, 0, none⟩ = some a ∧ w.cell? ⟨F, 1, none⟩ = some b ∧ w.cell? ⟨F, 2, none⟩ = some c ∧ ∀ o, w.frozen? ⟨F, o, none⟩ = false :=
  ⟨by unfold World.cell?; dsimp only; rw [h]; rfl, by unfold World.cell?; dsimp only; rw [h]; rfl, by unfold World.cell?; dsimp only; rw [h]; rfl, fun o => by unfold World.frozen?; dsimp only; rw [h]; simp⟩

end Go.Proofs.Ytnppmemcdcgjhaa
