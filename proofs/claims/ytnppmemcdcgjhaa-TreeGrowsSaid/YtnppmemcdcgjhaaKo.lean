/- Rows of trees from parts of others. -/
import Derived.Test.YtnppmemcdcgjhaaKn
import Derived.Test.YtnppmemcdcgjhaaHh
namespace Go.Proofs.Ytnppmemcdcgjhaa
open Go.RowKit Tr
set_option linter.unusedVariables false

theorem cellsT_get {vs : List (Value × Tr)} {j : Nat} {u : Value} (h : (cellsT vs)[j]? = some u) : ∃ i, ∃ hi : i < vs.length, (j = i * 2 ∧ u = .int .i64 (vs[i]).2.label) ∨ (j = i * 2 + 1 ∧ u = (vs[i]).1) := by
  have hj := (List.getElem?_eq_some_iff.1 h).1
  rw [cellsT_len] at hj
  have hi : j / 2 < vs.length := by omega
  obtain ⟨h0, h1⟩ := cellsT_at vs (j / 2) hi
  rcases Nat.mod_two_eq_zero_or_one j with e | e
  · have e2 : j = j / 2 * 2 := by omega
    rw [← e2, h] at h0
    exact ⟨j / 2, hi, .inl ⟨e2, Option.some.inj h0⟩⟩
  · have e2 : j = j / 2 * 2 + 1 := by omega
    rw [← e2, h] at h1
    exact ⟨j / 2, hi, .inr ⟨e2, Option.some.inj h1⟩⟩
/-- Trees that lie one behind the other from an address on. -/
def TsR (P : Nat → Prop) (w : World) (a : Option Addr) (vs : List (Value × Tr)) : Prop := ∀ i (h : i < vs.length), (∃ b off, a = some ⟨b, off, none⟩ ∧ P b ∧ w.cell? ⟨b, off + i * 2, none⟩ = some (.int .i64 vs[i].2.label) ∧ w.cell? ⟨b, off + i * 2 + 1, none⟩ = some vs[i].1) ∧ TrK P w vs[i].1 vs[i].2
theorem TrK.list {P : Nat → Prop} {w : World} {a : Option Addr} {n c : Nat} {t : Tr} (h : TrK P w (.slice a n c) t) : ∃ vs, vs.map Prod.snd = t.kids ∧ vs.length = n ∧ TsR P w a vs ∧ n ≤ c ∧ c ≤ maxLen ∧ (a = none → c = 0) := by
  obtain ⟨a', c', ys, hv, -, hn, hm, ha, hc, hk⟩ := h.open
  simp only [Value.slice.injEq] at hv
  obtain ⟨rfl, rfl, rfl⟩ := hv
  refine ⟨(List.range t.kids.length).map (fun i => (ys i, t.kids[i]?.getD (.node 0 []))), ?_, by simp, ?_, hn, hm, ha⟩
  · rw [List.map_map]
    refine List.ext_getElem (by simp) (fun i h1 h2 => ?_)
    simp [h2]
  · intro i hi
    have hi' : i < t.kids.length := by simpa using hi
    simp only [List.getElem_map, List.getElem_range, List.getElem?_eq_getElem hi', Option.getD_some]
    exact ⟨hc i hi', hk i hi'⟩
theorem TsR.keep {P : Nat → Prop} {w w' : World} {a : Option Addr} {vs : List (Value × Tr)} (h : TsR P w a vs) (g : ∀ b o v, P b → w.cell? ⟨b, o, none⟩ = some v → w'.cell? ⟨b, o, none⟩ = some v) : TsR P w' a vs := fun i hi => by
  obtain ⟨⟨b, off, h1, h2, h3, h4⟩, h5⟩ := h i hi
  exact ⟨⟨b, off, h1, h2, g _ _ _ h2 h3, g _ _ _ h2 h4⟩, h5.keep g⟩
theorem TsR.kept {P : Nat → Prop} {w w' : World} {a : Option Addr} {vs : List (Value × Tr)} {row : Option Nat} (h : TsR P w a vs) (g : w.grownBy w' row) (hr : ∀ k, row = some k → ¬ P k) : TsR P w' a vs :=
  h.keep (fun b o v hb hc => g.cell hc (fun e => hr b e.symm hb))
theorem TsR.bound {P : Nat → Prop} {w : World} {a : Option Addr} {vs : List (Value × Tr)} (h : TsR P w a vs) : TsR (fun b => P b ∧ b < w.heap.size) w a vs := fun i hi => by
  obtain ⟨⟨b, off, h1, h2, h3, h4⟩, h5⟩ := h i hi
  refine ⟨⟨b, off, h1, ⟨h2, ?_⟩, h3, h4⟩, h5.bound⟩
  rcases Nat.lt_or_ge b w.heap.size with h | h
  · exact h
  · have : w.heap[b]? = none := Array.getElem?_eq_none h
    simp [World.cell?, this] at h3
theorem TsR.weak {P Q : Nat → Prop} {w : World} {a : Option Addr} {vs : List (Value × Tr)} (h : TsR P w a vs) (g : ∀ b, P b → Q b) : TsR Q w a vs := fun i hi => by
  obtain ⟨⟨b, off, h1, h2, h3⟩, h5⟩ := h i hi
  exact ⟨⟨b, off, h1, g _ h2, h3⟩, h5.weak g⟩
theorem TsR.take {P : Nat → Prop} {w : World} {a : Option Addr} {vs : List (Value × Tr)} (h : TsR P w a vs) (k : Nat) : TsR P w a (vs.take k) := fun i hi => by
  rw [List.length_take] at hi
  have := h i (by omega)
  simpa using this
set_option maxRecDepth 20000 in
theorem trees_tail {P : Nat → Prop} {w : World} {a : Option Addr} {n cap : Nat} {vs : List (Value × Tr)} (h : TsR P w a vs) (hl : vs.length = n) (hc : n ≤ cap) (k : Nat) (hk : k ≤ n) :
    ∃ a' c', (∀ w', (Instr.slice 43 (.slice a n cap) (some (.int .i64 (k : Int))) none none).run Try.prog w' = .ok (.slice a' (n - k) c') w') ∧ TsR P w a' (vs.drop k) := by
  obtain ⟨i, hi, hz0, hz1, hz2⟩ := info_parts info_tree
  have hrun : ∀ w', (Instr.slice 43 (.slice a n cap) (some (.int .i64 (k : Int))) none none).run Try.prog w' = .ok (.slice (if cap = k then a else a.map (·.add (k * 2))) (n - k) (cap - k)) w' := by
    intro w'
    rw [run_slice_l w' 43 a n cap Try.underlying43 .i64 (k : Int) (by omega) (by omega)]
    rw [show Try.prog.elem 43 = 45 by kernel_rfl]
    simp [sizeOf, typeInfo, hi, hz1, sliced, Result.andThen]
  refine ⟨_, _, hrun, fun j hj => ?_⟩
  rw [List.length_drop] at hj
  have hck : ¬ cap = k := by omega
  rw [if_neg hck]
  obtain ⟨⟨b, off, rfl, h2, h3, h4⟩, h5⟩ := h (k + j) (by omega)
  have he : (⟨b, off, none⟩ : Addr).add (k * 2) = ⟨b, off + k * 2, none⟩ := by unfold Addr.add; split <;> simp_all
  simp only [Option.map_some, he, List.getElem_drop]
  exact ⟨⟨b, off + k * 2, rfl, h2, by rw [show off + k * 2 + j * 2 = off + (k + j) * 2 by omega]; exact h3, by rw [show off + k * 2 + j * 2 + 1 = off + (k + j) * 2 + 1 by omega]; exact h4⟩, h5⟩
theorem TrK.one {P : Nat → Prop} {w : World} {y : Value} {t : Tr} (h : TrK P w y t) : y.oneCell' = true := by
  obtain ⟨a, c, rfl⟩ := h.slice
  rfl
theorem run_app_trees {P : Nat → Prop} (w : World) (base : Nat) (ty : TypeId) (v : Value) (us : List (Value × Tr)) (hown : OwnTs w base v us) (ad : Option Addr) (n c : Nat) (vs : List (Value × Tr)) (hn : vs.length = n) (hr : TsR P w ad vs)
    (hlen : us.length + n ≤ 1000000000) (hbase : base ≤ w.heap.size) :
    ∃ v' w', (Builtin.append_ #[43, 43] ty #[v, .slice ad n c]).run Try.prog w = .ok v' w' ∧ OwnTs w' base v' (us ++ vs) ∧ w.grownBy w' v.ownBlock ∧ ∀ g, v'.ownBlock = some g → v.ownBlock = some g ∨ w.heap.size ≤ g := by
  obtain ⟨i, hi, hz0, hz1, hz2⟩ := info_parts info_tree
  subst hn
  by_cases h0 : vs.length = 0
  · have hvs : vs = [] := List.eq_nil_of_length_eq_zero h0
    subst hvs
    exact ⟨v, w, run_append_zero base 43 ty 45 i 2 Try.underlying43 hi v us.length (cellsT us) hown ad c, by rw [List.append_nil]; exact hown, grown_refl _ _, fun g hg => .inl hg⟩
  · obtain ⟨⟨b, off, rfl, -⟩, -⟩ := hr 0 (by omega)
    have hnews : ∀ (j : Nat) u, (cellsT vs)[j]? = some u → w.cell? ((⟨b, off, none⟩ : Addr).add j) = some u := by
      intro j u hu
      obtain ⟨q, hq, h⟩ := cellsT_get hu
      obtain ⟨⟨b', off', e, -, h3, h4⟩, -⟩ := hr q hq
      simp only [Option.some.injEq, Addr.mk.injEq, and_true] at e
      obtain ⟨rfl, rfl⟩ := e
      rw [show (⟨b, off, none⟩ : Addr).add j = ⟨b, off + j, none⟩ by unfold Addr.add; split <;> simp_all]
      rcases h with ⟨rfl, rfl⟩ | ⟨rfl, rfl⟩
      · exact h3
      · exact h4
    have h1 : ∀ z ∈ cellsT vs, z.oneCell' = true := by
      intro z hz
      obtain ⟨j, hj, rfl⟩ := List.getElem_of_mem hz
      obtain ⟨q, hq, h⟩ := cellsT_get (List.getElem?_eq_getElem hj)
      rcases h with ⟨-, e⟩ | ⟨-, e⟩
      · rw [e]; rfl
      · rw [e]; exact (hr q hq).2.one
    have hcl := cellsT_len us
    have hcv := cellsT_len vs
    obtain ⟨v', w', hr', h2, h3, -⟩ := run_append_own (P := Try.prog) w base 43 ty 45 i (.agg #[.int .i64 0, .slice none 0 0]) 2 32 Try.underlying43 hi hz0 hz1 hz2 rfl (by decide) v us.length (cellsT us) hown ⟨b, off, none⟩ vs.length c (cellsT vs) hcv hnews h1 (by unfold maxLen; omega) (by omega) hbase
    refine ⟨v', w', hr', by unfold OwnTs; rw [cellsT_app, List.length_append]; exact h2, h3, ?_⟩
    rcases hown.2 with ⟨rfl, h00⟩ | ⟨g, cap, cur, rfl, hbg, hg, hnc, hcm, hcs, htake⟩
    · obtain ⟨v2, w2, hr2, h22, -⟩ := run_append_own (P := Try.prog) w w.heap.size 43 ty 45 i (.agg #[.int .i64 0, .slice none 0 0]) 2 32 Try.underlying43 hi hz0 hz1 hz2 rfl (by decide) (.slice none 0 0) us.length (cellsT us) ⟨hown.1, .inl ⟨rfl, h00⟩⟩ ⟨b, off, none⟩ vs.length c (cellsT vs) hcv hnews h1 (by unfold maxLen; omega) (by omega) (Nat.le_refl _)
      rw [hr'] at hr2
      cases hr2
      exact fun g hg => .inr (World.ownsRow.lt h22 g hg).1
    · by_cases hroom : us.length + vs.length ≤ cap
      · obtain ⟨w2, hr2, -, -⟩ := run_append_own_spare (P := Try.prog) w base 43 ty 45 i 2 Try.underlying43 hi hz1 g us.length cap (cellsT us) hown ⟨b, off, none⟩ vs.length c (cellsT vs) hcv hnews h1 hroom
        rw [hr'] at hr2
        cases hr2
        exact fun k hk => .inl hk
      · have holds : ∀ (j : Nat) z, (cellsT us)[j]? = some z → w.cell? ((⟨g, 0, none⟩ : Addr).add j) = some z := hown.cells (g := g) rfl
        have hr2 := run_append_grow (P := Try.prog) w 43 ty 45 i (.agg #[.int .i64 0, .slice none 0 0]) Try.underlying43 hi hz0 ⟨g, 0, none⟩ us.length cap (cellsT us) (by rw [hz1]; exact hcl) holds ⟨b, off, none⟩ vs.length c (cellsT vs) (by rw [hz1]; exact hcv) hnews (by omega) (by omega) (growslice_fits (by omega) (by rw [hz2]; omega))
        rw [hr'] at hr2
        cases hr2
        intro k hk
        simp only [Value.ownBlock, Option.some.injEq] at hk
        exact .inr (by omega)
theorem step_app_trees {P : Nat → Prop} {ops : Array Oper} {o : Oper} {a : Act} {w : World} {K : Act → World → Prop} {Q : Exit → Act → World → Prop} {E : Prop} (hgd : o.guard = none) (s x : Operand)
    (ho : o.op = .call { callee := .builtin .append, args := #[s, x], argTypes := #[43, 43] }) (base : Nat) (v : Value) (us : List (Value × Tr)) (hs : a.eval s = v)
    (hown : OwnTs w base v us) (ad : Option Addr) (n c : Nat) (vs : List (Value × Tr)) (hx : a.eval x = .slice ad n c) (hn : vs.length = n) (hr : TsR P w ad vs)
    (hlen : us.length + n ≤ 1000000000) (hbase : base ≤ w.heap.size)
    (h : ∀ v' w', OwnTs w' base v' (us ++ vs) → w.grownBy w' v.ownBlock → (∀ g, v'.ownBlock = some g → v.ownBlock = some g ∨ w.heap.size ≤ g) → K (a.put o.dst v') w') : if Region.wanted o (yielded ops a.tmps) = true then Oper.wp Try.prog o a w K Q else E := by
  have hw : Region.wanted o (yielded ops a.tmps) = true := by simp [Region.wanted, hgd]
  rw [if_pos hw]
  obtain ⟨v', w', hr2, h2, h3, h4⟩ := run_app_trees w base o.type v us hown ad n c vs hn hr hlen hbase
  unfold Oper.wp execOp
  simp only [ho, resolve, invoke, builtin, Sem.run_bind, Sem.run_pure, Result.andThen_ok, List.map_toArray, List.map_cons, List.map_nil, hs, hx, hr2]
  exact h v' w' h2 h3 h4

/-- An own row, whose trees may lie anywhere but in the row itself. -/
def KidsD (w : World) (D base : Nat) (v : Value) (us : List (Value × Tr)) : Prop := OwnTs w base v us ∧ ∀ u ∈ us, TrK (fun b => D < b ∧ v.ownBlock ≠ some b) w u.1 u.2
theorem KidsD.nil (w : World) (D base : Nat) : KidsD w D base (.slice none 0 0) [] := ⟨World.ownsRow_nil _ _ _ _, by simp⟩
theorem KidsD.kept {w w' : World} {D base : Nat} {v : Value} {us : List (Value × Tr)} {row : Option Nat} (h : KidsD w D base v us) (g : w.grownBy w' row) (hr : ∀ k, row = some k → k ≤ D) (hD : D < base) : KidsD w' D base v us :=
  ⟨World.ownsRow.kept h.1 g (by
    cases hv : v.ownBlock with
    | none => exact .inl rfl
    | some b => exact .inr (fun e => by have := hr b e.symm; have := (h.1.fresh b hv).1; omega)),
   fun u hu => (h.2 u hu).kept g (fun k hk hp => by have := hr k hk; omega)⟩
theorem KidsD.push {w1 w2 : World} {D base : Nat} {v v' : Value} {us vs : List (Value × Tr)} (h : KidsD w1 D base v us) (hu : ∀ u ∈ vs, TrK (fun b => D < b ∧ v.ownBlock ≠ some b) w1 u.1 u.2) (ho : OwnTs w2 base v' (us ++ vs)) (hg : w1.grownBy w2 v.ownBlock)
    (hb : ∀ g, v'.ownBlock = some g → v.ownBlock = some g ∨ w1.heap.size ≤ g) : KidsD w2 D base v' (us ++ vs) := by
  refine ⟨ho, fun q hq => ?_⟩
  have hq' : TrK (fun b => D < b ∧ v.ownBlock ≠ some b) w1 q.1 q.2 := by
    rcases List.mem_append.1 hq with hq | hq
    · exact h.2 q hq
    · exact hu q hq
  exact (hq'.bound.kept hg (fun k hk hp => hp.1.2 hk)).weak (fun b hp => ⟨hp.1.1, fun e => by
      rcases hb b e with h1 | h1
      · exact hp.1.2 h1
      · have := hp.2; omega⟩)
theorem KidsD.tree {w : World} {D base : Nat} {v : Value} {us : List (Value × Tr)} (h : KidsD w D base v us) (hD : D < base) {l : Int} (hl : -9223372036854775808 ≤ l ∧ l ≤ 9223372036854775807) : TrK (fun b => D < b) w v (.node l (us.map Prod.snd)) := by
  have hm : (us.map Prod.snd).length = us.length := List.length_map _
  rcases h.1.2 with ⟨rfl, h0⟩ | ⟨g, cap, cur, rfl, hbg, hg, hnc, hcm, hcs, htake⟩
  · have : us = [] := List.eq_nil_of_length_eq_zero h0
    subst this
    exact .mk l [] none 0 (fun _ => .slice none 0 0) hl (Nat.le_refl _) (Nat.zero_le _) (fun _ => rfl) (fun i hi => by simp at hi) (fun i hi => by simp at hi)
  · have hc := World.ownsRow.cells h.1 (g := g) rfl
    have := TrK.mk (P := fun b => D < b) (w := w) l (us.map Prod.snd) (some ⟨g, 0, none⟩) cap (fun i => (us[i]?.getD (.slice none 0 0, .node 0 [])).1) hl (by rw [hm]; exact hnc) hcm (fun e => by cases e) (fun i hi => by
      rw [hm] at hi
      obtain ⟨c0, c1⟩ := cellsT_at us i hi
      refine ⟨g, 0, rfl, by omega, ?_, ?_⟩
      · have := hc _ _ c0
        rw [add_zero_off] at this
        simpa using this
      · have := hc _ _ c1
        rw [add_zero_off] at this
        simpa [List.getElem?_eq_getElem hi, Nat.add_assoc] using this) (fun i hi => by
      rw [hm] at hi
      have := h.2 _ (List.getElem_mem hi)
      simp only [List.getElem?_eq_getElem hi, Option.getD_some, List.getElem_map]
      exact this.weak (fun b hb => hb.1))
    rwa [hm] at this
theorem TsR.mem {P : Nat → Prop} {w : World} {a : Option Addr} {vs : List (Value × Tr)} (h : TsR P w a vs) : ∀ u ∈ vs, TrK P w u.1 u.2 := fun u hu => by
  obtain ⟨i, hi, rfl⟩ := List.getElem_of_mem hu
  exact (h i hi).2

end Go.Proofs.Ytnppmemcdcgjhaa
