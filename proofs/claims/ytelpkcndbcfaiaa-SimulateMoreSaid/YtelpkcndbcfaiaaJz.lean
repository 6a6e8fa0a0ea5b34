/- The end of SimulateMore: the identity is a simulation. -/
import Derived.Test.YtelpkcndbcfaiaaJy
namespace Go.Proofs.Ytelpkcndbcfaiaa
open Go.RowKit
set_option linter.unusedVariables false
theorem make_boolZ {ops : Array Oper} {rest : List Oper} {o : Oper} {a : Act} {w : World} {Q : Exit → Act → World → Prop} (hgd : o.guard = none) (l c : Operand)
    (hop : o.op = Op.makeSlice 51 l c) (n : Nat) (hl : a.eval l = .int .i64 (n : Int)) (hc : a.eval c = .int .i64 (n : Int)) (hn : n ≤ 1000000000000)
    (h : ∀ w', OwnB w' w.heap.size (.slice (some ⟨w.heap.size, 0, none⟩) n n) (List.replicate n false) → w.grownBy w' none → wpList Try.prog ops Q rest (a.put o.dst (.slice (some ⟨w.heap.size, 0, none⟩) n n)) w') :
    wpList Try.prog ops Q (o :: rest) a w := by
  obtain ⟨i, hi, hz0, hz1, hz2⟩ := info_parts info_bool
  refine wpList_make_full w hgd l c 51 hop w.heap.size 4 i (.bool false) 1 Try.underlying51 hi hz0 hz1 .i64 .i64 n n n hl hc rfl rfl (by rw [hz2]; omega) (by unfold maxLen; omega) (Nat.le_refl _) ?_
  intro w' h1 h2
  refine h w' ?_ h2
  unfold OwnB
  rw [List.length_replicate, List.map_replicate]
  rw [Nat.mul_one] at h1
  simpa [Value.cells, toList_madeCells_one] using h1
theorem OwnB.put {w : World} {base g n c x : Nat} {r : List Bool} (h : OwnB w base (.slice (some ⟨g, 0, none⟩) n c) r) (hn : r.length = n) (b : Bool) : OwnB (w.setCell ⟨g, x, none⟩ (.bool b)) base (.slice (some ⟨g, 0, none⟩) n c) (r.set x b) := by
  subst hn
  unfold OwnB at *
  rw [List.length_set, List.map_set]
  rcases h.2 with ⟨h0, -⟩ | ⟨g2, cap, cur, he, h1, h2, h3, h4, h5, h6⟩
  · cases h0
  · simp only [Value.slice.injEq, Option.some.injEq, Addr.mk.injEq, and_true] at he
    obtain ⟨⟨rfl, -⟩, -, rfl⟩ := he
    refine ⟨by rw [List.length_set]; exact h.1, .inr ⟨g, c, cur.setIfInBounds x (.bool b), rfl, h1, heap_set h2 _, h3, h4, by simpa using h5, ?_⟩⟩
    rw [Array.toList_setIfInBounds, List.take_set, h6]
theorem OwnB.cellZ {w : World} {base g n c x : Nat} (h : OwnB w base (.slice (some ⟨g, 0, none⟩) n c) (List.replicate n false)) (hx : x < n) : w.cell? ⟨g, x, none⟩ = some (.bool false) ∧ w.frozen? ⟨g, x, none⟩ = false := by
  unfold OwnB at h
  rw [List.length_replicate] at h
  exact ⟨(World.ownsRow.cellAt h x (by omega)).trans (by simp [hx]), World.ownsRow.frozenAt h x⟩
def idRow (n x : Nat) : List Bool := (List.replicate n false).set x true
theorem idRow_len (n x : Nat) : (idRow n x).length = n := by simp [idRow]
def idTab (n m : Nat) : Rel := (List.range m).map (idRow n)
theorem idTab_more (n x : Nat) : idTab n (x + 1) = idTab n x ++ [idRow n x] := by unfold idTab; rw [List.range_succ, List.map_append]; rfl
theorem idTab_at {n u v : Nat} (hu : u < n) (hv : v < n) : atB (idTab n n) u v = true ↔ u = v := by
  unfold atB idTab idRow
  rw [List.getElem?_map, List.getElem?_range hu]
  simp only [Option.map_some, Option.getD_some, List.getElem?_set]
  by_cases e : u = v
  · subst e; simp [hu]
  · simp [e, hv]
theorem hold_id {A B : Sys} {n : Nat} (hA : A.length = n) (hB : B.length = n) (hn : 1 ≤ n) (hva : VS A) (hsub : ∀ x p, p ∈ arcsOf A x → p ∈ arcsOf B x) {e : Int} (h : HoldI A B (idTab n n) e) : e = 0 := by
  have hf : fitB A B (idTab n n) := ⟨by simp [idTab, hA], fun r hr => by
    obtain ⟨x, -, rfl⟩ := List.mem_map.1 hr
    rw [idRow_len, hB]⟩
  rcases h with ⟨h, -⟩ | ⟨-, -, x, y, hx, hy, hat, hm⟩ | ⟨-, -, he⟩
  · exact absurd hf h
  · exfalso
    rw [hA] at hx; rw [hB] at hy
    obtain rfl := (idTab_at hx hy).1 hat
    have : matchB (arcsOf A x) (arcsOf B x) (idTab n n) = true := match_iff.2 (fun p hp => ⟨p, hsub x p hp, rfl, (idTab_at (by rw [← hA]; exact hva.at hp) (by rw [← hA]; exact hva.at hp)).2 rfl⟩)
    rw [this] at hm
    cases hm
  · rw [he, if_pos ((idTab_at (by omega) (by omega)).2 rfl)]
theorem gr_id {A B : Sys} (hsub : ∀ x p, p ∈ arcsOf A x → p ∈ arcsOf B x) : Gr A B 0 0 :=
  gr_of (R := fun x y => x = y) (by rintro x y _ _ rfl p hp; exact ⟨p, hsub x p hp, rfl, rfl⟩) rfl
theorem sub_set {A : Sys} {ii : Nat} {l : List Ar} {a : Ar} (h : A[ii]? = some l) : ∀ x p, p ∈ arcsOf A x → p ∈ arcsOf (A.set ii (l ++ [a])) x := fun x p hp => by
  unfold arcsOf at *
  rw [List.getElem?_set]
  by_cases e : ii = x
  · subst e
    rw [h] at hp
    have hl := (List.getElem?_eq_some_iff.1 h).1
    rw [if_pos rfl, if_pos hl]
    simp only [Option.getD_some, List.mem_append] at hp ⊢
    exact .inl hp
  · rw [if_neg e]; exact hp
theorem goodF_few4 {n : Nat} : ∀ {ls : List ArcP} {c : Nat}, (∀ q ∈ ls, q.2.length ≤ 4 ∧ ArcsOk n q.2) → c + 4 * ls.length ≤ 256 → goodF n c ls = true
  | [], _, _, _ => rfl
  | l :: ls, c, h, hc => by
    have h1 := h l (by simp)
    simp only [List.length_cons] at hc
    rw [goodF, decide_eq_true (by omega)]
    have h2 : l.2.any (outB n) = false := by
      rw [List.any_eq_false]
      intro p hp
      have := h1.2 p hp
      unfold outB
      simp
      omega
    rw [h2]
    exact goodF_few4 (fun q hq => h q (List.mem_cons_of_mem _ hq)) (by omega)
/-- The system with an arc more is valid. -/
theorem good_more {la lb : List ArcP} {n ii : Nat} {v : Value} {l : List Ar} {y z : Int} (hn : la.length = n) (hok : RowsOk n la) (h1 : 1 ≤ n) (h6 : n ≤ 6) (hlb : lb.map Prod.snd = la.map Prod.snd) (hl : (lb.map Prod.snd)[ii]? = some l) (hyz : (0 ≤ y ∧ y < 3) ∧ 0 ≤ z ∧ z < (n : Int)) : goodS (lb.set ii (v, l ++ [(y, z)])) = true := by
  have hll : lb.length = n := by
    have := congrArg List.length hlb
    rw [List.length_map, List.length_map, hn] at this
    exact this
  have row : ∀ r ∈ lb.map Prod.snd, r.length ≤ 3 ∧ ArcsOk n r := fun r hr => by
    rw [hlb] at hr
    obtain ⟨q, hq, rfl⟩ := List.mem_map.1 hr
    exact hok q hq
  unfold goodS
  rw [List.length_set, hll, decide_eq_true h1, decide_eq_true (by omega)]
  refine goodF_few4 (fun q hq => ?_) (by rw [List.length_set]; omega)
  rcases List.mem_or_eq_of_mem_set hq with hq | rfl
  · have := row q.2 (List.mem_map.2 ⟨q, hq, rfl⟩)
    exact ⟨by omega, this.2⟩
  · have := row l (List.mem_of_getElem? hl)
    refine ⟨by simp; omega, arcsOk_snoc this.2 ⟨hyz.1.1, hyz.1.2, hyz.2.1, hyz.2.2⟩⟩
theorem own_eq {w w' : World} {base n sz : Nat} {e : TypeId} {v : Value} {xs : List Value} (h : w.ownsRow base e sz v n xs) (hk : ∀ g, v.ownBlock = some g → w'.heap[g]? = w.heap[g]?) : w'.ownsRow base e sz v n xs := by
  refine ⟨h.1, ?_⟩
  rcases h.2 with h0 | ⟨g, cap, cur, rfl, h1, h2, h3⟩
  · exact .inl h0
  · exact .inr ⟨g, cap, cur, rfl, h1, (hk g rfl).trans h2, h3⟩
/-- A system whose blocks are as they were. -/
theorem SysB.old {base Z X d : Nat} {w w' : World} {v : Value} {ls : List ArcP} {cs : Array Value} (h : SysB base w v ls) (hd : d < base) (hZ : w.heap.size = Z) (hX : w.heap[X]? = some (.cells cs 25 (0, 0))) (hk : ∀ k, k < Z → k ≠ d → k ≠ X → w'.heap[k]? = w.heap[k]?) : SysB base w' v ls := by
  have f : ∀ {e : TypeId} {sz n : Nat} {u : Value} {xs : List Value}, w.ownsRow base e sz u n xs → e ≠ 25 → w'.ownsRow base e sz u n xs := fun {e sz n u xs} ho hne => own_eq ho (fun g hg => by
    have h1 := ho.lt g hg
    refine hk g (by omega) (by omega) (fun e2 => ?_)
    subst e2
    rcases own_box ho hX hne with h2 | h2
    · rw [hg] at h2; cases h2
    · exact h2 hg)
  exact ⟨f h.1 (by decide), fun q hq => f (h.2 q hq) (by decide)⟩
end Go.Proofs.Ytelpkcndbcfaiaa
