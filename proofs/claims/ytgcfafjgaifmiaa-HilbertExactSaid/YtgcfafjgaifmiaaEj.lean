/- Sums of minimal vectors: the mathematics of Split. -/
import Derived.Test.YtgcfafjgaifmiaaEi
namespace Go.Proofs.Ytgcfafjgaifmiaa
open Go.RowKit
set_option linter.unusedVariables false

def subL (x p : List Int) : List Int := List.zipWith (fun a b => a - b) x p
def addL (x p : List Int) : List Int := List.zipWith (fun a b => a + b) x p
def Nn (c : Nat) (x : List Int) : Prop := x.length = c ∧ ∀ z ∈ x, 0 ≤ z
theorem VecOk.nn {c : Nat} {x : List Int} (h : VecOk c x) : Nn c x := ⟨h.1, fun z hz => (h.2 z hz).1⟩
theorem sumI_sub : ∀ (x p : List Int), x.length = p.length → sumI (subL x p) = sumI x - sumI p
  | [], [], _ => rfl
  | a :: x, b :: p, h => by
    have := sumI_sub x p (by simpa using h)
    show a - b + sumI (subL x p) = a + sumI x - (b + sumI p)
    omega
theorem sub_nn : ∀ (x p : List Int), x.length = p.length → leqI p x = true → ∀ z ∈ subL x p, 0 ≤ z
  | [], [], _, _, z, hz => by simp [subL] at hz
  | a :: x, b :: p, h, hl, z, hz => by
    simp only [leqI, Bool.and_eq_true, decide_eq_true_eq] at hl
    have e : subL (a :: x) (b :: p) = (a - b) :: subL x p := rfl
    rw [e] at hz
    rcases List.mem_cons.1 hz with rfl | hz
    · omega
    · exact sub_nn x p (by simpa using h) hl.2 z hz
theorem sub_le : ∀ (x p : List Int) (M : Int), x.length = p.length → (∀ z ∈ p, 0 ≤ z) → (∀ z ∈ x, z ≤ M) → ∀ z ∈ subL x p, z ≤ M
  | [], [], M, _, _, _, z, hz => by simp [subL] at hz
  | a :: x, b :: p, M, h, hp, hx, z, hz => by
    have e : subL (a :: x) (b :: p) = (a - b) :: subL x p := rfl
    rw [e] at hz
    rcases List.mem_cons.1 hz with rfl | hz
    · have := hp b (by simp); have := hx a (by simp); omega
    · exact sub_le x p M (by simpa using h) (fun z hz => hp z (by simp [hz])) (fun z hz => hx z (by simp [hz])) z hz
theorem subL_len {c : Nat} {x p : List Int} (hx : x.length = c) (hp : p.length = c) : (subL x p).length = c := by unfold subL; rw [List.length_zipWith]; omega
theorem addL_len {c : Nat} {x p : List Int} (hx : x.length = c) (hp : p.length = c) : (addL x p).length = c := by unfold addL; rw [List.length_zipWith]; omega
theorem sub_ok {c : Nat} {x p : List Int} (hx : VecOk c x) (hp : VecOk c p) (h : leqI p x = true) : VecOk c (subL x p) :=
  ⟨subL_len hx.1 hp.1, fun z hz => ⟨sub_nn x p (by rw [hx.1, hp.1]) h z hz, sub_le x p 1000000 (by rw [hx.1, hp.1]) (fun z hz => (hp.2 z hz).1) (fun z hz => (hx.2 z hz).2) z hz⟩⟩
theorem add_sub : ∀ (x p : List Int), x.length = p.length → addL p (subL x p) = x
  | [], [], _ => rfl
  | a :: x, b :: p, h => by
    show (b + (a - b)) :: addL p (subL x p) = a :: x
    rw [add_sub x p (by simpa using h)]
    congr 1; omega
theorem sub_add : ∀ (q y : List Int), q.length = y.length → subL (addL q y) q = y
  | [], [], _ => rfl
  | a :: q, b :: y, h => by
    show (a + b - a) :: subL (addL q y) q = b :: y
    rw [sub_add q y (by simpa using h)]
    congr 1; omega
theorem leq_add : ∀ (q y : List Int), q.length = y.length → (∀ z ∈ y, 0 ≤ z) → leqI q (addL q y) = true
  | [], [], _, _ => rfl
  | a :: q, b :: y, h, hy => by
    show (decide (a ≤ a + b) && leqI q (addL q y)) = true
    rw [leq_add q y (by simpa using h) (fun z hz => hy z (by simp [hz]))]
    have := hy b (by simp)
    simp; omega
theorem add_left_comm' : ∀ (a b y : List Int), a.length = b.length → b.length = y.length → addL a (addL b y) = addL b (addL a y)
  | [], [], [], _, _ => rfl
  | x :: a, z :: b, u :: y, h1, h2 => by
    show (x + (z + u)) :: addL a (addL b y) = (z + (x + u)) :: addL b (addL a y)
    rw [add_left_comm' a b y (by simpa using h1) (by simpa using h2)]
    congr 1; omega
theorem some_iff : ∀ {x : List Int}, (∀ z ∈ x, 0 ≤ z) → (someB x = true ↔ 0 < sumI x)
  | [], _ => by simp [someB, sumI]
  | a :: x, h => by
    have ih := some_iff (x := x) (fun z hz => h z (by simp [hz]))
    have h1 := h a (by simp)
    have h2 := sumI_nn (v := x) (fun z hz => h z (by simp [hz]))
    have e : someB (a :: x) = (decide (0 < a) || someB x) := rfl
    have e2 : sumI (a :: x) = a + sumI x := rfl
    rw [e, e2]
    by_cases ha : 0 < a
    · simp [ha]; omega
    · simp only [ha, decide_false, Bool.false_or, ih]; omega
theorem zero_of : ∀ {x : List Int}, (∀ z ∈ x, 0 ≤ z) → someB x = false → x = List.replicate x.length 0
  | [], _, _ => rfl
  | a :: x, h, hs => by
    have e : someB (a :: x) = (decide (0 < a) || someB x) := rfl
    rw [e, Bool.or_eq_false_iff] at hs
    have h1 := h a (by simp)
    have h2 : ¬ 0 < a := by simpa using hs.1
    rw [List.length_cons, List.replicate_succ, ← zero_of (fun z hz => h z (by simp [hz])) hs.2]
    congr 1; omega
/-- The sum of vectors. -/
def vsum (c : Nat) (M : List (List Int)) : List Int := M.foldr addL (List.replicate c 0)
theorem vsum_len {c : Nat} : ∀ {M : List (List Int)}, (∀ p ∈ M, Nn c p) → (vsum c M).length = c
  | [], _ => by simp [vsum]
  | p :: M, h => addL_len (h p (by simp)).1 (vsum_len (fun q hq => h q (by simp [hq])))
theorem vsum_nn {c : Nat} : ∀ {M : List (List Int)}, (∀ p ∈ M, Nn c p) → ∀ z ∈ vsum c M, 0 ≤ z
  | [], _, z, hz => by unfold vsum at hz; have := List.eq_of_mem_replicate hz; omega
  | p :: M, h, z, hz => by
    have h1 := vsum_nn (M := M) (fun q hq => h q (by simp [hq]))
    have h2 := h p (by simp)
    have e : vsum c (p :: M) = addL p (vsum c M) := rfl
    rw [e] at hz
    obtain ⟨i, hi, rfl⟩ := List.getElem_of_mem hz
    unfold addL at hi ⊢
    rw [List.getElem_zipWith]
    rw [List.length_zipWith] at hi
    have a1 := h2.2 _ (List.getElem_mem (show i < p.length by omega))
    have a2 := h1 _ (List.getElem_mem (show i < (vsum c M).length by omega))
    omega
theorem vsum_erase {c : Nat} {q : List Int} : ∀ {M : List (List Int)}, (∀ p ∈ M, Nn c p) → q ∈ M → vsum c M = addL q (vsum c (M.erase q))
  | p :: M, h, hq => by
    by_cases e : p = q
    · subst e
      rw [List.erase_cons_head]; rfl
    · have hq' : q ∈ M := by
        rcases List.mem_cons.1 hq with h | h
        · exact absurd h.symm e
        · exact h
      have hM : ∀ r ∈ M, Nn c r := fun r hr => h r (by simp [hr])
      have hE : ∀ r ∈ M.erase q, Nn c r := fun r hr => hM r (List.mem_of_mem_erase hr)
      rw [List.erase_cons_tail (by simpa using e)]
      show addL p (vsum c M) = addL q (addL p (vsum c (M.erase q)))
      rw [vsum_erase hM hq', add_left_comm' _ _ _ (by rw [(h p (by simp)).1, (hM q hq').1]) (by rw [(hM q hq').1, vsum_len hE])]

/-- What split finds: a list of parts, each not before the one ahead of it, whose sum is x. -/
inductive SplitOk : List (List Int) → List Int → List (List Int) → Prop
  | nil {ps : List (List Int)} {x : List Int} : someB x = false → SplitOk ps x []
  | cons {ps : List (List Int)} {x p : List Int} {L : List (List Int)} (i : Nat) : someB x = true → ps[i]? = some p → leqI p x = true → SplitOk (ps.drop i) (subL x p) L → SplitOk ps x (p :: L)
theorem SplitOk.shift {ps : List (List Int)} {x q : List Int} {L : List (List Int)} (h : SplitOk ps x L) : SplitOk (q :: ps) x L := by
  cases h with
  | nil h => exact .nil h
  | cons i h1 h2 h3 h4 => exact .cons (i + 1) h1 (by simpa using h2) h3 (by simpa using h4)
theorem SplitOk.mem {ps : List (List Int)} {x : List Int} {L : List (List Int)} (h : SplitOk ps x L) : ∀ p ∈ L, p ∈ ps := by
  induction h with
  | nil _ => simp
  | cons i h1 h2 h3 h4 ih =>
    intro q hq
    rcases List.mem_cons.1 hq with rfl | hq
    · exact List.mem_of_getElem? h2
    · exact List.mem_of_mem_drop (ih q hq)
theorem SplitOk.sum {c : Nat} {ps : List (List Int)} {x : List Int} {L : List (List Int)} (h : SplitOk ps x L) : (∀ p ∈ ps, Nn c p) → Nn c x → vsum c L = x := by
  induction h with
  | nil h =>
    intro _ hx
    show List.replicate c 0 = _
    rw [zero_of hx.2 h, hx.1]
  | cons i h1 h2 h3 h4 ih =>
    intro hp hx
    have hpn := hp _ (List.mem_of_getElem? h2)
    rename_i ps x p L
    show addL p (vsum c L) = x
    rw [ih (fun q hq => hp q (List.mem_of_mem_drop hq)) ⟨subL_len hx.1 hpn.1, sub_nn x p (by rw [hx.1, hpn.1]) h3⟩]
    exact add_sub x p (by rw [hx.1, hpn.1])
theorem SplitOk.asc {ps : List (List Int)} {x : List Int} {L : List (List Int)} (h : SplitOk ps x L) : Asc ps → L.Pairwise (fun a b => a = b ∨ lexI a b = -1) := by
  induction h with
  | nil _ => intro _; exact .nil
  | cons i h1 h2 h3 h4 ih =>
    rename_i ps x p L
    intro ha
    have had : Asc (ps.drop i) := ha.sublist (List.drop_sublist _ _)
    refine .cons (fun q hq => ?_) (ih had)
    have hq' := h4.mem q hq
    obtain ⟨hi, hip⟩ := List.getElem?_eq_some_iff.1 h2
    rw [List.drop_eq_getElem_cons hi, hip] at had hq'
    rcases List.mem_cons.1 hq' with rfl | hq'
    · exact .inl rfl
    · exact .inr ((List.pairwise_cons.1 had).1 q hq')
theorem SplitOk.len {c : Nat} {ps : List (List Int)} {x : List Int} {L : List (List Int)} (h : SplitOk ps x L) : (∀ p ∈ ps, Nn c p ∧ someB p = true) → Nn c x → (L.length : Int) ≤ sumI x := by
  induction h with
  | nil h => intro _ hx; have := sumI_nn hx.2; simpa using this
  | cons i h1 h2 h3 h4 ih =>
    rename_i ps x p L
    intro hp hx
    obtain ⟨hpn, hps⟩ := hp _ (List.mem_of_getElem? h2)
    have := ih (fun q hq => hp q (List.mem_of_mem_drop hq)) ⟨subL_len hx.1 hpn.1, sub_nn x p (by rw [hx.1, hpn.1]) h3⟩
    rw [sumI_sub x p (by rw [hx.1, hpn.1])] at this
    have h5 := (some_iff hpn.2).1 hps
    rw [List.length_cons]
    omega
theorem exists_split {c : Nat} : ∀ (ps : List (List Int)), (∀ p ∈ ps, Nn c p ∧ someB p = true) → ∀ (n : Nat) (M : List (List Int)), M.length = n → (∀ p ∈ M, p ∈ ps) → ∃ L, SplitOk ps (vsum c M) L
  | [], _, n, M, _, hM => by
    have : M = [] := by
      cases M with
      | nil => rfl
      | cons a M => exact absurd (hM a (by simp)) (by simp)
    subst this
    refine ⟨[], .nil ?_⟩
    unfold vsum someB
    simp
  | q :: ps, hp, n, M, hn, hM => by
    induction n generalizing M with
    | zero =>
      have : M = [] := List.eq_nil_of_length_eq_zero hn
      subst this
      refine ⟨[], .nil ?_⟩
      unfold vsum someB
      simp
    | succ n ih =>
      by_cases hq : q ∈ M
      · have hN : ∀ p ∈ M, Nn c p := fun p h => (hp p (hM p h)).1
        have hE : ∀ p ∈ M.erase q, Nn c p := fun p h => hN p (List.mem_of_mem_erase h)
        obtain ⟨L, hL⟩ := ih (M.erase q) (by rw [List.length_erase_of_mem hq]; omega) (fun p h => hM p (List.mem_of_mem_erase h))
        refine ⟨q :: L, .cons 0 ?_ rfl ?_ ?_⟩
        · rw [some_iff (vsum_nn hN), vsum_erase hN hq]
          have h1 := (some_iff (hN q hq).2).1 (hp q (by simp)).2
          have h2 := sumI_nn (vsum_nn hE)
          have h3 := sumI_sub (addL q (vsum c (M.erase q))) q (by rw [addL_len (hN q hq).1 (vsum_len hE), (hN q hq).1])
          rw [sub_add q _ (by rw [(hN q hq).1, vsum_len hE])] at h3
          omega
        · rw [vsum_erase hN hq]
          exact leq_add q _ (by rw [(hN q hq).1, vsum_len hE]) (vsum_nn hE)
        · rw [vsum_erase hN hq, sub_add q _ (by rw [(hN q hq).1, vsum_len hE])]
          exact hL
      · obtain ⟨L, hL⟩ := exists_split ps (fun p h => hp p (by simp [h])) (n + 1) M hn (fun p h => by
          rcases List.mem_cons.1 (hM p h) with rfl | h'
          · exact absurd h hq
          · exact h')
        exact ⟨L, hL.shift⟩
theorem dot_sub : ∀ (r u v : List Int), r.length = u.length → r.length = v.length → dotL r (subL u v) = dotL r u - dotL r v
  | [], [], [], _, _ => rfl
  | a :: r, x :: u, y :: v, h1, h2 => by
    have := dot_sub r u v (by simpa using h1) (by simpa using h2)
    show a * (x - y) + dotL r (subL u v) = (a * x + dotL r u) - (a * y + dotL r v)
    rw [this, Int.mul_sub]; omega
theorem dot_add : ∀ (r u v : List Int), r.length = u.length → r.length = v.length → dotL r (addL u v) = dotL r u + dotL r v
  | [], [], [], _, _ => rfl
  | a :: r, x :: u, y :: v, h1, h2 => by
    have := dot_add r u v (by simpa using h1) (by simpa using h2)
    show a * (x + y) + dotL r (addL u v) = (a * x + dotL r u) + (a * y + dotL r v)
    rw [this, Int.mul_add]; omega
def zerosL (r : Nat) : List Int := List.replicate r 0
theorem sol_zero {r c : Nat} {ms : List Row} {x : List Int} (hm : MatOkP r c ms) : solB ms (zerosL r) x = true ↔ ∀ q ∈ ms, dotL q.2 x = 0 := by
  unfold solB zerosL
  rw [beq_iff_eq]
  constructor
  · intro h q hq
    obtain ⟨i, hi, rfl⟩ := List.getElem_of_mem hq
    have := congrArg (fun l => l[i]?.getD 0) h
    simp only [List.getElem?_map, List.getElem?_eq_getElem hi, Option.map_some, Option.getD_some] at this
    rw [this, List.getElem?_replicate]
    split <;> rfl
  · intro h
    apply List.ext_getElem (by rw [List.length_map, List.length_replicate, hm.1])
    intro i h1 h2
    rw [List.getElem_map, List.getElem_replicate]
    exact h _ (List.getElem_mem _)
/-- Each homogeneous solution is a sum of minimal ones. -/
theorem exists_sum {r c : Nat} {ms : List Row} (hm : MatOkP r c ms) (s : Nat) : ∀ (k : Nat) (x : List Int), sumI x ≤ (k : Int) → k ≤ s → Nn c x → solB ms (zerosL r) x = true → ∃ M, (∀ p ∈ M, p ∈ minL (goodB ms (zerosL r) someB) (vecs c s)) ∧ vsum c M = x := by
  have hv : ∀ v ∈ vecs c s, v.length = c ∧ ∀ z ∈ v, 0 ≤ z := fun v h => ⟨((mem_vecs c s v).1 h).1, ((mem_vecs c s v).1 h).2.1⟩
  intro k
  induction k with
  | zero =>
    intro x hs _ hx _
    refine ⟨[], by simp, ?_⟩
    have h0 : someB x = false := by
      cases h : someB x
      · rfl
      · have := (some_iff hx.2).1 h; omega
    show List.replicate c 0 = x
    rw [zero_of hx.2 h0, hx.1]
  | succ k ih =>
    intro x hs hk hx hsol
    cases h0 : someB x with
    | false =>
      refine ⟨[], by simp, ?_⟩
      show List.replicate c 0 = x
      rw [zero_of hx.2 h0, hx.1]
    | true =>
      have hxm : x ∈ vecs c s := (mem_vecs c s x).2 ⟨hx.1, hx.2, by omega⟩
      have hg : goodB ms (zerosL r) someB x = true := by unfold goodB; rw [hsol, h0]; rfl
      obtain ⟨y, hy, hyx⟩ := below_min hv (sumI x).toNat x hxm hg (by omega)
      have hyn := hv y hy.1
      have hyg := hy.2.1
      unfold goodB at hyg
      rw [Bool.and_eq_true] at hyg
      have hsy := (some_iff hyn.2).1 hyg.2
      have hd : sumI (subL x y) = sumI x - sumI y := sumI_sub x y (by rw [hx.1, hyn.1])
      obtain ⟨M, hM, hMs⟩ := ih (subL x y) (by omega) (by omega) ⟨subL_len hx.1 hyn.1, sub_nn x y (by rw [hx.1, hyn.1]) hyx⟩ ((sol_zero hm).2 (fun q hq => by
        have hq2 := hm.2.2.2.2.2.2 q hq
        rw [dot_sub _ _ _ (by rw [hq2.1, hx.1]) (by rw [hq2.1, hyn.1]), (sol_zero hm).1 hsol q hq, (sol_zero hm).1 hyg.1 q hq]; rfl))
      refine ⟨y :: M, fun p hp => ?_, ?_⟩
      · rcases List.mem_cons.1 hp with rfl | hp
        · exact ((minL_all hv (vecs_asc c s)).2 _).2 hy
        · exact hM p hp
      · show addL y (vsum c M) = x
        rw [hMs]
        exact add_sub x y (by rw [hx.1, hyn.1])
end Go.Proofs.Ytgcfafjgaifmiaa
