/- A range over a function whose iterator keeps what it hands out in a block of its own: one law for such loops; a round may return. -/
import Derived.RangeFuncNested
import Derived.RangeFuncBound
import Derived.RangeFuncCalls
import Derived.RangeFuncLeaves
import Derived.RangeFuncBox
import Derived.Shelf.Abstract
import Derived.Shelf.RegionOpen
import Derived.WalkKit
import Derived.OwnWalkIn
import Derived.TacticsInMore
import Derived.LoopNIn
import Derived.LoopIn
import Derived.Maps.AppendAt
import Derived.Test.YthlollnpnangpaaDoorGt
namespace Go.Proofs.YthlollnpnangpaaDoor
open Go.RowKit
set_option linter.unusedVariables false

/-- What the law keeps of its own: the loop's record and the block for deferred calls. -/
def Kept (l : Nat) (r : Loop) (D : Nat) (W : World) : Prop := W.heap[l]? = some (.loop r) ∧ W.heap[D]? = some (.deferred (some []))
theorem Kept.step {l D : Nat} {r : Loop} {A C : World} {row : Option Nat} (h : Kept l r D A) (g : A.grownBy C row) (hr : ∀ j, row = some j → ∃ o : Obj, A.heap[j]? = some o ∧ o.isCells = true) : Kept l r D C := by
  have far : ∀ {j : Nat} {o : Obj}, A.heap[j]? = some o → o.isCells = false → C.heap[j]? = some o := fun {j o} hj ho => by
    refine (g.block j (Array.getElem?_eq_some_iff.1 hj).1 (fun e => ?_)).trans hj
    obtain ⟨o', h1, h2⟩ := hr j e.symm
    rw [hj] at h1
    cases h1
    rw [ho] at h2
    cases h2
  exact ⟨far h.1 rfl, far h.2 rfl⟩
/-- How a round's body ends: it goes on, or it returns. -/
def GoesOn {α : Type} (B : Nat) (Kp : World → World → Prop) (I Ix : List α → World → Prop) (xs : List α) (W : World) : Exit → Act → World → Prop
  | .normal, _, W' => KeepsFrom B W W' ∧ Kp W W' ∧ I xs W'
  | .ret, _, W' => KeepsFrom B W W' ∧ Kp W W' ∧ Ix xs W'
  | _, _, _ => False
theorem range_law {P : Program} {n : Nat} {g : Operand} {ps : Array Tmp} {assign body : Code} {Q : Exit → Act → World → Prop} {a : Act} {w : World} {gf : Nat} {lb : Array Value}
    (hg : a.eval g = .func (.func gf) #[] lb) (eg : ∀ args W, (callFunc gf args).run P W = .ok (.enter gf args) W) {α : Type} (encs : α → Array Value) (hps : ∀ x, (encs x).size = ps.size)
    (Kp : World → World → Prop) (hKt : ∀ {A B C : World}, Kp A B → Kp B C → Kp A C) (hKb : ∀ W o', Kp W (W.putObj (w.heap.size + 1) o'))
    (I Ix : List α → World → Prop) (Pv : List α → α → World → Prop) (Ax : List α → α → Act → World → Prop) (S Sp : List α → Prop)
    (hI : ∀ xs W o', I xs W → I xs (W.putObj (w.heap.size + 1) o')) (hIx : ∀ xs W o', Ix xs W → Ix xs (W.putObj (w.heap.size + 1) o')) (hAx : ∀ pre x a' W o', Ax pre x a' W → Ax pre x a' (W.putObj (w.heap.size + 1) o'))
    (h0 : ∀ W, w.grownBy W none → W.heap.size = w.heap.size + 2 → I [] W)
    (hseq : ∀ W1, w.grownBy W1 none → W1.heap.size = w.heap.size + 2 → ∀ B Bx : World → Prop, (∀ A C row, B A → A.grownBy C row → (∀ j, row = some j → ∃ o : Obj, A.heap[j]? = some o ∧ o.isCells = true) → B C) → (∀ A C row, Bx A → A.grownBy C row → (∀ j, row = some j → ∃ o : Obj, A.heap[j]? = some o ∧ o.isCells = true) → Bx C) → B W1 → I [] W1 →
      (∀ pre x W, I pre W → Pv pre x W → B W → YieldAt Fence.wide (n - 1 - 1) P (w.heap.size + 1) (encs x) W fun e W' => (e = .returned (.bool true) ∧ I (pre ++ [x]) W' ∧ Kp W W' ∧ B W') ∨ (e = .returned (.bool false) ∧ Ix (pre ++ [x]) W' ∧ Kp W W' ∧ Bx W')) →
      CallsIn Fence.wide (n - 1) P gf (#[.func (.yield (w.heap.size + 1)) #[] #[]] ++ lb) W1 fun e W' => (∃ v, e = .returned v) ∧ ((∃ xs, S xs ∧ I xs W' ∧ B W') ∨ (∃ xs, Sp xs ∧ Ix xs W' ∧ Bx W')))
    (hassign : ∀ (l : Nat) (pre : List α) (x : α) (W : World) (K : Act → World → Prop), I pre W → Pv pre x W → (∀ a' W', KeepsFrom w.heap.size W W' → Kp W W' → I pre W' → Ax pre x a' W' → K a' W') →
      assign.wpIn (Fence.wide.inRound l) (n - 1 - 1) P (Exit.then K (fun _ _ _ => False)) { tmps := (ps.zip (encs x)).foldl (fun t (p, v) => t.setIfInBounds p v) a.tmps, defers := [] } W)
    (hbody : ∀ (l : Nat) (pre : List α) (x : α) (a' : Act) (W : World), I pre W → Ax pre x a' W → body.wpIn (Fence.wide.inRound l) (n - 1 - 1) P (GoesOn w.heap.size Kp I Ix (pre ++ [x]) W) a' W)
    (hdone : ∀ (D : Nat) (xs : List α) (W : World), w.heap.size ≤ D → S xs → I xs W → W.heap[D]? = some (.deferred (some [])) → Q .normal { a with defers := { target := .collected D, args := #[] } :: a.defers } W)
    (hstop : ∀ (D : Nat) (xs : List α) (W : World), w.heap.size ≤ D → Sp xs → Ix xs W → W.heap[D]? = some (.deferred (some [])) → Code.ret.wpIn Fence.wide n P Q { a with defers := { target := .collected D, args := #[] } :: a.defers } W) :
    (Code.rangeFunc g ps assign body).wpIn Fence.wide n P Q a w := by
  refine wpIn_rangeFunc fun fn hfn => ?_
  generalize hl : w.heap.size + 1 = l at *
  have hrd : Fence.wide.round = none := rfl
  rw [hrd]
  obtain ⟨mk, hmk⟩ : ∃ mk : LoopState → Option Code → Loop, mk = fun st pe => { state := st, pending := pe, fn, tmps := a.tmps, params := ps, assign, body, defers := w.heap.size } := ⟨_, rfl⟩
  have hparams : ∀ st pe, (mk st pe).params = ps := fun st pe => by rw [hmk]
  have hstate : ∀ st pe, (mk st pe).state = st := fun st pe => by rw [hmk]
  have hturn : ∀ st pe st' pe', { mk st pe with state := st', pending := pe' } = mk st' pe' := fun st pe st' pe' => by rw [hmk]
  have hbusy : ∀ st pe st', { mk st pe with state := st' } = mk st' pe := fun st pe st' => by rw [hmk]
  obtain ⟨W1, hW1⟩ : ∃ W1, (w.alloc (.deferred (some []))).alloc (.loop (mk .ready none)) = W1 := ⟨_, rfl⟩
  have hg1 : w.grownBy W1 none := by rw [← hW1]; exact grown_trans (World.grownBy_alloc _ _ none) (World.grownBy_alloc _ _ none)
  have hs1 : W1.heap.size = w.heap.size + 2 := by rw [← hW1]; show ((w.heap.push _).push _).size = _; simp
  have hK1 : Kept l (mk .ready none) w.heap.size W1 := by
    rw [← hW1]
    exact ⟨heap_new _ (by rw [← hl]; show _ = (w.heap.push _).size; simp), heap_old _ (heap_new _ rfl)⟩
  refine ⟨l, [{ target := .collected w.heap.size, args := #[] }], W1, { target := .fn (.func gf) lb, args := #[.func (.yield l) #[] #[]] }, W1, gf, #[.func (.yield l) #[] #[]] ++ lb, W1, ?_, ?_, fun _ _ => trivial, ?_, fun h => by simp [Fence.wide] at h, ?_⟩
  · rw [← hW1, hmk, ← hl]
    exact run_enterLoop_outer _ _ _ _ _
  · simp only [resolve, hg]
    simp [go_sem]
  · simp [invoke, go_sem, eg]
  refine (hseq W1 hg1 hs1 (Kept l (mk .ready none) w.heap.size) (Kept l (mk .done (some .ret)) w.heap.size) (fun A C row h g hr => h.step g hr) (fun A C row h g hr => h.step g hr) hK1 (h0 W1 hg1 hs1) ?_).mono ?_
  · -- one round
    intro pre x W hi hpv hk
    have hy := run_yield (P := P) (args := encs x) hk.1 (by rw [hparams]; exact hps x)
    have e1 : (mk .ready none).fn = fn ∧ (mk .ready none).tmps = a.tmps ∧ (mk .ready none).assign = assign ∧ (mk .ready none).body = body := by rw [hmk]; exact ⟨rfl, rfl, rfl, rfl⟩
    rw [hparams, e1.1, e1.2.1, e1.2.2.1, e1.2.2.2] at hy
    refine ⟨fn, _, assign, body, hy, roundIn_of_wpIn hfn (hassign l pre x W _ hi hpv fun a' Wa hka hpa hia hax => ?_)⟩
    have hka1 : Kept l (mk .ready none) w.heap.size Wa := ⟨hka.same _ _ (by omega) hk.1 rfl, hka.same _ _ (Nat.le_refl _) hk.2 rfl⟩
    have hlt : l < Wa.heap.size := (Array.getElem?_eq_some_iff.1 hka1.1).1
    refine ⟨_, run_beginRound hka1.1 (hstate _ _), ?_⟩
    rw [hbusy]
    have hb1 : Kept l (mk .busy none) w.heap.size (Wa.putObj l (.loop (mk .busy none))) := ⟨World.putObj_heap_same hlt, (World.putObj_heap_other (by omega)).trans hka1.2⟩
    refine wpIn_mono (hbody l pre x a' _ (hI _ _ _ hia) (hAx _ _ _ _ _ hax)) fun e a3 W3 hp => ?_
    cases e with
    | normal =>
      obtain ⟨hk3, hp3, hi3⟩ := hp
      have h3 : Kept l (mk .busy none) w.heap.size W3 := ⟨hk3.same _ _ (by omega) hb1.1 rfl, hk3.same _ _ (Nat.le_refl _) hb1.2 rfl⟩
      have hlt3 : l < W3.heap.size := (Array.getElem?_eq_some_iff.1 h3.1).1
      have hend := run_endRound (P := P) (none : Option Code) h3.1
      have e3 : ({ mk .busy none with state := if (none : Option Code).isNone then .ready else .done, pending := none } : Loop) = mk .ready none := hturn _ _ _ _
      rw [e3] at hend
      exact ⟨_, _, hend, .inl ⟨rfl, hI _ _ _ hi3, hKt hpa (hKt (hKb _ _) (hKt hp3 (hKb _ _))), World.putObj_heap_same hlt3, (World.putObj_heap_other (by omega)).trans h3.2⟩⟩
    | ret =>
      obtain ⟨hk3, hp3, hi3⟩ := hp
      have h3 : Kept l (mk .busy none) w.heap.size W3 := ⟨hk3.same _ _ (by omega) hb1.1 rfl, hk3.same _ _ (Nat.le_refl _) hb1.2 rfl⟩
      have hlt3 : l < W3.heap.size := (Array.getElem?_eq_some_iff.1 h3.1).1
      have hend := run_endRound (P := P) (some Code.ret) h3.1
      have e3 : ({ mk .busy none with state := if (some Code.ret).isNone then .ready else .done, pending := some Code.ret } : Loop) = mk .done (some .ret) := hturn _ _ _ _
      rw [e3] at hend
      exact ⟨_, _, hend, .inr ⟨rfl, hIx _ _ _ hi3, hKt hpa (hKt (hKb _ _) (hKt hp3 (hKb _ _))), World.putObj_heap_same hlt3, (World.putObj_heap_other (by omega)).trans h3.2⟩⟩
    | exit id => exact hp.elim
    | goto t => exact hp.elim
    | panic ch => exact hp.elim
    | outgrown => exact hp.elim
  · -- behind the iterator
    rintro e W2 ⟨⟨v, rfl⟩, ⟨xs, hS, hi, hk⟩ | ⟨xs, hS, hi, hk⟩⟩
    · have hend := run_endLoop (P := P) hk.1 (by rw [hstate]; simp)
      have e2 : (mk .ready none).pending = none := by rw [hmk]
      rw [e2] at hend
      exact ⟨none, _, hend, hdone _ xs _ (Nat.le_refl _) hS (hI _ _ _ hi) ((World.putObj_heap_other (by omega)).trans hk.2)⟩
    · have hend := run_endLoop (P := P) hk.1 (by rw [hstate]; simp)
      have e2 : (mk .done (some .ret)).pending = some .ret := by rw [hmk]
      rw [e2] at hend
      exact ⟨some .ret, _, hend, hstop _ xs _ (Nat.le_refl _) hS (hIx _ _ _ hi) ((World.putObj_heap_other (by omega)).trans hk.2)⟩
end Go.Proofs.YthlollnpnangpaaDoor
