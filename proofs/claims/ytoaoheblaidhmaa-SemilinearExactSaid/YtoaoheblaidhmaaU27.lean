/- Texts Lr, Vx, Vy, Vz, SLw in one. -/
import Derived.Test.YtoaoheblaidhmaaU26
import Derived.ArgAppend
import Derived.Deep.MidRow
namespace Go.Proofs.Ytoaoheblaidhmaa
open Go.RowKit
set_option linter.unusedVariables false

/-- How many are not listed yet. -/
def leftOf : List Bool → Nat
  | [] => 0
  | b :: l => (if b then 0 else 1) + leftOf l
theorem leftOf_set : ∀ (l : List Bool) (i : Nat), l[i]? = some false → leftOf (l.set i true) + 1 = leftOf l
  | [], i, h => by simp at h
  | b :: l, 0, h => by
    simp only [List.getElem?_cons_zero, Option.some.injEq] at h
    subst h
    simp [leftOf]
    omega
  | b :: l, i + 1, h => by
    have := leftOf_set l i (by simpa using h)
    simp only [List.set_cons_succ, leftOf]
    omega
theorem leftOf_replicate : ∀ n, leftOf (List.replicate n false) = n
  | 0 => rfl
  | n + 1 => by simp [List.replicate_succ, leftOf, leftOf_replicate n]; omega
theorem leftOf_zero : ∀ (l : List Bool), leftOf l = 0 → ∀ i : Nat, l[i]? ≠ some false
  | [], _, i => by simp
  | b :: l, h, i => by
    simp only [leftOf] at h
    cases b with
    | false => simp at h
    | true =>
      cases i with
      | zero => simp
      | succ i => simpa using leftOf_zero l (by simpa using h) i

theorem ready_mem {ops : Array Oper} {listed : Array Bool} {i : Nat} (hs : listed.size = ops.size) (h : i ∈ Region.ready .any ops listed) :
    listed[i]? = some false ∧ ∃ o, ops[i]? = some o ∧ ∀ e ∈ o.after, Region.binds .any e = true → listed.getD e.on false = true := by
  unfold Region.ready at h
  rw [List.mem_filter] at h
  obtain ⟨h1, h2⟩ := h
  have hi : i < ops.size := List.mem_range.1 h1
  rw [Bool.and_eq_true] at h2
  obtain ⟨h2, h3⟩ := h2
  have hi' : i < listed.size := by omega
  refine ⟨?_, ops[i], Array.getElem?_eq_getElem hi, fun e he hb => ?_⟩
  · rw [Array.getElem?_eq_getElem hi']
    simp only [Array.getD, hi', dif_pos, Bool.not_eq_true'] at h2
    rw [← h2]
    rfl
  · rw [Array.getElem?_eq_getElem hi] at h3
    simp only [Option.map_some, Option.getD_some] at h3
    have := Array.all_eq_true'.1 h3 e he
    rw [hb] at this
    simpa using this

theorem ready_of {ops : Array Oper} {listed : Array Bool} {i : Nat} {o : Oper} (hs : listed.size = ops.size) (h : listed[i]? = some false) (ho : ops[i]? = some o)
    (hd : ∀ e ∈ o.after, Region.binds .any e = true → listed.getD e.on false = true) : i ∈ Region.ready .any ops listed := by
  have hi : i < ops.size := (Array.getElem?_eq_some_iff.1 ho).1
  have hi' : i < listed.size := by omega
  unfold Region.ready
  rw [List.mem_filter]
  refine ⟨List.mem_range.2 hi, ?_⟩
  rw [Bool.and_eq_true]
  constructor
  · rw [Array.getElem?_eq_getElem hi'] at h
    simp only [Array.getD, hi', dif_pos, Bool.not_eq_true']
    simpa using h
  · rw [ho]
    simp only [Option.map_some, Option.getD_some]
    refine Array.all_eq_true'.2 fun e he => ?_
    cases hb : Region.binds .any e with
    | false => rfl
    | true => rw [hd e he hb]; rfl

section
variable {P : Program} {Q : Exit → Act → World → Prop}
theorem wpAny_inv {ops : Array Oper} (I : Array Bool → Act → World → Prop)
    (hstep : ∀ listed a w, listed.size = ops.size → I listed a w → ∀ i ∈ Region.ready .any ops listed, wpOp P ops Q i (fun a' w' => I (listed.setIfInBounds i true) a' w') a w)
    (hend : ∀ listed a w, listed.size = ops.size → I listed a w → Region.ready .any ops listed = [] → Q .normal a w) :
    ∀ (fuel : Nat) (listed : Array Bool) (a : Act) (w : World), listed.size = ops.size → leftOf listed.toList ≤ fuel → I listed a w → wpAny P .any ops Q fuel listed a w
  | 0, listed, a, w, hs, hl, hI => by
    have hr : Region.ready .any ops listed = [] := by
      refine List.eq_nil_iff_forall_not_mem.2 fun i hi => ?_
      exact leftOf_zero listed.toList (by omega) i (by simpa using (ready_mem hs hi).1)
    exact ⟨hr, hend _ _ _ hs hI hr⟩
  | fuel + 1, listed, a, w, hs, hl, hI => by
    refine ⟨fun hr => hend _ _ _ hs hI hr, fun i hi => wpOp_mono (fun a' w' h' => wpAny_inv I hstep hend fuel _ a' w' (by simpa using hs) ?_ h') (hstep listed a w hs hI i hi)⟩
    have := leftOf_set listed.toList i (by simpa using (ready_mem hs hi).1)
    simp only [Array.toList_setIfInBounds]
    omega

def dstOf (ops : List Oper) (i : Nat) : Option Nat := ops[i]?.bind (·.dst)
/-- The operations that an operation waits for. -/
def depsOf (o : Oper) : List Nat := (o.after.toList.filter (Region.binds .any)).map (·.on)
/-- a has the slots of b but for those of D. -/
def Agree (D : List Nat) (b a : Act) : Prop := a.defers = b.defers ∧ a.tmps.size = b.tmps.size ∧ ∀ s, s ∉ D → a.tmps[s]? = b.tmps[s]?
theorem Agree.put {D : List Nat} {b a : Act} {d : Option Nat} (h : Agree D b a) (hd : ∀ x, d = some x → x ∈ D) (v : Value) : Agree D b (a.put d v) := by
  obtain ⟨h1, h2, h3⟩ := h
  cases d with
  | none => exact ⟨h1, h2, h3⟩
  | some x =>
    refine ⟨h1, by simpa [Act.put] using h2, fun s hs => ?_⟩
    have hne : x ≠ s := fun e => hs (e ▸ hd x rfl)
    simp only [Act.put]
    rw [Array.getElem?_setIfInBounds_ne hne]
    exact h3 s hs
theorem Agree.eval {D : List Nat} {b a : Act} (h : Agree D b a) {s : Nat} (hs : s ∉ D) : a.eval (.tmp s) = b.eval (.tmp s) := by
  simp only [Act.eval, Array.getD_eq_getD_getElem?]
  rw [h.2.2 s hs]

/-- What is told of operation i in the order of no matter whom. -/
def ToldAt (P : Program) (Q : Exit → Act → World → Prop) (ops : List Oper) (D : List Nat) (a0 : Act) (w0 : World) (V : Nat → Value → World → Prop) (i : Nat) (o : Oper) : Prop :=
  ∀ a w, Agree D a0 a → w0.grownBy w none → (∀ j ∈ depsOf o, ∀ d, dstOf ops j = some d → V j (a.eval (.tmp d)) w) →
    (Region.wanted o (yielded ops.toArray a.tmps) = true ∧ Oper.wp P o a w (fun a' w' => ∃ v, a' = a.put o.dst v ∧ V i v w' ∧ w.grownBy w' none) Q) ∨ (Region.wanted o (yielded ops.toArray a.tmps) = false ∧ V i undef w)
def ToldAll (P : Program) (Q : Exit → Act → World → Prop) (ops : List Oper) (D : List Nat) (a0 : Act) (w0 : World) (V : Nat → Value → World → Prop) : List Oper → Nat → Prop
  | [], _ => True
  | o :: os, i => ToldAt P Q ops D a0 w0 V i o ∧ ToldAll P Q ops D a0 w0 V os (i + 1)
theorem ToldAll.get {ops : List Oper} {D : List Nat} {a0 : Act} {w0 : World} {V : Nat → Value → World → Prop} : ∀ {os : List Oper} {i : Nat}, ToldAll P Q ops D a0 w0 V os i → ∀ j o, os[j]? = some o → ToldAt P Q ops D a0 w0 V (i + j) o
  | [], _, _, _, _, h => by simp at h
  | o :: os, i, h, 0, o', e => by
    simp only [List.getElem?_cons_zero, Option.some.injEq] at e
    subst e
    exact h.1
  | o :: os, i, h, j + 1, o', e => by
    have := ToldAll.get h.2 j o' (by simpa using e)
    rwa [Nat.add_assoc, Nat.add_comm 1 j] at this

/-- The frame with the values of the operations laid into their slots. -/
def putAll (vs : Nat → Value) : List Oper → Nat → Act → Act
  | [], _, a => a
  | o :: os, k, a => putAll vs os (k + 1) (a.put o.dst (vs k))
theorem putAll_defers (vs : Nat → Value) : ∀ (os : List Oper) (k : Nat) (a : Act), (putAll vs os k a).defers = a.defers
  | [], _, _ => rfl
  | o :: os, k, a => by
    rw [putAll, putAll_defers vs os]
    cases o.dst <;> rfl
theorem putAll_size (vs : Nat → Value) : ∀ (os : List Oper) (k : Nat) (a : Act), (putAll vs os k a).tmps.size = a.tmps.size
  | [], _, _ => rfl
  | o :: os, k, a => by
    rw [putAll, putAll_size vs os]
    cases o.dst <;> simp [Act.put]
theorem putAll_other (vs : Nat → Value) {s : Nat} : ∀ (os : List Oper) (k : Nat) (a : Act), s ∉ os.filterMap (·.dst) → (putAll vs os k a).tmps[s]? = a.tmps[s]?
  | [], _, _, _ => rfl
  | o :: os, k, a, h => by
    rw [putAll]
    cases hd : o.dst with
    | none =>
      rw [List.filterMap_cons_none hd] at h
      exact putAll_other vs os _ _ h
    | some d =>
      rw [List.filterMap_cons_some hd, List.mem_cons, not_or] at h
      rw [putAll_other vs os _ _ h.2]
      simp only [Act.put]
      rw [Array.getElem?_setIfInBounds_ne (Ne.symm h.1)]
theorem putAll_own (vs : Nat → Value) {s j : Nat} : ∀ (os : List Oper) (k : Nat) (a : Act), (os.filterMap (·.dst)).Nodup → dstOf os j = some s → s < a.tmps.size → (putAll vs os k a).tmps[s]? = some (vs (k + j))
  | [], _, _, _, h, _ => by simp [dstOf] at h
  | o :: os, k, a, hn, h, hs => by
    rw [putAll]
    cases j with
    | zero =>
      have hd : o.dst = some s := by simpa [dstOf] using h
      rw [hd, putAll_other vs os _ _ (by rw [List.filterMap_cons_some hd] at hn; exact (List.nodup_cons.1 hn).1)]
      simp [Act.put, hs]
    | succ j =>
      have hd : dstOf os j = some s := by simpa [dstOf] using h
      have hn' : (os.filterMap (·.dst)).Nodup := by
        cases hd' : o.dst with
        | none => rwa [List.filterMap_cons_none hd'] at hn
        | some d => rw [List.filterMap_cons_some hd'] at hn; exact (List.nodup_cons.1 hn).2
      rw [putAll_own vs os (k + 1) _ hn' hd (by cases o.dst <;> simpa [Act.put] using hs)]
      rw [Nat.add_assoc, Nat.add_comm 1 j]
theorem dstOf_mem {ops : List Oper} {i d : Nat} (h : dstOf ops i = some d) : d ∈ ops.filterMap (·.dst) := by
  unfold dstOf at h
  cases ho : ops[i]? with
  | none => rw [ho] at h; cases h
  | some o => rw [ho] at h; exact List.mem_filterMap.2 ⟨o, List.mem_of_getElem? ho, h⟩
theorem dstOf_inj : ∀ {ops : List Oper} {i j d : Nat}, (ops.filterMap (·.dst)).Nodup → dstOf ops i = some d → dstOf ops j = some d → i = j
  | [], _, _, _, _, h, _ => by simp [dstOf] at h
  | o :: os, i, j, d, hn, hi, hj => by
    have hn' : (os.filterMap (·.dst)).Nodup := by
      cases hd' : o.dst with
      | none => rwa [List.filterMap_cons_none hd'] at hn
      | some d => rw [List.filterMap_cons_some hd'] at hn; exact (List.nodup_cons.1 hn).2
    cases i with
    | zero =>
      cases j with
      | zero => rfl
      | succ j =>
        have h0 : o.dst = some d := by simpa [dstOf] using hi
        have h1 : dstOf os j = some d := by simpa [dstOf] using hj
        rw [List.filterMap_cons_some h0] at hn
        exact absurd (dstOf_mem h1) (List.nodup_cons.1 hn).1
    | succ i =>
      cases j with
      | zero =>
        have h0 : o.dst = some d := by simpa [dstOf] using hj
        have h1 : dstOf os i = some d := by simpa [dstOf] using hi
        rw [List.filterMap_cons_some h0] at hn
        exact absurd (dstOf_mem h1) (List.nodup_cons.1 hn).1
      | succ j => exact congrArg (· + 1) (dstOf_inj (d := d) hn' (by simpa [dstOf] using hi) (by simpa [dstOf] using hj))

/-- A region that asks the tape: each operation told by itself. -/
theorem wp_region_told {id : Nat} {ops : List Oper} {a0 : Act} {w0 : World} (V : Nat → Value → World → Prop) (hm : P.follows .mixedOrders = true)
    (hn : (ops.filterMap (·.dst)).Nodup) (hsz : ∀ d ∈ ops.filterMap (·.dst), d < a0.tmps.size)
    (hlex : ∀ (i : Nat) (o : Oper), ops[i]? = some o → ∀ e ∈ o.after, Region.binds .any e = true → e.on < i)
    (hV : ∀ i v w w', w.grownBy w' none → V i v w → V i v w')
    (hstep : ToldAll P Q ops (ops.filterMap (·.dst)) a0 w0 V ops 0)
    (hend : ∀ (vs : Nat → Value) w, w0.grownBy w none → (∀ i d, dstOf ops i = some d → V i (vs i) w) → Q .normal (putAll vs ops 0 a0) w) :
    (Code.region id ops.toArray true).wp P Q a0 w0 := by
  refine wp_region_any hm ?_
  let D := ops.filterMap (·.dst)
  refine wpAny_inv (ops := ops.toArray) (fun listed a w => w0.grownBy w none ∧ Agree D a0 a ∧ ∀ i d, dstOf ops i = some d → listed.getD i false = true → V i (a.eval (.tmp d)) w) ?_ ?_ _ _ _ _ (by simp) (by simp [leftOf_replicate]) ⟨grown_drew w0 none, ⟨rfl, rfl, fun _ _ => rfl⟩, fun i d _ h => ?_⟩
  · rintro listed a w hs ⟨hg, ha, hv⟩ i hi
    obtain ⟨h0, o, ho, hdep⟩ := ready_mem hs hi
    have ho' : ops[i]? = some o := by simpa using ho
    have hil : i < listed.size := (Array.getElem?_eq_some_iff.1 h0).1
    have ht := ToldAll.get hstep i o ho'
    rw [Nat.zero_add] at ht
    have hput : ∀ v w', V i v w' → w.grownBy w' none → (w0.grownBy w' none ∧ Agree D a0 (a.put o.dst v) ∧ ∀ j d, dstOf ops j = some d → (listed.setIfInBounds i true).getD j false = true → V j ((a.put o.dst v).eval (.tmp d)) w') := fun v w' hvi hg' => by
      have hdm : ∀ x, o.dst = some x → dstOf ops i = some x := fun x hx => by simp [dstOf, ho', hx]
      refine ⟨grown_trans hg hg', ha.put (fun x hx => dstOf_mem (hdm x hx)) v, fun j d hj hl => ?_⟩
      by_cases e : j = i
      · subst e
        have hod : o.dst = some d := by simpa [dstOf, ho'] using hj
        have hd : d < a.tmps.size := by rw [ha.2.1]; exact hsz d (dstOf_mem hj)
        rw [hod]
        simp only [Act.eval, Act.put, Array.getD_eq_getD_getElem?, Array.getElem?_setIfInBounds_self, hd, if_true, Option.getD_some]
        exact hvi
      · have hl' : listed.getD j false = true := by
          rw [Array.getD_eq_getD_getElem?, Array.getElem?_setIfInBounds_ne (fun h => e h.symm), ← Array.getD_eq_getD_getElem?] at hl
          exact hl
        have hne : ∀ x, o.dst = some x → x ≠ d := fun x hx hxd => e (dstOf_inj hn hj (hxd ▸ hdm x hx))
        have : (a.put o.dst v).eval (.tmp d) = a.eval (.tmp d) := by
          cases hx : o.dst with
          | none => rfl
          | some x =>
            simp only [Act.eval, Act.put, Array.getD_eq_getD_getElem?]
            rw [Array.getElem?_setIfInBounds_ne (hne x hx)]
        rw [this]
        exact hV _ _ _ _ hg' (hv j d hj hl')
    rcases ht a w ha hg (fun j hj d hd => by
      obtain ⟨e, he, rfl⟩ := List.mem_map.1 hj
      obtain ⟨he1, he2⟩ := List.mem_filter.1 he
      exact hv _ d hd (hdep e (Array.mem_toList_iff.1 he1) he2)) with ⟨hw, hwp⟩ | ⟨hw, hvi⟩
    · unfold wpOp
      rw [ho]
      simp only [hw, if_true]
      exact .inl (Oper.wp_mono (fun a' w' ⟨v, he, hvi, hg'⟩ => by subst he; exact hput v w' hvi hg') hwp)
    · unfold wpOp
      rw [ho]
      simp only [hw, Bool.false_eq_true, if_false]
      exact hput _ _ hvi (grown_refl _ _)
  · rintro listed a w hs ⟨hg, ha, hv⟩ hr
    have hall : ∀ n i, i < n → i < ops.length → listed.getD i false = true := by
      intro n
      induction n with
      | zero => intro i h; omega
      | succ n ih =>
        intro i hin hio
        cases hL : listed.getD i false with
        | true => rfl
        | false =>
          exfalso
          have hil : i < listed.size := by simpa [hs] using hio
          have h0 : listed[i]? = some false := by
            rw [Array.getElem?_eq_getElem hil]
            rw [Array.getD_eq_getD_getElem?, Array.getElem?_eq_getElem hil] at hL
            simpa using hL
          have ho : ops[i]? = some ops[i] := List.getElem?_eq_getElem hio
          have := ready_of (ops := ops.toArray) (o := ops[i]) hs h0 (by simp) (fun e he hb => by
            have := hlex i _ ho e he hb
            exact ih e.on (by omega) (by omega))
          rw [hr] at this
          cases this
    have hvs : ∀ i d, dstOf ops i = some d → V i (a.eval (.tmp d)) w := fun i d hd => by
      have hil : i < ops.length := by
        rcases Nat.lt_or_ge i ops.length with h | h
        · exact h
        · simp [dstOf, List.getElem?_eq_none h] at hd
      exact hv i d hd (hall _ i (Nat.lt_succ_self i) hil)
    have key := hend (fun i => match dstOf ops i with | some d => a.eval (.tmp d) | none => undef) w hg (fun i d hd => by simp only [hd]; exact hvs i d hd)
    have hact : putAll (fun i => match dstOf ops i with | some d => a.eval (.tmp d) | none => undef) ops 0 a0 = a := by
      have hdf := (putAll_defers (fun i => match dstOf ops i with | some d => a.eval (.tmp d) | none => undef) ops 0 a0).trans ha.1.symm
      have htm : (putAll (fun i => match dstOf ops i with | some d => a.eval (.tmp d) | none => undef) ops 0 a0).tmps = a.tmps := by
        apply Array.ext_getElem?
        intro s
        by_cases hsD : s ∈ ops.filterMap (·.dst)
        · obtain ⟨o, ho, hd⟩ := List.mem_filterMap.1 hsD
          obtain ⟨j, hj, rfl⟩ := List.getElem_of_mem ho
          have hdj : dstOf ops j = some s := by simp [dstOf, hj, hd]
          rw [putAll_own _ ops 0 a0 hn hdj (hsz s hsD), Nat.zero_add]
          simp only [hdj]
          have hlt : s < a.tmps.size := by rw [ha.2.1]; exact hsz s hsD
          simp [Act.eval, Array.getD_eq_getD_getElem?, hlt]
        · rw [putAll_other _ ops 0 a0 hsD]
          exact (ha.2.2 s hsD).symm
      cases hp : putAll (fun i => match dstOf ops i with | some d => a.eval (.tmp d) | none => undef) ops 0 a0
      rw [hp] at hdf htm
      dsimp only at hdf htm
      subst hdf htm
      rfl
    rw [hact] at key
    exact key
  · rw [Array.getD_eq_getD_getElem?] at h
    simp only [Array.getElem?_replicate] at h
    split at h <;> simp at h
def lexOk : List Oper → Nat → Bool
  | [], _ => true
  | o :: os, i => o.after.all (fun e => !Region.binds .any e || decide (e.on < i)) && lexOk os (i + 1)
theorem lexOk_get : ∀ {os : List Oper} {i : Nat}, lexOk os i = true → ∀ (j : Nat) (o : Oper), os[j]? = some o → ∀ e ∈ o.after, Region.binds .any e = true → e.on < i + j
  | [], _, _, _, _, h, _, _, _ => by simp at h
  | o :: os, i, h, 0, o', h', e, he, hb => by
    simp only [List.getElem?_cons_zero, Option.some.injEq] at h'
    subst h'
    simp only [lexOk, Bool.and_eq_true] at h
    have := Array.all_eq_true'.1 h.1 e he
    rw [hb] at this
    simpa using this
  | o :: os, i, h, j + 1, o', h', e, he, hb => by
    simp only [lexOk, Bool.and_eq_true] at h
    have := lexOk_get h.2 j o' (by simpa using h') e he hb
    omega
def toldB (ops : List Oper) (n : Nat) : Bool := decide (ops.filterMap (·.dst)).Nodup && ((ops.filterMap (·.dst)).all (fun d => decide (d < n)) && lexOk ops 0)
theorem wp_told {id : Nat} {ops : List Oper} {a0 : Act} {w0 : World} (V : Nat → Value → World → Prop) (hm : P.follows .mixedOrders = true) (hB : toldB ops a0.tmps.size = true)
    (hV : ∀ i v w w', w.grownBy w' none → V i v w → V i v w')
    (hstep : ToldAll P Q ops (ops.filterMap (·.dst)) a0 w0 V ops 0)
    (hend : ∀ (vs : Nat → Value) w, w0.grownBy w none → (∀ i d, dstOf ops i = some d → V i (vs i) w) → Q .normal (putAll vs ops 0 a0) w) :
    (Code.region id ops.toArray true).wp P Q a0 w0 := by
  simp only [toldB, Bool.and_eq_true, decide_eq_true_eq] at hB
  refine wp_region_told V hm hB.1 (fun d hd => by simpa using List.all_eq_true.1 hB.2.1 d hd) (fun i o ho e he hb => ?_) hV hstep hend
  have := lexOk_get hB.2.2 i o ho e he hb
  omega
end
end Go.Proofs.Ytoaoheblaidhmaa

namespace Go.Proofs.Ytoaoheblaidhmaa
open Go.RowKit
set_option linter.unusedVariables false

theorem run_append_zero2 {P : Program} {w : World} (t ty e : TypeId) (i : TypeInfo) (ht : P.underlying t = some (.slice e)) (hi : P.info? e = some i) (g : Addr) (ad : Option Addr) (c : Nat) :
    (Builtin.append_ #[t, t] ty #[.slice (some g) 1 1, .slice ad 0 c]).run P w = .ok (.slice (some g) 1 1) w := by
  cases ad <;> simp [Builtin.append_, run_underlying ht, sizeOf, typeInfo, hi, Builtin.lenOf, Builtin.firstCells, storeCells, loadCells, loadCellsFrom, Result.andThen]

theorem wp_app_sets2 {o : Oper} {a : Act} {w : World} {K : Act → World → Prop} {Q : Exit → Act → World → Prop} (s x : Operand)
    (ho : o.op = .call { callee := .builtin .append, args := #[s, x], argTypes := #[23, 23] }) (G : Nat) (x0 y0 : Value) (hs : a.eval s = .slice (some ⟨G, 0, none⟩) 1 1)
    (hc0 : w.cell? ⟨G, 0, none⟩ = some x0) (hc1 : w.cell? ⟨G, 1, none⟩ = some y0) (b0 : List Int) (q0 : List Row) (h0 : LinX w (.agg #[x0, y0]) b0 q0) (hq0 : q0.length ≤ 20)
    (v2 : Value) (us : List SetR) (hx : a.eval x = v2) (h2 : SetsI w v2 us) (h20 : us.length ≤ 12) (hq : ∀ u ∈ us, u.2.2.length ≤ 20)
    (h : ∀ a' c' w', SetsX w' (.slice a' (us.length + 1) c') (((x0, y0), (b0, q0)) :: us) → w.grownBy w' none → K (a.put o.dst (.slice a' (us.length + 1) c')) w') : Oper.wp Try.prog o a w K Q := by
  obtain ⟨i, hi, hz0, hz1, hz2⟩ := info_parts info_lin
  have hall : ∀ w', w.grownBy w' none → ∀ u ∈ (((x0, y0), (b0, q0)) :: us : List SetR), LinX w' (.agg #[u.1.1, u.1.2]) u.2.1 u.2.2 ∧ u.2.2.length ≤ 20 := fun w' g u hu => by
    rcases List.mem_cons.1 hu with rfl | hu
    · exact ⟨h0.same g, hq0⟩
    · obtain ⟨-, -, -, -, -, hl⟩ := h2
      exact ⟨(hl u hu).same g, hq u hu⟩
  have h1x := linX_one h0
  obtain ⟨au, cu, hv2, hm2, hc2, hl2⟩ := h2
  rcases Nat.eq_zero_or_pos us.length with hu0 | hup
  · have e0 : us = [] := List.eq_nil_of_length_eq_zero hu0
    subst e0
    have hr := run_append_zero2 (P := Try.prog) (w := w) 23 o.type 26 i Try.underlying23 hi ⟨G, 0, none⟩ au cu
    have hx' := hx.trans hv2
    unfold Oper.wp execOp
    simp only [ho, resolve, invoke, builtin, Sem.run_bind, Sem.run_pure, Result.andThen_ok, List.map_toArray, List.map_cons, List.map_nil, hs, hx', List.length_nil, hr]
    refine h _ 1 w ⟨_, 1, rfl, by simp, .inr ⟨G, 0, rfl, fun j hj => ?_⟩, hall w (grown_refl _ _)⟩ (grown_refl _ _)
    obtain rfl : j = 0 := by simpa using hj
    exact ⟨by rw [show 0 + 0 * 2 = 0 from rfl, hc0]; rfl, by rw [show 0 + 0 * 2 + 1 = 1 from rfl, hc1]; rfl⟩
  rcases hc2 with rfl | ⟨b, off, rfl, hc2⟩
  · simp at hup
  have hx' := hx.trans hv2
  have hnews : ∀ j u, (flatS us)[j]? = some u → w.cell? ((⟨b, off, none⟩ : Addr).add j) = some u := by
    intro j u hu
    have hj : j < us.length * 2 := by
      rcases Nat.lt_or_ge j (flatS us).length with h3 | h3
      · rwa [flatS_len] at h3
      · rw [List.getElem?_eq_none h3] at hu; cases hu
    have he : (⟨b, off, none⟩ : Addr).add j = ⟨b, off + j, none⟩ := by
      unfold Addr.add
      split
      · next h0 => rw [h0]; rfl
      · rfl
    rw [he]
    have hi2 : j / 2 < us.length := by omega
    have hcc := hc2 (j / 2) (by rw [List.length_map]; exact hi2)
    simp only [List.getElem_map] at hcc
    obtain ⟨f1, f2⟩ := flatS_at us (j / 2) hi2
    rcases Nat.mod_two_eq_zero_or_one j with hm | hm
    · have e : j = j / 2 * 2 := by omega
      rw [e] at hu
      rw [f1] at hu
      cases hu
      rw [show off + j = off + j / 2 * 2 by omega]
      exact hcc.1
    · have e : j = j / 2 * 2 + 1 := by omega
      rw [e] at hu
      rw [f2] at hu
      cases hu
      rw [show off + j = off + j / 2 * 2 + 1 by omega]
      exact hcc.2
  have hones : ∀ u ∈ flatS us, u.oneCell' = true := by
    intro u hu
    have : ∀ us : List SetR, (∀ u ∈ us, LinX w (.agg #[u.1.1, u.1.2]) u.2.1 u.2.2) → ∀ z ∈ flatS us, z.oneCell' = true := by
      intro us
      induction us with
      | nil => intro _ z hz; simp [flatS] at hz
      | cons u us ih =>
        intro hl z hz
        have h3 := linX_one (hl u (by simp))
        simp only [flatS, List.mem_cons] at hz
        rcases hz with rfl | rfl | hz
        · exact h3.1
        · exact h3.2
        · exact ih (fun v hv => hl v (by simp [hv])) z hz
    exact this us hl2 u hu
  have holds : ∀ j u, ([x0, y0] : List Value)[j]? = some u → w.cell? ((⟨G, 0, none⟩ : Addr).add j) = some u := by
    intro j u hu
    match j, hu with
    | 0, hu => cases hu; exact hc0
    | 1, hu => cases hu; exact hc1
    | j + 2, hu => simp at hu
  obtain ⟨v', w', hrun, r1, r2⟩ := run_append_arg_grows (P := Try.prog) w 23 o.type 26 i (.agg #[.slice none 0 0, .slice none 0 0]) 2 48 Try.underlying23 hi hz0 hz1 hz2 rfl (by decide) ⟨G, 0, none⟩ 1 1 [x0, y0] rfl holds ⟨b, off, none⟩ us.length cu (flatS us) (flatS_len us) hnews (by omega) (by unfold maxLen; omega) (by omega)
  obtain ⟨g, cap, rfl, -, -⟩ := World.ownsRow.form r1 (by omega)
  unfold Oper.wp execOp
  simp only [ho, resolve, invoke, builtin, Sem.run_bind, Sem.run_pure, Result.andThen_ok, List.map_toArray, List.map_cons, List.map_nil, hs, hx', hrun]
  have hn : 1 + us.length = us.length + 1 := by omega
  rw [hn] at r1 ⊢
  refine h _ cap w' ⟨_, cap, rfl, by simp; omega, .inr ⟨g, 0, rfl, fun j hj => ?_⟩, hall w' r2⟩ r2
  have hj' : j < us.length + 1 := by simpa using hj
  have ha := World.ownsRow.cellAt r1 (j * 2) (by omega)
  have hb := World.ownsRow.cellAt r1 (j * 2 + 1) (by omega)
  rw [show 0 + j * 2 = j * 2 by omega]
  have hf := flatS_at (((x0, y0), (b0, q0)) :: us) j (by simpa using hj')
  have he : ([x0, y0] ++ flatS us) = flatS (((x0, y0), (b0, q0)) :: us) := rfl
  rw [he] at ha hb
  rw [ha, hb]
  simp only [List.getElem_map]
  exact hf
end Go.Proofs.Ytoaoheblaidhmaa

namespace Go.Proofs.Ytoaoheblaidhmaa
open Go.RowKit
set_option linter.unusedVariables false

theorem wp_lit1 {o : Oper} {a : Act} {w : World} {K : Act → World → Prop} {Q : Exit → Act → World → Prop} (x : Operand) (x0 y0 : Value)
    (ho : o.op = .buildSlice 23 1 #[(0, x)]) (hx : a.eval x = .agg #[x0, y0]) (h1 : x0.oneCell' = true ∧ y0.oneCell' = true)
    (h : ∀ G w', w'.cell? ⟨G, 0, none⟩ = some x0 → w'.cell? ⟨G, 1, none⟩ = some y0 → w.grownBy w' none → K (a.put o.dst (.slice (some ⟨G, 0, none⟩) 1 1)) w') : Oper.wp Try.prog o a w K Q := by
  unfold Oper.wp
  simp only [execOp, ho]
  simp only [List.map_toArray, List.map_cons, List.map_nil, hx]
  go_simp
  exact h w.heap.size _ (by rw [World.cell?, heap_new _ rfl]; rfl) (by rw [World.cell?, heap_new _ rfl]; rfl) (World.grownBy_alloc _ _ none)
theorem wp_lit2 {o : Oper} {a : Act} {w : World} {K : Act → World → Prop} {Q : Exit → Act → World → Prop} (x y : Operand) (x0 y0 x1 y1 : Value)
    (ho : o.op = .buildSlice 23 2 #[(0, x), (1, y)]) (hx : a.eval x = .agg #[x0, y0]) (hy : a.eval y = .agg #[x1, y1]) {b0 b1 : List Int} {q0 q1 : List Row} (h0 : LinX w (.agg #[x0, y0]) b0 q0) (h1 : LinX w (.agg #[x1, y1]) b1 q1)
    (hq0 : q0.length ≤ 20) (hq1 : q1.length ≤ 20)
    (h : ∀ v w', SetsX w' v [((x0, y0), (b0, q0)), ((x1, y1), (b1, q1))] → w.grownBy w' none → K (a.put o.dst v) w') : Oper.wp Try.prog o a w K Q := by
  have c0 := linX_one h0
  have c1 := linX_one h1
  unfold Oper.wp
  simp only [execOp, ho]
  simp only [List.map_toArray, List.map_cons, List.map_nil, hx, hy]
  go_simp
  refine h (.slice (some ⟨w.heap.size, 0, none⟩) 2 2) _ ⟨_, 2, rfl, by simp, .inr ⟨w.heap.size, 0, rfl, fun j hj => ?_⟩, fun u hu => ?_⟩ (World.grownBy_alloc _ _ none)
  · have hj2 : j < 2 := by simpa using hj
    obtain rfl | rfl : j = 0 ∨ j = 1 := by omega
    · exact ⟨by rw [World.cell?, heap_new _ rfl]; rfl, by rw [World.cell?, heap_new _ rfl]; rfl⟩
    · exact ⟨by rw [World.cell?, heap_new _ rfl]; rfl, by rw [World.cell?, heap_new _ rfl]; rfl⟩
  · have hg := World.grownBy_alloc w (.cells #[x0, y0, x1, y1] 26) none
    simp only [List.mem_cons, List.not_mem_nil, or_false] at hu
    rcases hu with rfl | rfl
    · exact ⟨h0.same hg, hq0⟩
    · exact ⟨h1.same hg, hq1⟩
end Go.Proofs.Ytoaoheblaidhmaa

namespace Go.Proofs.Ytoaoheblaidhmaa
open Go.RowKit
set_option linter.unusedVariables false

theorem mp2 {A B : Prop} (h : A → B) (a : A) : B := h a
def SmallTo (w0 w : World) (p : Value) (d : Nat) (e : Ending) (w' : World) : Prop :=
  ∃ (a : Option Addr) (c : Nat) (us : List Int), e = .returned (.slice a us.length c) ∧ Ev d (fun w2 => RowOk w2 (.slice a us.length c, us)) w' ∧ St w0 w' p d ∧ w.grownBy w' (some d)
theorem small_ev {w0 w : World} {p : Value} {d : Nat} (h : St w0 w p d) (n most : Int) (h1 : n ≤ 1000) (h2 : 0 ≤ most) (h3 : most ≤ 1000000) :
    Calls Try.prog 16 #[p, .int .i64 n, .int .i64 most] w (SmallTo w0 w p d) :=
  (small_any p d n most w h.1 h1 h2 h3).mono fun e w' ⟨v, xs, he, hl, hp, ho, hd, hg⟩ => by
    obtain ⟨a, c, rfl⟩ := ho.slice
    have hlt := h.lt
    exact ⟨a, c, xs, he, fun w2 g2 => (ho.row (by intro x hx; have := hp x hx; omega)).kept g2 (by rintro k ⟨⟩ e; have := (ho.fresh _ e).1; omega), h.deal hd hg, hg⟩
def VecB (d B t : Nat) (w : World) : Prop := ∃ (a : Option Addr) (c : Nat) (xs : List Int), Ev d (fun w' => w'.cell? ⟨B, t, none⟩ = some (.slice a xs.length c) ∧ RowOk w' (.slice a xs.length c, xs)) w
def VecsE (d B : Nat) (w : World) : Prop := ∀ t, t < 3 → VecB d B t w
theorem VecsE.step {d B : Nat} {w w' : World} (h : VecsE d B w) (g : w.grownBy w' none) : VecsE d B w' := fun t ht => by
  obtain ⟨a, c, xs, h⟩ := h t ht
  exact ⟨a, c, xs, h.step g⟩
/-- A fact of later worlds, on. -/
theorem Ev.on {d : Nat} {P : World → Prop} {w w' : World} (h : Ev d P w) (g : w.grownBy w' none) : P w' := h w' (g.but _)
theorem Ev.and {d : Nat} {P Q : World → Prop} {w : World} (h : Ev d P w) (k : Ev d Q w) : Ev d (fun w' => P w' ∧ Q w') w := fun w' g => ⟨h w' g, k w' g⟩
/-- Same on two slices of one list. -/
theorem same_yes {va vb : Value} {xs : List Int} {w : World} (h : RowOk w (va, xs)) (h' : RowOk w (vb, xs)) :
    Calls Try.prog 19 #[va, vb] w fun e w' => e = .returned (.bool true) ∧ w.grownBy w' none :=
  (same_any va vb xs xs w h.1 h'.1).mono fun e w' ⟨he, hd⟩ => ⟨by rw [he]; simp, hd.grown none⟩
end Go.Proofs.Ytoaoheblaidhmaa

namespace Go.Proofs.Ytoaoheblaidhmaa
open Go.ChangeShapes Go.WideShapes Go.ChangeAt Go.RowKit Go.Deep
set_option linter.unusedVariables false

def PairB (w : World) (d B j : Nat) : Prop := ∃ (ax : Option Addr) (cs : Nat) (ap : Option Addr) (cp : Nat) (bs : List Int) (qs : List Row) (at' : Option Addr) (ct : Nat) (aq : Option Addr) (cq : Nat) (bt : List Int) (qt : List Row), qs.length ≤ 20 ∧ qt.length ≤ 20 ∧ Ev d (fun w' => (w'.cell? ⟨B, j * 4, none⟩ = some (.slice ax bs.length cs) ∧ w'.cell? ⟨B, j * 4 + 1, none⟩ = some (.slice ap qs.length cp) ∧ w'.cell? ⟨B, j * 4 + 2, none⟩ = some (.slice at' bt.length ct) ∧ w'.cell? ⟨B, j * 4 + 3, none⟩ = some (.slice aq qt.length cq)) ∧ (LinX w' (.agg #[.slice ax bs.length cs, .slice ap qs.length cp]) bs qs ∧ RowOk w' (.slice ax bs.length cs, bs)) ∧ (LinX w' (.agg #[.slice at' bt.length ct, .slice aq qt.length cq]) bt qt ∧ RowOk w' (.slice at' bt.length ct, bt))) w
def PairsB (d B : Nat) (w : World) : Prop := ∀ j, j < 4 → PairB w d B j
theorem PairsB.deal {w w' : World} {d B : Nat} (h : PairsB d B w) (g : w.grownBy w' (some d)) : PairsB d B w' := fun j hj => by
  obtain ⟨ax, cs, ap, cp, bs, qs, at', ct, aq, cq, bt, qt, h1, h2, h3⟩ := h j hj
  exact ⟨ax, cs, ap, cp, bs, qs, at', ct, aq, cq, bt, qt, h1, h2, h3.deal g⟩
theorem PairsB.step {w w' : World} {d B : Nat} (h : PairsB d B w) (g : w.grownBy w' none) : PairsB d B w' := h.deal (g.but _)
theorem Ev.box {d g : Nat} {o : Obj} {w : World} (h : w.heap[g]? = some o) (hne : g ≠ d) : Ev d (fun w' => w'.heap[g]? = some o) w := fun w' gr => (gr.block g (Array.getElem?_eq_some_iff.1 h).1 (by simp; exact hne)).trans h
def WalkE : Prop := ∀ (a0 : Option Addr) (len0 cap0 : Nat) (z0 : List Int) (w : World) (w0 : IsRow .i64 w a0 len0 cap0 z0) (n : Int) (av : Option Addr) (cv : Nat) (us : List SetR) (hus : SetsI w (.slice av us.length cv) us)
    (ab : Option Addr) (cb : Nat) (ap : Option Addr) (cp : Nat) (ba : List Int) (qa : List Row) (ha : LinX w (.agg #[.slice ab ba.length cb, .slice ap qa.length cp]) ba qa) (hba : RowOk w (.slice ab ba.length cb, ba))
    (ab2 : Option Addr) (cb2 : Nat) (ap2 : Option Addr) (cp2 : Nat) (bb : List Int) (qb : List Row) (hb : LinX w (.agg #[.slice ab2 bb.length cb2, .slice ap2 qb.length cp2]) bb qb) (hbb : RowOk w (.slice ab2 bb.length cb2, bb))
    (a5 : Option Addr) (c5 : Nat) (xs : List Int) (hx : RowOk w (.slice a5 xs.length c5, xs)) (a6 : Option Addr) (c6 : Nat) (ts : List Int) (ht : RowOk w (.slice a6 ts.length c6, ts)) (hqa : qa.length ≤ 9223372036854775807) (hqb : qb.length ≤ 9223372036854775807) (hql : ∀ u ∈ us, u.2.2.length ≤ 9223372036854775807),
    Calls Try.prog 3 #[.slice a0 len0 cap0, .int .i64 n, .slice av us.length cv, .agg #[.slice ab ba.length cb, .slice ap qa.length cp], .agg #[.slice ab2 bb.length cb2, .slice ap2 qb.length cp2], .slice a5 xs.length c5, .slice a6 ts.length c6] w fun e w' => e = .returned (.bool true) ∧ Below w.heap.size w w'

end Go.Proofs.Ytoaoheblaidhmaa
