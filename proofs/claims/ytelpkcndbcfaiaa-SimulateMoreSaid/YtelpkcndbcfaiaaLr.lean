/- A region that draws its order, told whatever the order: each operation leaves a value of which something is told that lasts while memory grows. -/
import Derived.Test.YtelpkcndbcfaiaaLq
namespace Go.Proofs.Ytelpkcndbcfaiaa
open Go.RowKit
set_option linter.unusedVariables false

/-- How many are not listed yet. -/
def leftOf : List Bool → Nat
  | [] => 0
  | b :: l => (if b then 0 else 1) + leftOf l
theorem leftOf_set : ∀ (l : List Bool) (i : Nat), l[i]? = some false → leftOf (l.set i true) + 1 = leftOf l
  | [], i, h => by simp at h
  | b :: l, 0, h => by
    simp only [List.getElem?_cons_zero, Option.some.injEq] at h
    subst h
    simp [leftOf]
    omega
  | b :: l, i + 1, h => by
    have := leftOf_set l i (by simpa using h)
    simp only [List.set_cons_succ, leftOf]
    omega
theorem leftOf_replicate : ∀ n, leftOf (List.replicate n false) = n
  | 0 => rfl
  | n + 1 => by simp [List.replicate_succ, leftOf, leftOf_replicate n]; omega
theorem leftOf_zero : ∀ (l : List Bool), leftOf l = 0 → ∀ i : Nat, l[i]? ≠ some false
  | [], _, i => by simp
  | b :: l, h, i => by
    simp only [leftOf] at h
    cases b with
    | false => simp at h
    | true =>
      cases i with
      | zero => simp
      | succ i => simpa using leftOf_zero l (by simpa using h) i

theorem ready_mem {ops : Array Oper} {listed : Array Bool} {i : Nat} (hs : listed.size = ops.size) (h : i ∈ Region.ready .any ops listed) :
    listed[i]? = some false ∧ ∃ o, ops[i]? = some o ∧ ∀ e ∈ o.after, Region.binds .any e = true → listed.getD e.on false = true := by
  unfold Region.ready at h
  rw [List.mem_filter] at h
  obtain ⟨h1, h2⟩ := h
  have hi : i < ops.size := List.mem_range.1 h1
  rw [Bool.and_eq_true] at h2
  obtain ⟨h2, h3⟩ := h2
  have hi' : i < listed.size := by omega
  refine ⟨?_, ops[i], Array.getElem?_eq_getElem hi, fun e he hb => ?_⟩
  · rw [Array.getElem?_eq_getElem hi']
    simp only [Array.getD, hi', dif_pos, Bool.not_eq_true'] at h2
    rw [← h2]
    rfl
  · rw [Array.getElem?_eq_getElem hi] at h3
    simp only [Option.map_some, Option.getD_some] at h3
    have := Array.all_eq_true'.1 h3 e he
    rw [hb] at this
    simpa using this

theorem ready_of {ops : Array Oper} {listed : Array Bool} {i : Nat} {o : Oper} (hs : listed.size = ops.size) (h : listed[i]? = some false) (ho : ops[i]? = some o)
    (hd : ∀ e ∈ o.after, Region.binds .any e = true → listed.getD e.on false = true) : i ∈ Region.ready .any ops listed := by
  have hi : i < ops.size := (Array.getElem?_eq_some_iff.1 ho).1
  have hi' : i < listed.size := by omega
  unfold Region.ready
  rw [List.mem_filter]
  refine ⟨List.mem_range.2 hi, ?_⟩
  rw [Bool.and_eq_true]
  constructor
  · rw [Array.getElem?_eq_getElem hi'] at h
    simp only [Array.getD, hi', dif_pos, Bool.not_eq_true']
    simpa using h
  · rw [ho]
    simp only [Option.map_some, Option.getD_some]
    refine Array.all_eq_true'.2 fun e he => ?_
    cases hb : Region.binds .any e with
    | false => rfl
    | true => rw [hd e he hb]; rfl

section
variable {P : Program} {Q : Exit → Act → World → Prop}
theorem wpAny_inv {ops : Array Oper} (I : Array Bool → Act → World → Prop)
    (hstep : ∀ listed a w, listed.size = ops.size → I listed a w → ∀ i ∈ Region.ready .any ops listed, wpOp P ops Q i (fun a' w' => I (listed.setIfInBounds i true) a' w') a w)
    (hend : ∀ listed a w, listed.size = ops.size → I listed a w → Region.ready .any ops listed = [] → Q .normal a w) :
    ∀ (fuel : Nat) (listed : Array Bool) (a : Act) (w : World), listed.size = ops.size → leftOf listed.toList ≤ fuel → I listed a w → wpAny P .any ops Q fuel listed a w
  | 0, listed, a, w, hs, hl, hI => by
    have hr : Region.ready .any ops listed = [] := by
      refine List.eq_nil_iff_forall_not_mem.2 fun i hi => ?_
      exact leftOf_zero listed.toList (by omega) i (by simpa using (ready_mem hs hi).1)
    exact ⟨hr, hend _ _ _ hs hI hr⟩
  | fuel + 1, listed, a, w, hs, hl, hI => by
    refine ⟨fun hr => hend _ _ _ hs hI hr, fun i hi => wpOp_mono (fun a' w' h' => wpAny_inv I hstep hend fuel _ a' w' (by simpa using hs) ?_ h') (hstep listed a w hs hI i hi)⟩
    have := leftOf_set listed.toList i (by simpa using (ready_mem hs hi).1)
    simp only [Array.toList_setIfInBounds]
    omega

def dstOf (ops : List Oper) (i : Nat) : Option Nat := ops[i]?.bind (·.dst)
/-- The operations that an operation waits for. -/
def depsOf (o : Oper) : List Nat := (o.after.toList.filter (Region.binds .any)).map (·.on)
/-- a has the slots of b but for those of D. -/
def Agree (D : List Nat) (b a : Act) : Prop := a.defers = b.defers ∧ a.tmps.size = b.tmps.size ∧ ∀ s, s ∉ D → a.tmps[s]? = b.tmps[s]?
theorem Agree.put {D : List Nat} {b a : Act} {d : Option Nat} (h : Agree D b a) (hd : ∀ x, d = some x → x ∈ D) (v : Value) : Agree D b (a.put d v) := by
  obtain ⟨h1, h2, h3⟩ := h
  cases d with
  | none => exact ⟨h1, h2, h3⟩
  | some x =>
    refine ⟨h1, by simpa [Act.put] using h2, fun s hs => ?_⟩
    have hne : x ≠ s := fun e => hs (e ▸ hd x rfl)
    simp only [Act.put]
    rw [Array.getElem?_setIfInBounds_ne hne]
    exact h3 s hs
theorem Agree.eval {D : List Nat} {b a : Act} (h : Agree D b a) {s : Nat} (hs : s ∉ D) : a.eval (.tmp s) = b.eval (.tmp s) := by
  simp only [Act.eval, Array.getD_eq_getD_getElem?]
  rw [h.2.2 s hs]

/-- What is told of operation i in the order of no matter whom. -/
def ToldAt (P : Program) (Q : Exit → Act → World → Prop) (ops : List Oper) (D : List Nat) (a0 : Act) (w0 : World) (V : Nat → Value → World → Prop) (i : Nat) (o : Oper) : Prop :=
  ∀ a w, Agree D a0 a → w0.grownBy w none → (∀ j ∈ depsOf o, ∀ d, dstOf ops j = some d → V j (a.eval (.tmp d)) w) →
    (Region.wanted o (yielded ops.toArray a.tmps) = true ∧ Oper.wp P o a w (fun a' w' => ∃ v, a' = a.put o.dst v ∧ V i v w' ∧ w.grownBy w' none) Q) ∨ (Region.wanted o (yielded ops.toArray a.tmps) = false ∧ V i undef w)
def ToldAll (P : Program) (Q : Exit → Act → World → Prop) (ops : List Oper) (D : List Nat) (a0 : Act) (w0 : World) (V : Nat → Value → World → Prop) : List Oper → Nat → Prop
  | [], _ => True
  | o :: os, i => ToldAt P Q ops D a0 w0 V i o ∧ ToldAll P Q ops D a0 w0 V os (i + 1)
theorem ToldAll.get {ops : List Oper} {D : List Nat} {a0 : Act} {w0 : World} {V : Nat → Value → World → Prop} : ∀ {os : List Oper} {i : Nat}, ToldAll P Q ops D a0 w0 V os i → ∀ j o, os[j]? = some o → ToldAt P Q ops D a0 w0 V (i + j) o
  | [], _, _, _, _, h => by simp at h
  | o :: os, i, h, 0, o', e => by
    simp only [List.getElem?_cons_zero, Option.some.injEq] at e
    subst e
    exact h.1
  | o :: os, i, h, j + 1, o', e => by
    have := ToldAll.get h.2 j o' (by simpa using e)
    rwa [Nat.add_assoc, Nat.add_comm 1 j] at this

/-- The frame with the values of the operations laid into their slots. -/
def putAll (vs : Nat → Value) : List Oper → Nat → Act → Act
  | [], _, a => a
  | o :: os, k, a => putAll vs os (k + 1) (a.put o.dst (vs k))
theorem putAll_defers (vs : Nat → Value) : ∀ (os : List Oper) (k : Nat) (a : Act), (putAll vs os k a).defers = a.defers
  | [], _, _ => rfl
  | o :: os, k, a => by
    rw [putAll, putAll_defers vs os]
    cases o.dst <;> rfl
theorem putAll_size (vs : Nat → Value) : ∀ (os : List Oper) (k : Nat) (a : Act), (putAll vs os k a).tmps.size = a.tmps.size
  | [], _, _ => rfl
  | o :: os, k, a => by
    rw [putAll, putAll_size vs os]
    cases o.dst <;> simp [Act.put]
theorem putAll_other (vs : Nat → Value) {s : Nat} : ∀ (os : List Oper) (k : Nat) (a : Act), s ∉ os.filterMap (·.dst) → (putAll vs os k a).tmps[s]? = a.tmps[s]?
  | [], _, _, _ => rfl
  | o :: os, k, a, h => by
    rw [putAll]
    cases hd : o.dst with
    | none =>
      rw [List.filterMap_cons_none hd] at h
      exact putAll_other vs os _ _ h
    | some d =>
      rw [List.filterMap_cons_some hd, List.mem_cons, not_or] at h
      rw [putAll_other vs os _ _ h.2]
      simp only [Act.put]
      rw [Array.getElem?_setIfInBounds_ne (Ne.symm h.1)]
theorem putAll_own (vs : Nat → Value) {s j : Nat} : ∀ (os : List Oper) (k : Nat) (a : Act), (os.filterMap (·.dst)).Nodup → dstOf os j = some s → s < a.tmps.size → (putAll vs os k a).tmps[s]? = some (vs (k + j))
  | [], _, _, _, h, _ => by simp [dstOf] at h
  | o :: os, k, a, hn, h, hs => by
    rw [putAll]
    cases j with
    | zero =>
      have hd : o.dst = some s := by simpa [dstOf] using h
      rw [hd, putAll_other vs os _ _ (by rw [List.filterMap_cons_some hd] at hn; exact (List.nodup_cons.1 hn).1)]
      simp [Act.put, hs]
    | succ j =>
      have hd : dstOf os j = some s := by simpa [dstOf] using h
      have hn' : (os.filterMap (·.dst)).Nodup := by
        cases hd' : o.dst with
        | none => rwa [List.filterMap_cons_none hd'] at hn
        | some d => rw [List.filterMap_cons_some hd'] at hn; exact (List.nodup_cons.1 hn).2
      rw [putAll_own vs os (k + 1) _ hn' hd (by cases o.dst <;> simpa [Act.put] using hs)]
      rw [Nat.add_assoc, Nat.add_comm 1 j]
theorem dstOf_mem {ops : List Oper} {i d : Nat} (h : dstOf ops i = some d) : d ∈ ops.filterMap (·.dst) := by
  unfold dstOf at h
  cases ho : ops[i]? with
  | none => rw [ho] at h; cases h
  | some o => rw [ho] at h; exact List.mem_filterMap.2 ⟨o, List.mem_of_getElem? ho, h⟩
theorem dstOf_inj : ∀ {ops : List Oper} {i j d : Nat}, (ops.filterMap (·.dst)).Nodup → dstOf ops i = some d → dstOf ops j = some d → i = j
  | [], _, _, _, _, h, _ => by simp [dstOf] at h
  | o :: os, i, j, d, hn, hi, hj => by
    have hn' : (os.filterMap (·.dst)).Nodup := by
      cases hd' : o.dst with
      | none => rwa [List.filterMap_cons_none hd'] at hn
      | some d => rw [List.filterMap_cons_some hd'] at hn; exact (List.nodup_cons.1 hn).2
    cases i with
    | zero =>
      cases j with
      | zero => rfl
      | succ j =>
        have h0 : o.dst = some d := by simpa [dstOf] using hi
        have h1 : dstOf os j = some d := by simpa [dstOf] using hj
        rw [List.filterMap_cons_some h0] at hn
        exact absurd (dstOf_mem h1) (List.nodup_cons.1 hn).1
    | succ i =>
      cases j with
      | zero =>
        have h0 : o.dst = some d := by simpa [dstOf] using hj
        have h1 : dstOf os i = some d := by simpa [dstOf] using hi
        rw [List.filterMap_cons_some h0] at hn
        exact absurd (dstOf_mem h1) (List.nodup_cons.1 hn).1
      | succ j => exact congrArg (· + 1) (dstOf_inj (d := d) hn' (by simpa [dstOf] using hi) (by simpa [dstOf] using hj))

/-- A region that asks the tape: each operation told by itself. -/
theorem wp_region_told {id : Nat} {ops : List Oper} {a0 : Act} {w0 : World} (V : Nat → Value → World → Prop) (hm : P.follows .mixedOrders = true)
    (hn : (ops.filterMap (·.dst)).Nodup) (hsz : ∀ d ∈ ops.filterMap (·.dst), d < a0.tmps.size)
    (hlex : ∀ (i : Nat) (o : Oper), ops[i]? = some o → ∀ e ∈ o.after, Region.binds .any e = true → e.on < i)
    (hV : ∀ i v w w', w.grownBy w' none → V i v w → V i v w')
    (hstep : ToldAll P Q ops (ops.filterMap (·.dst)) a0 w0 V ops 0)
    (hend : ∀ (vs : Nat → Value) w, w0.grownBy w none → (∀ i d, dstOf ops i = some d → V i (vs i) w) → Q .normal (putAll vs ops 0 a0) w) :
    (Code.region id ops.toArray true).wp P Q a0 w0 := by
  refine wp_region_any hm ?_
  let D := ops.filterMap (·.dst)
  refine wpAny_inv (ops := ops.toArray) (fun listed a w => w0.grownBy w none ∧ Agree D a0 a ∧ ∀ i d, dstOf ops i = some d → listed.getD i false = true → V i (a.eval (.tmp d)) w) ?_ ?_ _ _ _ _ (by simp) (by simp [leftOf_replicate]) ⟨grown_drew w0 none, ⟨rfl, rfl, fun _ _ => rfl⟩, fun i d _ h => ?_⟩
  · rintro listed a w hs ⟨hg, ha, hv⟩ i hi
    obtain ⟨h0, o, ho, hdep⟩ := ready_mem hs hi
    have ho' : ops[i]? = some o := by simpa using ho
    have hil : i < listed.size := (Array.getElem?_eq_some_iff.1 h0).1
    have ht := ToldAll.get hstep i o ho'
    rw [Nat.zero_add] at ht
    have hput : ∀ v w', V i v w' → w.grownBy w' none → (w0.grownBy w' none ∧ Agree D a0 (a.put o.dst v) ∧ ∀ j d, dstOf ops j = some d → (listed.setIfInBounds i true).getD j false = true → V j ((a.put o.dst v).eval (.tmp d)) w') := fun v w' hvi hg' => by
      have hdm : ∀ x, o.dst = some x → dstOf ops i = some x := fun x hx => by simp [dstOf, ho', hx]
      refine ⟨grown_trans hg hg', ha.put (fun x hx => dstOf_mem (hdm x hx)) v, fun j d hj hl => ?_⟩
      by_cases e : j = i
      · subst e
        have hod : o.dst = some d := by simpa [dstOf, ho'] using hj
        have hd : d < a.tmps.size := by rw [ha.2.1]; exact hsz d (dstOf_mem hj)
        rw [hod]
        simp only [Act.eval, Act.put, Array.getD_eq_getD_getElem?, Array.getElem?_setIfInBounds_self, hd, if_true, Option.getD_some]
        exact hvi
      · have hl' : listed.getD j false = true := by
          rw [Array.getD_eq_getD_getElem?, Array.getElem?_setIfInBounds_ne (fun h => e h.symm), ← Array.getD_eq_getD_getElem?] at hl
          exact hl
        have hne : ∀ x, o.dst = some x → x ≠ d := fun x hx hxd => e (dstOf_inj hn hj (hxd ▸ hdm x hx))
        have : (a.put o.dst v).eval (.tmp d) = a.eval (.tmp d) := by
          cases hx : o.dst with
          | none => rfl
          | some x =>
            simp only [Act.eval, Act.put, Array.getD_eq_getD_getElem?]
            rw [Array.getElem?_setIfInBounds_ne (hne x hx)]
        rw [this]
        exact hV _ _ _ _ hg' (hv j d hj hl')
    rcases ht a w ha hg (fun j hj d hd => by
      obtain ⟨e, he, rfl⟩ := List.mem_map.1 hj
      obtain ⟨he1, he2⟩ := List.mem_filter.1 he
      exact hv _ d hd (hdep e (Array.mem_toList_iff.1 he1) he2)) with ⟨hw, hwp⟩ | ⟨hw, hvi⟩
    · unfold wpOp
      rw [ho]
      simp only [hw, if_true]
      exact .inl (Oper.wp_mono (fun a' w' ⟨v, he, hvi, hg'⟩ => by subst he; exact hput v w' hvi hg') hwp)
    · unfold wpOp
      rw [ho]
      simp only [hw, Bool.false_eq_true, if_false]
      exact hput _ _ hvi (grown_refl _ _)
  · rintro listed a w hs ⟨hg, ha, hv⟩ hr
    have hall : ∀ n i, i < n → i < ops.length → listed.getD i false = true := by
      intro n
      induction n with
      | zero => intro i h; omega
      | succ n ih =>
        intro i hin hio
        cases hL : listed.getD i false with
        | true => rfl
        | false =>
          exfalso
          have hil : i < listed.size := by simpa [hs] using hio
          have h0 : listed[i]? = some false := by
            rw [Array.getElem?_eq_getElem hil]
            rw [Array.getD_eq_getD_getElem?, Array.getElem?_eq_getElem hil] at hL
            simpa using hL
          have ho : ops[i]? = some ops[i] := List.getElem?_eq_getElem hio
          have := ready_of (ops := ops.toArray) (o := ops[i]) hs h0 (by first | (simp; done) | simpa using ho) (fun e he hb => by
            have := hlex i _ ho e he hb
            exact ih e.on (by omega) (by omega))
          rw [hr] at this
          cases this
    have hvs : ∀ i d, dstOf ops i = some d → V i (a.eval (.tmp d)) w := fun i d hd => by
      have hil : i < ops.length := by
        rcases Nat.lt_or_ge i ops.length with h | h
        · exact h
        · simp [dstOf, List.getElem?_eq_none h] at hd
      exact hv i d hd (hall _ i (Nat.lt_succ_self i) hil)
    have key := hend (fun i => match dstOf ops i with | some d => a.eval (.tmp d) | none => undef) w hg (fun i d hd => by simp only [hd]; exact hvs i d hd)
    have hact : putAll (fun i => match dstOf ops i with | some d => a.eval (.tmp d) | none => undef) ops 0 a0 = a := by
      have hdf := (putAll_defers (fun i => match dstOf ops i with | some d => a.eval (.tmp d) | none => undef) ops 0 a0).trans ha.1.symm
      have htm : (putAll (fun i => match dstOf ops i with | some d => a.eval (.tmp d) | none => undef) ops 0 a0).tmps = a.tmps := by
        apply Array.ext_getElem?
        intro s
        by_cases hsD : s ∈ ops.filterMap (·.dst)
        · obtain ⟨o, ho, hd⟩ := List.mem_filterMap.1 hsD
          obtain ⟨j, hj, rfl⟩ := List.getElem_of_mem ho
          have hdj : dstOf ops j = some s := by simp [dstOf, hj, hd]
          rw [putAll_own _ ops 0 a0 hn hdj (hsz s hsD), Nat.zero_add]
          simp only [hdj]
          have hlt : s < a.tmps.size := by rw [ha.2.1]; exact hsz s hsD
          simp [Act.eval, Array.getD_eq_getD_getElem?, hlt]
        · rw [putAll_other _ ops 0 a0 hsD]
          exact (ha.2.2 s hsD).symm
      cases hp : putAll (fun i => match dstOf ops i with | some d => a.eval (.tmp d) | none => undef) ops 0 a0
      rw [hp] at hdf htm
      dsimp only at hdf htm
      subst hdf htm
      rfl
    rw [hact] at key
    exact key
  · rw [Array.getD_eq_getD_getElem?] at h
    simp only [Array.getElem?_replicate] at h
    split at h <;> simp at h
def lexOk : List Oper → Nat → Bool
  | [], _ => true
  | o :: os, i => o.after.all (fun e => !Region.binds .any e || decide (e.on < i)) && lexOk os (i + 1)
theorem lexOk_get : ∀ {os : List Oper} {i : Nat}, lexOk os i = true → ∀ (j : Nat) (o : Oper), os[j]? = some o → ∀ e ∈ o.after, Region.binds .any e = true → e.on < i + j
  | [], _, _, _, _, h, _, _, _ => by simp at h
  | o :: os, i, h, 0, o', h', e, he, hb => by
    simp only [List.getElem?_cons_zero, Option.some.injEq] at h'
    subst h'
    simp only [lexOk, Bool.and_eq_true] at h
    have := Array.all_eq_true'.1 h.1 e he
    rw [hb] at this
    simpa using this
  | o :: os, i, h, j + 1, o', h', e, he, hb => by
    simp only [lexOk, Bool.and_eq_true] at h
    have := lexOk_get h.2 j o' (by simpa using h') e he hb
    omega
def toldB (ops : List Oper) (n : Nat) : Bool := decide (ops.filterMap (·.dst)).Nodup && ((ops.filterMap (·.dst)).all (fun d => decide (d < n)) && lexOk ops 0)
theorem wp_told {id : Nat} {ops : List Oper} {a0 : Act} {w0 : World} (V : Nat → Value → World → Prop) (hm : P.follows .mixedOrders = true) (hB : toldB ops a0.tmps.size = true)
    (hV : ∀ i v w w', w.grownBy w' none → V i v w → V i v w')
    (hstep : ToldAll P Q ops (ops.filterMap (·.dst)) a0 w0 V ops 0)
    (hend : ∀ (vs : Nat → Value) w, w0.grownBy w none → (∀ i d, dstOf ops i = some d → V i (vs i) w) → Q .normal (putAll vs ops 0 a0) w) :
    (Code.region id ops.toArray true).wp P Q a0 w0 := by
  simp only [toldB, Bool.and_eq_true, decide_eq_true_eq] at hB
  refine wp_region_told V hm hB.1 (fun d hd => by simpa using List.all_eq_true.1 hB.2.1 d hd) (fun i o ho e he hb => ?_) hV hstep hend
  have := lexOk_get hB.2.2 i o ho e he hb
  omega
end
end Go.Proofs.Ytelpkcndbcfaiaa
