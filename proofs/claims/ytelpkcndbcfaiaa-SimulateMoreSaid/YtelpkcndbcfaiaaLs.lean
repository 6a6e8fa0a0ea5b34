/- As Lr, for a region whose last operation waits for all others and may write what it likes. -/
import Derived.Test.YtelpkcndbcfaiaaLr
namespace Go.Proofs.Ytelpkcndbcfaiaa
open Go.RowKit
set_option linter.unusedVariables false
section
variable {P : Program} {Q : Exit → Act → World → Prop}
theorem dst_init {init : List Oper} {last : Oper} {i : Nat} (hi : i < init.length) : dstOf (init ++ [last]) i = dstOf init i := by
  unfold dstOf
  rw [List.getElem?_append_left hi]
theorem wp_region_last {id : Nat} {init : List Oper} {last : Oper} {a0 : Act} {w0 : World} (V : Nat → Value → World → Prop) (hm : P.follows .mixedOrders = true) (hld : last.dst = none) (hlg : last.guard = none)
    (hn : (init.filterMap (·.dst)).Nodup) (hsz : ∀ d ∈ init.filterMap (·.dst), d < a0.tmps.size)
    (hlex : ∀ (i : Nat) (o : Oper), init[i]? = some o → ∀ e ∈ o.after, Region.binds .any e = true → e.on < i)
    (hlast : ∀ i, i < init.length → ∃ e ∈ last.after, Region.binds .any e = true ∧ e.on = i) (hlast2 : ∀ e ∈ last.after, Region.binds .any e = true → e.on < init.length)
    (hV : ∀ i v w w', w.grownBy w' none → V i v w → V i v w')
    (hstep : ToldAll P Q (init ++ [last]) (init.filterMap (·.dst)) a0 w0 V init 0)
    (hend : ∀ (vs : Nat → Value) w, w0.grownBy w none → (∀ i d, dstOf init i = some d → V i (vs i) w) → Oper.wp P last (putAll vs init 0 a0) w (fun a' w' => Q .normal a' w') Q) :
    (Code.region id (init ++ [last]).toArray true).wp P Q a0 w0 := by
  refine wp_region_any hm ?_
  let D := init.filterMap (·.dst)
  let n := init.length
  have hopl : (init ++ [last])[n]? = some last := by rw [List.getElem?_append_right (Nat.le_refl _)]; simp
  refine wpAny_inv (ops := (init ++ [last]).toArray) (fun listed a w => (listed.getD n false = false ∧ w0.grownBy w none ∧ Agree D a0 a ∧ ∀ i d, dstOf init i = some d → listed.getD i false = true → V i (a.eval (.tmp d)) w) ∨ ((∀ i, i < n + 1 → listed.getD i false = true) ∧ Q .normal a w)) ?_ ?_ _ _ _ _ (by simp) (by simp [leftOf_replicate]) (.inl ⟨?_, grown_drew w0 none, ⟨rfl, rfl, fun _ _ => rfl⟩, fun i d _ h => ?_⟩)
  · rintro listed a w hs hI i hi
    obtain ⟨h0, o, ho, hdep⟩ := ready_mem hs hi
    have ho' : (init ++ [last])[i]? = some o := by simpa using ho
    have hil : i < listed.size := (Array.getElem?_eq_some_iff.1 h0).1
    have hls : listed.size = n + 1 := by rw [hs]; simp [n]
    rcases hI with ⟨hnl, hg, ha, hv⟩ | ⟨hall, -⟩
    · by_cases hin : i = n
      · subst hin
        rw [hopl] at ho'
        cases ho'
        have hv2 : ∀ j d, dstOf init j = some d → V j (a.eval (.tmp d)) w := fun j d hd => by
          have hjn : j < n := by
            rcases Nat.lt_or_ge j init.length with h | h
            · exact h
            · simp [dstOf, List.getElem?_eq_none h] at hd
          obtain ⟨e, he, hb, rfl⟩ := hlast j hjn
          exact hv _ d hd (hdep e he hb)
        have key := hend (fun i => match dstOf init i with | some d => a.eval (.tmp d) | none => undef) w hg (fun i d hd => by simp only [hd]; exact hv2 i d hd)
        have hact : putAll (fun i => match dstOf init i with | some d => a.eval (.tmp d) | none => undef) init 0 a0 = a := by
          have hdf := (putAll_defers (fun i => match dstOf init i with | some d => a.eval (.tmp d) | none => undef) init 0 a0).trans ha.1.symm
          have htm : (putAll (fun i => match dstOf init i with | some d => a.eval (.tmp d) | none => undef) init 0 a0).tmps = a.tmps := by
            apply Array.ext_getElem?
            intro s
            by_cases hsD : s ∈ init.filterMap (·.dst)
            · obtain ⟨o, ho, hd⟩ := List.mem_filterMap.1 hsD
              obtain ⟨j, hj, rfl⟩ := List.getElem_of_mem ho
              have hdj : dstOf init j = some s := by simp [dstOf, hj, hd]
              rw [putAll_own _ init 0 a0 hn hdj (hsz s hsD), Nat.zero_add]
              simp only [hdj]
              have hlt : s < a.tmps.size := by rw [ha.2.1]; exact hsz s hsD
              simp [Act.eval, Array.getD_eq_getD_getElem?, hlt]
            · rw [putAll_other _ init 0 a0 hsD]
              exact (ha.2.2 s hsD).symm
          cases hp : putAll (fun i => match dstOf init i with | some d => a.eval (.tmp d) | none => undef) init 0 a0
          rw [hp] at hdf htm
          dsimp only at hdf htm
          subst hdf htm
          rfl
        rw [hact] at key
        unfold wpOp
        rw [ho]
        have hw : Region.wanted last (yielded (init ++ [last]).toArray a.tmps) = true := by simp [Region.wanted, hlg]
        simp only [hw, if_true]
        refine .inl (Oper.wp_mono (fun a' w' hq => .inr ⟨fun k hk => ?_, hq⟩) key)
        rw [Array.getD_eq_getD_getElem?]
        by_cases e : k = n
        · subst e; rw [Array.getElem?_setIfInBounds_self]; simp [hil]
        · rw [Array.getElem?_setIfInBounds_ne (fun h => e h.symm), ← Array.getD_eq_getD_getElem?]
          obtain ⟨e3, he3, hb3, rfl⟩ := hlast k (by omega)
          exact hdep e3 he3 hb3
      · have hin2 : i < init.length := by omega
        have hoi : init[i]? = some o := by rwa [List.getElem?_append_left hin2] at ho'
        have ht := ToldAll.get hstep i o hoi
        rw [Nat.zero_add] at ht
        have hput : ∀ v w', V i v w' → w.grownBy w' none → (((listed.setIfInBounds i true).getD n false = false ∧ w0.grownBy w' none ∧ Agree D a0 (a.put o.dst v) ∧ ∀ j d, dstOf init j = some d → (listed.setIfInBounds i true).getD j false = true → V j ((a.put o.dst v).eval (.tmp d)) w') ∨ ((∀ k, k < n + 1 → (listed.setIfInBounds i true).getD k false = true) ∧ Q .normal (a.put o.dst v) w')) := fun v w' hvi hg' => by
          have hdm : ∀ x, o.dst = some x → dstOf init i = some x := fun x hx => by simp [dstOf, hoi, hx]
          refine .inl ⟨by rw [Array.getD_eq_getD_getElem?, Array.getElem?_setIfInBounds_ne hin, ← Array.getD_eq_getD_getElem?]; exact hnl, grown_trans hg hg', ha.put (fun x hx => dstOf_mem (hdm x hx)) v, fun j d hj hl => ?_⟩
          by_cases e : j = i
          · subst e
            have hod : o.dst = some d := by simpa [dstOf, hoi] using hj
            have hd : d < a.tmps.size := by rw [ha.2.1]; exact hsz d (dstOf_mem hj)
            rw [hod]
            simp only [Act.eval, Act.put, Array.getD_eq_getD_getElem?, Array.getElem?_setIfInBounds_self, hd, if_true, Option.getD_some]
            exact hvi
          · have hl' : listed.getD j false = true := by
              rw [Array.getD_eq_getD_getElem?, Array.getElem?_setIfInBounds_ne (fun h => e h.symm), ← Array.getD_eq_getD_getElem?] at hl
              exact hl
            have hne : ∀ x, o.dst = some x → x ≠ d := fun x hx hxd => e (dstOf_inj hn hj (hxd ▸ hdm x hx))
            have : (a.put o.dst v).eval (.tmp d) = a.eval (.tmp d) := by
              cases hx : o.dst with
              | none => rfl
              | some x =>
                simp only [Act.eval, Act.put, Array.getD_eq_getD_getElem?]
                rw [Array.getElem?_setIfInBounds_ne (hne x hx)]
            rw [this]
            exact hV _ _ _ _ hg' (hv j d hj hl')
        rcases ht a w ha hg (fun j hj d hd => by
          obtain ⟨e, he, rfl⟩ := List.mem_map.1 hj
          obtain ⟨he1, he2⟩ := List.mem_filter.1 he
          have hlt := hlex i o hoi e (Array.mem_toList_iff.1 he1) he2
          rw [dst_init (by omega)] at hd
          exact hv _ d hd (hdep e (Array.mem_toList_iff.1 he1) he2)) with ⟨hw, hwp⟩ | ⟨hw, hvi⟩
        · unfold wpOp
          rw [ho]
          simp only [hw, if_true]
          exact .inl (Oper.wp_mono (fun a' w' ⟨v, he, hvi, hg'⟩ => by subst he; exact hput v w' hvi hg') hwp)
        · unfold wpOp
          rw [ho]
          simp only [hw, Bool.false_eq_true, if_false]
          exact hput _ _ hvi (grown_refl _ _)
    · exfalso
      have := hall i (by omega)
      rw [Array.getD_eq_getD_getElem?, h0] at this
      simp at this
  · rintro listed a w hs hI hr
    have hls : listed.size = n + 1 := by rw [hs]; simp [n]
    rcases hI with ⟨hnl, hg, ha, hv⟩ | ⟨-, hq⟩
    · exfalso
      have hall : ∀ m i, i < m → i < n + 1 → listed.getD i false = true := by
        intro m
        induction m with
        | zero => intro i h; omega
        | succ m ih =>
          intro i him hio
          cases hL : listed.getD i false with
          | true => rfl
          | false =>
            exfalso
            have hil : i < listed.size := by omega
            have h0 : listed[i]? = some false := by
              rw [Array.getElem?_eq_getElem hil]
              rw [Array.getD_eq_getD_getElem?, Array.getElem?_eq_getElem hil] at hL
              simpa using hL
            by_cases e : i = n
            · have := ready_of (ops := (init ++ [last]).toArray) (o := last) hs h0 (by simpa [e] using hopl) (fun e2 he hb => by
                have := hlast2 e2 he hb
                exact ih e2.on (by omega) (by omega))
              rw [hr] at this
              cases this
            · have hin : i < init.length := by omega
              have := ready_of (ops := (init ++ [last]).toArray) (o := init[i]) hs h0 (by simp [List.getElem?_append_left hin, hin]) (fun e2 he hb => by
                have := hlex i _ (List.getElem?_eq_getElem hin) e2 he hb
                exact ih e2.on (by omega) (by omega))
              rw [hr] at this
              cases this
      rw [hall (n + 1) n (by omega) (by omega)] at hnl
      cases hnl
    · exact hq
  · rw [Array.getD_eq_getD_getElem?]
    simp only [Array.getElem?_replicate]
    split <;> simp
  · rw [Array.getD_eq_getD_getElem?] at h
    simp only [Array.getElem?_replicate] at h
    split at h <;> simp at h
/-- All that the region's shape must be: reckoned. -/
def lastB (ops : List Oper) (n : Nat) : Bool :=
  match ops.reverse with
  | [] => false
  | l :: r => l.dst.isNone && (l.guard.isNone && (toldB r.reverse n && ((List.range r.length).all (fun i => l.after.any (fun e => Region.binds .any e && e.on == i)) && l.after.all (fun e => !Region.binds .any e || decide (e.on < r.length)))))
theorem wp_last {id : Nat} {init : List Oper} {last : Oper} {a0 : Act} {w0 : World} (V : Nat → Value → World → Prop) (hm : P.follows .mixedOrders = true) (hB : lastB (init ++ [last]) a0.tmps.size = true)
    (hV : ∀ i v w w', w.grownBy w' none → V i v w → V i v w')
    (hstep : ToldAll P Q (init ++ [last]) (init.filterMap (·.dst)) a0 w0 V init 0)
    (hend : ∀ (vs : Nat → Value) w, w0.grownBy w none → (∀ i d, dstOf init i = some d → V i (vs i) w) → Oper.wp P last (putAll vs init 0 a0) w (fun a' w' => Q .normal a' w') Q) :
    (Code.region id (init ++ [last]).toArray true).wp P Q a0 w0 := by
  unfold lastB at hB
  rw [List.reverse_append, List.reverse_singleton, List.singleton_append] at hB
  simp only [List.reverse_reverse, List.length_reverse, Bool.and_eq_true, Option.isNone_iff_eq_none, toldB, decide_eq_true_eq] at hB
  obtain ⟨h1, h2, ⟨h3, h4, h5⟩, h6, h7⟩ := hB
  refine wp_region_last V hm h1 h2 h3 (fun d hd => by simpa using List.all_eq_true.1 h4 d hd) (fun i o ho e he hb => ?_) (fun i hi => ?_) (fun e he hb => ?_) hV hstep hend
  · have := lexOk_get h5 i o ho e he hb
    omega
  · have := List.all_eq_true.1 h6 i (List.mem_range.2 hi)
    obtain ⟨e, he, hh⟩ := Array.any_eq_true'.1 this
    simp only [Bool.and_eq_true, beq_iff_eq] at hh
    exact ⟨e, he, hh.1, hh.2⟩
  · have := Array.all_eq_true'.1 h7 e he
    rw [hb] at this
    simpa using this
/-- What is told of all values. -/
def AllV (V : Nat → Value → World → Prop) (ops : List Oper) (vs : Nat → Value) (w : World) : Prop := ∀ i d, dstOf ops.dropLast i = some d → V i (vs i) w
theorem AllV.at {V : Nat → Value → World → Prop} {ops : List Oper} {vs : Nat → Value} {w : World} (h : AllV V ops vs w) (i d : Nat) (hd : dstOf ops.dropLast i = some d) : V i (vs i) w := h i d hd
/-- What the last operation owes. -/
def LastWp (P : Program) (Q : Exit → Act → World → Prop) (ops : List Oper) (dflt : Oper) (a0 : Act) (vs : Nat → Value) (w : World) : Prop := Oper.wp P (ops.getLastD dflt) (putAll vs ops.dropLast 0 a0) w (fun a' w' => Q .normal a' w') Q
theorem LastWp.of {ops : List Oper} {dflt last : Oper} {init : List Oper} {a0 : Act} {vs : Nat → Value} {w : World} (h1 : ops.getLastD dflt = last) (h2 : ops.dropLast = init) (h : Oper.wp P last (putAll vs init 0 a0) w (fun a' w' => Q .normal a' w') Q) : LastWp P Q ops dflt a0 vs w := by
  unfold LastWp
  rw [h1, h2]
  exact h
theorem wp_last_of {id : Nat} {ops : List Oper} {a0 : Act} {w0 : World} (V : Nat → Value → World → Prop) (dflt : Oper) (hm : P.follows .mixedOrders = true) (he : ops.dropLast ++ [ops.getLastD dflt] = ops) (hB : lastB ops a0.tmps.size = true)
    (hV : ∀ i v w w', w.grownBy w' none → V i v w → V i v w')
    (hstep : ToldAll P Q ops (ops.dropLast.filterMap (·.dst)) a0 w0 V ops.dropLast 0)
    (hend : ∀ (vs : Nat → Value) w, w0.grownBy w none → AllV V ops vs w → LastWp P Q ops dflt a0 vs w) :
    (Code.region id ops.toArray true).wp P Q a0 w0 := by
  have h := wp_last (P := P) (Q := Q) (id := id) (init := ops.dropLast) (last := ops.getLastD dflt) (a0 := a0) (w0 := w0) V hm (by rw [he]; exact hB) hV (by rw [he]; exact hstep) hend
  rw [he] at h
  exact h
end
end Go.Proofs.Ytelpkcndbcfaiaa
