/- Texts Dr, Xd in one. -/
import Derived.Test.YtoaoheblaidhmaaU5
import Derived.Test.YtoaoheblaidhmaaU2
import Derived.Test.YtoaoheblaidhmaaU3
import Derived.Test.YtoaoheblaidhmaaU4
namespace Go.Proofs.Ytoaoheblaidhmaa
open Go.RowKit
set_option linter.unusedVariables false

/-- One more row, inside a region that draws its order. -/
theorem step_app_row {ops : Array Oper} {o : Oper} {a : Act} {w : World} {K : Act → World → Prop} {Q : Exit → Act → World → Prop} {E : Prop} (hgd : o.guard = none) (s x : Operand)
    (ho : o.op = .call { callee := .builtin .append, args := #[s, x], argTypes := #[24, 24] }) (base : Nat) (v : Value) (ps : List Row) (hs : a.eval s = v)
    (hown : OwnP w base v ps) (b : Nat) (p : Row) (hx : a.eval x = .slice (some ⟨b, 0, none⟩) 1 1) (hnew : w.cell? ⟨b, 0, none⟩ = some p.1) (hp : RowOk w p) (hd : ∀ g, p.1.ownBlock = some g → v.ownBlock ≠ some g)
    (hlen : ps.length ≤ 1000000000000) (hbase : base ≤ w.heap.size)
    (h : ∀ v' w', OwnP w' base v' (ps ++ [p]) → w.grownBy w' v.ownBlock → K (a.put o.dst v') w') : if Region.wanted o (yielded ops a.tmps) = true then Oper.wp Try.prog o a w K Q else E := by
  have hw : Region.wanted o (yielded ops a.tmps) = true := by simp [Region.wanted, hgd]
  rw [if_pos hw]
  obtain ⟨i, hi, hz0, hz1, hz2⟩ := info_parts info_row
  refine wp_append_lies w s x 24 ho base 22 i (.slice none 0 0) 1 24 Try.underlying24 hi hz0 hz1 hz2 rfl (by decide) v ps.length (ps.map Prod.fst) hs hown.1 ⟨b, 0, none⟩ 1 1 [p.1] hx rfl ?_ ?_ (by decide) ?_ ?_ hbase w.heap.size rfl ?_
  · intro j u hu
    cases j with
    | zero => simp at hu; subst hu; simpa [Addr.add] using hnew
    | succ j => simp at hu
  · intro u hu; simp at hu; subst hu; exact slice_one hp
  · unfold maxLen; omega
  · omega
  · intro g cap w' h1 h2 h3 _
    refine h _ w' ⟨by simpa using h1, ?_⟩ h2
    intro q hq
    have hq' : RowOk w q ∧ ∀ g, q.1.ownBlock = some g → v.ownBlock ≠ some g := by
      rcases List.mem_append.1 hq with hq | hq
      · exact hown.2 q hq
      · rw [List.mem_singleton.1 hq]; exact ⟨hp, hd⟩
    refine ⟨hq'.1.kept h2 (fun k hk e => hq'.2 k e hk), fun g' hg e => ?_⟩
    simp only [Value.ownBlock, Option.some.injEq] at e
    subst e
    rcases h3 with h3 | h3
    · exact hq'.2 _ hg h3
    · have := hq'.1.2.2 _ hg; omega

/-- The call of slices.Concat at two rows that were laid side by side now, inside a region that draws its order. -/
theorem step_concat {ops : Array Oper} {a : Act} {w : World} {K : Act → World → Prop} {Q : Exit → Act → World → Prop} {E : Prop} (d x : Nat) (ty : TypeId) (pos : String) (af : Array Edge)
    (v : Value) (ps : List Row) (hx : a.tmps.getD x undef = v) (h : RowsP w v ps) (hlen : (ps.flatMap Prod.snd).length ≤ 1000000)
    (k : ∀ a' n' c' w', n' = (ps.flatMap Prod.snd).length → OwnI w' w.heap.size (.slice a' n' c') (ps.flatMap Prod.snd) → w.grownBy w' none → K (a.put (some d) (.slice a' n' c')) w') :
    if Region.wanted { dst := some d, op := .call { callee := .value (.func 64), args := #[.tmp x], argTypes := #[24] }, type := ty, pos := pos, after := af, guard := none } (yielded ops a.tmps) = true
    then Oper.wp Try.prog { dst := some d, op := .call { callee := .value (.func 64), args := #[.tmp x], argTypes := #[24] }, type := ty, pos := pos, after := af, guard := none } a w K Q else E := by
  have hw : Region.wanted { dst := some d, op := .call { callee := .value (.func 64), args := #[.tmp x], argTypes := #[24] }, type := ty, pos := pos, after := af, guard := none } (yielded ops a.tmps) = true := by simp [Region.wanted]
  rw [if_pos hw]
  have hc := concat_any v ps w h hlen
  have he : a.eval (.tmp x) = v := hx
  unfold Oper.wp execOp
  simp only [resolve, Deferred.ofValue, List.map_toArray, List.map_cons, List.map_nil, he]
  go_simp
  refine hc.mono ?_
  rintro e w1 ⟨v1, rfl, ho, hg⟩
  obtain ⟨a', c', rfl⟩ : ∃ a' c', v1 = .slice a' (ps.flatMap Prod.snd).length c' := by
    rcases ho.2 with ⟨hv, h0⟩ | ⟨g, cap, cur, hv, _⟩
    · exact ⟨none, 0, by rw [hv, h0]⟩
    · exact ⟨_, cap, hv⟩
  exact k a' _ c' w1 rfl ho hg

theorem RowOk.take {w : World} {a : Addr} {n cap k : Nat} {xs : List Int} (h : RowOk w (.slice (some a) n cap, xs)) (hk : k ≤ xs.length) : RowOk w (.slice (some a) k cap, xs.take k) := by
  obtain ⟨⟨a', cap', hv, hl, hb, hc⟩, hg, hf⟩ := h
  have hcap := hg.2 _ _ _ rfl
  dsimp only at hv hl hb hc hg hf hcap
  simp only [Value.slice.injEq] at hv
  obtain ⟨rfl, rfl, rfl⟩ := hv
  have hlen : (xs.take k).length = k := by rw [List.length_take]; omega
  refine ⟨⟨_, cap, by rw [hlen], by show (xs.take k).length ≤ maxLen; omega, fun x hx => hb x (List.mem_of_mem_take hx), ?_⟩, Good.some _ (by omega), hf⟩
  rcases hc with rfl | ⟨b, off, e, hc⟩
  · exact .inl (by simp)
  · refine .inr ⟨b, off, e, fun i hi => ?_⟩
    rw [hlen] at hi
    rw [hc i (by omega), List.getElem?_take, if_pos hi]

theorem RowOk.drop {w : World} {b off n cap k : Nat} {xs : List Int} (h : RowOk w (.slice (some ⟨b, off, none⟩) n cap, xs)) (hk : k ≤ xs.length) : RowOk w (.slice (some ⟨b, off + k, none⟩) (n - k) (cap - k), xs.drop k) := by
  obtain ⟨⟨a', cap', hv, hl, hb, hc⟩, hg, hf⟩ := h
  have hcap := hg.2 _ _ _ rfl
  dsimp only at hv hl hb hc hg hf hcap
  simp only [Value.slice.injEq] at hv
  obtain ⟨rfl, rfl, rfl⟩ := hv
  refine ⟨⟨_, cap - k, by rw [List.length_drop], by show (xs.drop k).length ≤ maxLen; rw [List.length_drop]; omega, fun x hx => hb x (List.mem_of_mem_drop hx), ?_⟩, Good.some _ (by omega), hf⟩
  rcases hc with rfl | ⟨b', off', e, hc⟩
  · exact .inl (by simp)
  · simp only [Option.some.injEq, Addr.mk.injEq, and_true] at e
    obtain ⟨rfl, rfl⟩ := e
    refine .inr ⟨b, off + k, rfl, fun i hi => ?_⟩
    rw [List.length_drop] at hi
    rw [show off + k + i = off + (k + i) by omega, hc (k + i) (by omega), List.getElem?_drop]

/-- Behind the last element: no element at all. -/
theorem RowOk.none_left {w : World} {b off n cap : Nat} {xs : List Int} (h : RowOk w (.slice (some ⟨b, off, none⟩) n cap, xs)) (m : Nat) : RowOk w (.slice (some ⟨b, off, none⟩) 0 m, []) :=
  ⟨⟨_, m, rfl, Nat.zero_le _, by simp, .inl rfl⟩, Good.some _ (Nat.zero_le _), h.2.2⟩

theorem rows_two {w w' : World} {u1 u2 : Value} {x1 x2 : List Int} {g : Nat} (h : w'.heap[g]? = some (.cells #[u1, u2] 22 (0, 0))) (hg : w.grownBy w' none) (h1 : RowOk w (u1, x1)) (h2 : RowOk w (u2, x2)) :
    RowsP w' (.slice (some ⟨g, 0, none⟩) 2 2) [(u1, x1), (u2, x2)] :=
  rows_blk _ 2 2 h rfl (by decide) rfl (by intro p hp; simp at hp; rcases hp with rfl | rfl; exact h1.same hg; exact h2.same hg)

/-- A word without the letter at a place. -/
def withoutL (xs : List Int) (i : Nat) : List Int := xs.take i ++ xs.drop (i + 1)
theorem wl_row {w1 w2 : World} {base k : Nat} {a1 : Option Addr} {n1 c1 : Nat} {u1 u2 : Value} {xs : List Int} (hb : Hid (∀ x ∈ xs, -9223372036854775808 ≤ x ∧ x ≤ 9223372036854775807))
    (h : Hid (OwnI w1 base (.slice a1 n1 c1) ([(u1, xs.take k), (u2, xs.drop (k + 1))].flatMap Prod.snd))) (g : w1.grownBy w2 none) : RowOk w2 (.slice a1 n1 c1, withoutL xs k) := by
  have h' : OwnI w1 base (.slice a1 n1 c1) (withoutL xs k) := by
    have := h.out
    simpa [withoutL] using this
  refine (h'.row fun x hx => hb.out x ?_).same g
  rcases List.mem_append.1 hx with hx | hx
  · exact List.mem_of_mem_take hx
  · exact List.mem_of_mem_drop hx

theorem wl_far {w1 wr : World} {o : Obj} {base : Nat} {v u : Value} {zs : List Int} {ps : List Row} (h : Hid (OwnI w1 (wr.alloc o).drew.heap.size v zs)) (ho : Hid (OwnP wr base u ps)) : ∀ g, v.ownBlock = some g → u.ownBlock ≠ some g := by
  intro g h1 h2
  have a1 := (h.out.fresh g h1).1
  have a2 := (ho.out.fresh g h2).2
  have : (wr.alloc o).drew.heap.size = wr.heap.size + 1 := by show (wr.heap.push o).size = _; simp
  omega

def dropsL (xs : List Int) : List (List Int) := if validW xs then ascL ((List.range xs.length).map (withoutL xs)) else []
/-- Slices of slices that a call makes. -/
def MadeP (rs : List (List Int)) (w : World) (e : Ending) (w' : World) : Prop := ∃ v qs, e = .returned v ∧ OwnP w' w.heap.size v qs ∧ qs.map Prod.snd = rs ∧ w.grownBy w' none

end Go.Proofs.Ytoaoheblaidhmaa

namespace Go.Proofs.Ytoaoheblaidhmaa
open Go.RowKit
set_option linter.unusedVariables false

theorem rcopy_any (v : Value) (xs : List Int) (w : World) (h : RowOk w (v, xs)) (hl : xs.length ≤ 1000000) :
    Calls Try.prog 57 #[v] w (Made xs w) := by
  have H := Lib.hid h
  obtain ⟨⟨a, cap, hv, -, -, -⟩, -, -⟩ := h
  simp only at hv
  subst hv
  go_enter Try.func57, Try.ntmps57
  go_wp2_with (at_builtin; refine app_ints rfl _ _ rfl w.heap.size _ [] rfl (OwnI.nil _ _) _ xs rfl H.out.1 H.out.2.1 (by simp; omega) (Nat.le_refl _) ?_)
  intro v' w1 ho hg
  have HO := Lib.hid ho; have HG := Lib.hid hg
  clear ho hg
  go_wp2_with fail
  go_ret
  exact ⟨_, rfl, HO.out, HG.out⟩

/-- Rows that a call returns. -/
def GotP (rs : List (List Int)) (w : World) (e : Ending) (w' : World) : Prop := ∃ v qs, e = .returned v ∧ RowsP w' v qs ∧ Good v ∧ qs.map Prod.snd = rs ∧ w.grownBy w' none

theorem snd_take (ps : List Row) (k : Nat) (h : k < ps.length) : (ps.take (k + 1)).map Prod.snd = (ps.take k).map Prod.snd ++ [(ps[k]).2] := by rw [List.take_succ_eq_append_getElem h, List.map_append]; rfl

theorem sameall_any (va vb : Value) (ps qs : List Row) (w : World) (h : RowsP w va ps) (h' : RowsP w vb qs) :
    Calls Try.prog 50 #[va, vb] w fun e w' => e = .returned (.bool (ps.map Prod.snd == qs.map Prod.snd)) ∧ Drew w w' := by
  obtain ⟨a, cap, rfl, hl, hc, hr⟩ := h
  obtain ⟨a', cap', rfl, hl1, hc', hr'⟩ := h'
  unfold maxLen at hl hl1
  have HR := Lib.hid hr; have HR' := Lib.hid hr'
  clear hr hr'
  by_cases h3 : ps.length = qs.length
  · have H3 := Lib.hid h3
    have h4 : ((ps.length : Int) != (qs.length : Int)) = false := by simp [h3]
    have hle : ps.length ≤ qs.length := by omega
    clear h3
    go_enter Try.func50, Try.ntmps50
    go_wp2_with fail
    go_loopw [5] (fun i wr => ∃ k n : Nat, k ≤ ps.length ∧ i = .int .i64 k ∧ Hid ((ps.take k).map Prod.snd = (qs.take k).map Prod.snd) ∧ wr = w.drewN n) (fun i _ => ps.length - (intOf i).toNat)
    case atStart => exact ⟨0, 0, Nat.zero_le _, rfl, Lib.hid (by simp), rfl⟩
    case round =>
      obtain ⟨k, n, hk, rfl, HA, rfl⟩ := hrel
      by_cases hlt : k < ps.length
      · have hlt' : k < qs.length := by omega
        obtain ⟨b, off, rfl, hx⟩ := RowsP.at hc hlt
        obtain ⟨b', off', rfl, hx'⟩ := RowsP.at hc' hlt'
        have h1 : (k : Int) < (ps.length : Int) := by omega
        have h2 : (k : Int) < (qs.length : Int) := by omega
        have R1 := Lib.hid (HR.out _ (List.getElem_mem hlt)); have R2 := Lib.hid (HR'.out _ (List.getElem_mem hlt'))
        have HX : Hid ((ps.take (k + 1)).map Prod.snd = (ps.take k).map Prod.snd ++ [(ps[k]).2]) := Lib.hid (snd_take ps k hlt)
        have HY : Hid ((qs.take (k + 1)).map Prod.snd = (qs.take k).map Prod.snd ++ [(qs[k]).2]) := Lib.hid (snd_take qs k hlt')
        have HN : Hid ((ps[k]).2 ≠ (qs[k]).2 → (ps.map Prod.snd == qs.map Prod.snd) = false) := Lib.hid (by
          intro hne; rw [beq_eq_false_iff_ne]; intro e
          have := congrArg (fun l => l[k]?) e
          simp only [List.getElem?_map, List.getElem?_eq_getElem hlt, List.getElem?_eq_getElem hlt', Option.map_some, Option.some.injEq] at this
          exact hne this)
        clear hc hc'
        generalize ps[k] = p at *
        generalize qs[k] = q at *
        by_cases hp : p.2 = q.2
        · have h3 : (p.2 == q.2) = true := by simp [hp]
          have HP := Lib.hid hp
          clear hp
          go_wp2_with fail
          go_big_quiet ((go_at_call 19; exact (same_any _ _ _ _ _ (R1.out.same (grown_drewN _ _ none)).1 (R2.out.same (grown_drewN _ _ none)).1).mono (fun _ _ ⟨he, hd⟩ => ⟨he, by obtain ⟨m, rfl⟩ := hd; exact ⟨_ + m, by simp [Nat.add_assoc]; rfl⟩⟩)))
          go_wp2_with fail
          go_roundw
          case rel => exact ⟨k + 1, _, by omega, by go_num, Lib.hid (by rw [HX.out, HY.out, HA.out, HP.out]), rfl⟩
          case measure => simp [intOf]; omega
        · have h3 : (p.2 == q.2) = false := by simp [hp]
          have HP := Lib.hid (HN.out hp)
          clear hp
          go_wp2_with fail
          go_big_quiet ((go_at_call 19; exact (same_any _ _ _ _ _ (R1.out.same (grown_drewN _ _ none)).1 (R2.out.same (grown_drewN _ _ none)).1).mono (fun _ _ ⟨he, hd⟩ => ⟨he, by obtain ⟨m, rfl⟩ := hd; exact ⟨_ + m, by simp [Nat.add_assoc]; rfl⟩⟩)))
          go_wp2_with fail
          go_ret
          exact ⟨ret_bool HP.out.symm, (Drew.mk _ _).trans (Drew.mk _ _)⟩
      · clear hc hc'
        have h1 : ¬ (k : Int) < (ps.length : Int) := by omega
        go_wp2_with fail
        go_ret
        exact ⟨ret_bool (by have ha := HA.out; have h3 := H3.out; rw [List.take_of_length_le (by omega), List.take_of_length_le (by omega)] at ha; rw [ha]; simp), Drew.mk _ _⟩
  · have h4 : ((ps.length : Int) != (qs.length : Int)) = true := by simp; omega
    have HN : Hid ((ps.map Prod.snd == qs.map Prod.snd) = false) := Lib.hid (by
      rw [beq_eq_false_iff_ne]; intro e
      have := congrArg List.length e
      simp at this
      exact h3 this)
    clear hc hc' h3
    go_enter Try.func50, Try.ntmps50
    go_wp2_with fail
    go_ret
    exact ⟨ret_bool HN.out.symm, Drew.refl _⟩

end Go.Proofs.Ytoaoheblaidhmaa
