/- Drops. -/
import Derived.Test.YtaenkbcclgpphaaAs
import Derived.Test.YtaenkbcclgpphaaWc
import Derived.Test.YtaenkbcclgpphaaCn
namespace Go.Proofs.Ytaenkbcclgpphaa
open Go.RowKit
set_option linter.unusedVariables false

/-- One more row, inside a region that draws its order. -/
theorem step_app_row {ops : Array Oper} {o : Oper} {a : Act} {w : World} {K : Act → World → Prop} {Q : Exit → Act → World → Prop} {E : Prop} (hgd : o.guard = none) (s x : Operand)
    (ho : o.op = .call { callee := .builtin .append, args := #[s, x], argTypes := #[35, 35] }) (base : Nat) (v : Value) (ps : List Row) (hs : a.eval s = v)
    (hown : OwnP w base v ps) (b : Nat) (p : Row) (hx : a.eval x = .slice (some ⟨b, 0, none⟩) 1 1) (hnew : w.cell? ⟨b, 0, none⟩ = some p.1) (hp : RowOk w p) (hd : ∀ g, p.1.ownBlock = some g → v.ownBlock ≠ some g)
    (hlen : ps.length ≤ 1000000000000) (hbase : base ≤ w.heap.size)
    (h : ∀ v' w', OwnP w' base v' (ps ++ [p]) → w.grownBy w' v.ownBlock → K (a.put o.dst v') w') : if Region.wanted o (yielded ops a.tmps) = true then Oper.wp Try.prog o a w K Q else E := by
  have hw : Region.wanted o (yielded ops a.tmps) = true := by simp [Region.wanted, hgd]
  rw [if_pos hw]
  obtain ⟨i, hi, hz0, hz1, hz2⟩ := info_parts info_row
  refine wp_append_lies w s x 35 ho base 22 i (.slice none 0 0) 1 24 Try.underlying35 hi hz0 hz1 hz2 rfl (by decide) v ps.length (ps.map Prod.fst) hs hown.1 ⟨b, 0, none⟩ 1 1 [p.1] hx rfl ?_ ?_ (by decide) ?_ ?_ hbase w.heap.size rfl ?_
  · intro j u hu
    cases j with
    | zero => simp at hu; subst hu; simpa [Addr.add] using hnew
    | succ j => simp at hu
  · intro u hu; simp at hu; subst hu; exact slice_one hp
  · unfold maxLen; omega
  · omega
  · intro g cap w' h1 h2 h3 _
    refine h _ w' ⟨by simpa using h1, ?_⟩ h2
    intro q hq
    have hq' : RowOk w q ∧ ∀ g, q.1.ownBlock = some g → v.ownBlock ≠ some g := by
      rcases List.mem_append.1 hq with hq | hq
      · exact hown.2 q hq
      · rw [List.mem_singleton.1 hq]; exact ⟨hp, hd⟩
    refine ⟨hq'.1.kept h2 (fun k hk e => hq'.2 k e hk), fun g' hg e => ?_⟩
    simp only [Value.ownBlock, Option.some.injEq] at e
    subst e
    rcases h3 with h3 | h3
    · exact hq'.2 _ hg h3
    · have := hq'.1.2.2 _ hg; omega

/-- The call of slices.Concat at two rows that were laid side by side now, inside a region that draws its order. -/
theorem step_concat {ops : Array Oper} {a : Act} {w : World} {K : Act → World → Prop} {Q : Exit → Act → World → Prop} {E : Prop} (d x : Nat) (ty : TypeId) (pos : String) (af : Array Edge)
    (v : Value) (ps : List Row) (hx : a.tmps.getD x undef = v) (h : RowsP w v ps) (hlen : (ps.flatMap Prod.snd).length ≤ 1000000)
    (k : ∀ a' n' c' w', n' = (ps.flatMap Prod.snd).length → OwnI w' w.heap.size (.slice a' n' c') (ps.flatMap Prod.snd) → w.grownBy w' none → K (a.put (some d) (.slice a' n' c')) w') :
    if Region.wanted { dst := some d, op := .call { callee := .value (.func 59), args := #[.tmp x], argTypes := #[35] }, type := ty, pos := pos, after := af, guard := none } (yielded ops a.tmps) = true
    then Oper.wp Try.prog { dst := some d, op := .call { callee := .value (.func 59), args := #[.tmp x], argTypes := #[35] }, type := ty, pos := pos, after := af, guard := none } a w K Q else E := by
  have hw : Region.wanted { dst := some d, op := .call { callee := .value (.func 59), args := #[.tmp x], argTypes := #[35] }, type := ty, pos := pos, after := af, guard := none } (yielded ops a.tmps) = true := by simp [Region.wanted]
  rw [if_pos hw]
  have hc := concat_any v ps w h hlen
  have he : a.eval (.tmp x) = v := hx
  unfold Oper.wp execOp
  simp only [resolve, Deferred.ofValue, List.map_toArray, List.map_cons, List.map_nil, he]
  go_simp
  refine hc.mono ?_
  rintro e w1 ⟨v1, rfl, ho, hg⟩
  obtain ⟨a', c', rfl⟩ : ∃ a' c', v1 = .slice a' (ps.flatMap Prod.snd).length c' := by
    rcases ho.2 with ⟨hv, h0⟩ | ⟨g, cap, cur, hv, _⟩
    · exact ⟨none, 0, by rw [hv, h0]⟩
    · exact ⟨_, cap, hv⟩
  exact k a' _ c' w1 rfl ho hg

theorem RowOk.take {w : World} {a : Addr} {n cap k : Nat} {xs : List Int} (h : RowOk w (.slice (some a) n cap, xs)) (hk : k ≤ xs.length) : RowOk w (.slice (some a) k cap, xs.take k) := by
  obtain ⟨⟨a', cap', hv, hl, hb, hc⟩, hg, hf⟩ := h
  have hcap := hg.2 _ _ _ rfl
  dsimp only at hv hl hb hc hg hf hcap
  simp only [Value.slice.injEq] at hv
  obtain ⟨rfl, rfl, rfl⟩ := hv
  have hlen : (xs.take k).length = k := by rw [List.length_take]; omega
  refine ⟨⟨_, cap, by rw [hlen], by show (xs.take k).length ≤ maxLen; omega, fun x hx => hb x (List.mem_of_mem_take hx), ?_⟩, Good.some _ (by omega), hf⟩
  rcases hc with rfl | ⟨b, off, e, hc⟩
  · exact .inl (by simp)
  · refine .inr ⟨b, off, e, fun i hi => ?_⟩
    rw [hlen] at hi
    rw [hc i (by omega), List.getElem?_take, if_pos hi]

theorem RowOk.drop {w : World} {b off n cap k : Nat} {xs : List Int} (h : RowOk w (.slice (some ⟨b, off, none⟩) n cap, xs)) (hk : k ≤ xs.length) : RowOk w (.slice (some ⟨b, off + k, none⟩) (n - k) (cap - k), xs.drop k) := by
  obtain ⟨⟨a', cap', hv, hl, hb, hc⟩, hg, hf⟩ := h
  have hcap := hg.2 _ _ _ rfl
  dsimp only at hv hl hb hc hg hf hcap
  simp only [Value.slice.injEq] at hv
  obtain ⟨rfl, rfl, rfl⟩ := hv
  refine ⟨⟨_, cap - k, by rw [List.length_drop], by show (xs.drop k).length ≤ maxLen; rw [List.length_drop]; omega, fun x hx => hb x (List.mem_of_mem_drop hx), ?_⟩, Good.some _ (by omega), hf⟩
  rcases hc with rfl | ⟨b', off', e, hc⟩
  · exact .inl (by simp)
  · simp only [Option.some.injEq, Addr.mk.injEq, and_true] at e
    obtain ⟨rfl, rfl⟩ := e
    refine .inr ⟨b, off + k, rfl, fun i hi => ?_⟩
    rw [List.length_drop] at hi
    rw [show off + k + i = off + (k + i) by omega, hc (k + i) (by omega), List.getElem?_drop]

/-- Behind the last element: no element at all. -/
theorem RowOk.none_left {w : World} {b off n cap : Nat} {xs : List Int} (h : RowOk w (.slice (some ⟨b, off, none⟩) n cap, xs)) (m : Nat) : RowOk w (.slice (some ⟨b, off, none⟩) 0 m, []) :=
  ⟨⟨_, m, rfl, Nat.zero_le _, by simp, .inl rfl⟩, Good.some _ (Nat.zero_le _), h.2.2⟩

theorem rows_two {w w' : World} {u1 u2 : Value} {x1 x2 : List Int} {g : Nat} (h : w'.heap[g]? = some (.cells #[u1, u2] 22 (0, 0))) (hg : w.grownBy w' none) (h1 : RowOk w (u1, x1)) (h2 : RowOk w (u2, x2)) :
    RowsP w' (.slice (some ⟨g, 0, none⟩) 2 2) [(u1, x1), (u2, x2)] :=
  rows_blk _ 2 2 h rfl (by decide) rfl (by intro p hp; simp at hp; rcases hp with rfl | rfl; exact h1.same hg; exact h2.same hg)

/-- A word without the letter at a place. -/
def withoutL (xs : List Int) (i : Nat) : List Int := xs.take i ++ xs.drop (i + 1)
theorem wl_row {w1 w2 : World} {base k : Nat} {a1 : Option Addr} {n1 c1 : Nat} {u1 u2 : Value} {xs : List Int} (hb : Hid (∀ x ∈ xs, -9223372036854775808 ≤ x ∧ x ≤ 9223372036854775807))
    (h : Hid (OwnI w1 base (.slice a1 n1 c1) ([(u1, xs.take k), (u2, xs.drop (k + 1))].flatMap Prod.snd))) (g : w1.grownBy w2 none) : RowOk w2 (.slice a1 n1 c1, withoutL xs k) := by
  have h' : OwnI w1 base (.slice a1 n1 c1) (withoutL xs k) := by
    have := h.out
    simpa [withoutL] using this
  refine (h'.row fun x hx => hb.out x ?_).same g
  rcases List.mem_append.1 hx with hx | hx
  · exact List.mem_of_mem_take hx
  · exact List.mem_of_mem_drop hx

theorem wl_far {w1 wr : World} {o : Obj} {base : Nat} {v u : Value} {zs : List Int} {ps : List Row} (h : Hid (OwnI w1 (wr.alloc o).drew.heap.size v zs)) (ho : Hid (OwnP wr base u ps)) : ∀ g, v.ownBlock = some g → u.ownBlock ≠ some g := by
  intro g h1 h2
  have a1 := (h.out.fresh g h1).1
  have a2 := (ho.out.fresh g h2).2
  have : (wr.alloc o).drew.heap.size = wr.heap.size + 1 := by show (wr.heap.push o).size = _; simp
  omega

def dropsL (xs : List Int) : List (List Int) := if validW xs then ascL ((List.range xs.length).map (withoutL xs)) else []
/-- Slices of slices that a call makes. -/
def MadeP (rs : List (List Int)) (w : World) (e : Ending) (w' : World) : Prop := ∃ v qs, e = .returned v ∧ OwnP w' w.heap.size v qs ∧ qs.map Prod.snd = rs ∧ w.grownBy w' none

set_option maxRecDepth 100000 in
set_option maxHeartbeats 2000000 in
theorem drops_any (v : Value) (xs : List Int) (w : World) (h : RowOk w (v, xs)) :
    Calls Try.prog 31 #[v] w (MadeP (dropsL xs) w) := by
  have H := Lib.hid h
  obtain ⟨⟨a, cap, hv, hl, hb, hc⟩, hgood, -⟩ := h
  simp only at hv
  subst hv
  unfold maxLen at hl
  cases h1 : validW xs
  · clear hc
    go_enter Try.func31, Try.ntmps31
    go_wp2_with (go_at_call 17; refine (validW_any _ _ _ H.out.1).mono ?_; rintro e w' ⟨rfl, rfl⟩)
    go_ret
    exact ⟨_, [], rfl, OwnP.nil _ _, by simp [dropsL, h1], grown_refl _ _⟩
  · have h12 := (validW_le h1).1
    have HR : Hid (dropsL xs = ascL ((List.range xs.length).map (withoutL xs))) := Lib.hid (by simp [dropsL, h1])
    have HB := Lib.hid hb
    have H1 := Lib.hid h1
    clear hb h1
    go_enter Try.func31, Try.ntmps31
    go_wp2_with fail
    refine (validW_any _ _ _ H.out.1).mono ?_; rintro e w' ⟨rfl, rfl⟩
    rw [H1.out]
    go_wp2_with fail
    go_loopw [3, 10] (fun v i wr => ∃ (k : Nat) (ps : List Row), i = .int .i64 k ∧ k ≤ xs.length ∧ ps.length = k ∧ Hid (ps.map Prod.snd = (List.range k).map (withoutL xs)) ∧ Hid (OwnP wr w'.heap.size v ps) ∧ Hid (w'.grownBy wr none)) (fun _ i _ => xs.length - (intOf i).toNat)
    case atStart => exact ⟨0, [], rfl, Nat.zero_le _, rfl, Lib.hid (by simp), Lib.hid (OwnP.nil _ _), Lib.hid (grown_refl _ _)⟩
    case round =>
      obtain ⟨k, ps, rfl, hk, hlp, hm, ho, hg⟩ := hrel
      by_cases hlt : k < xs.length
      · obtain ⟨b, off, rfl, -⟩ := Ints.at hc hlt
        clear hc
        have hR := H.out.same hg.out
        have r1 := RowOk.take hR hk
        have hs1 := hg.out.size
        have h1 : (k : Int) < (xs.length : Int) := by omega
        have h2 : (k : Int) + 1 ≤ (xs.length : Int) := by omega
        have hcap : xs.length ≤ cap := H.out.2.1.2 _ _ _ rfl
        have hkc1 : k ≤ cap := by omega
        have hkc2 : k + 1 ≤ cap := by omega
        have g1 : IntKind.i64.wrap ((k : Int) + 1) = (k : Int) + 1 := IntWalk.i64_in _ (by omega)
        have g2 : (0 : Int) ≤ (k : Int) + 1 := by omega
        have g3 : ((k : Int) + 1).toNat = k + 1 := by omega
        by_cases hkc : cap = k + 1
        · have hkl : xs.length = k + 1 := by omega
          have r2 : RowOk wr (.slice (some ⟨b, off, none⟩) 0 0, xs.drop (k + 1)) := by rw [List.drop_eq_nil_of_le (by omega)]; exact RowOk.none_left hR 0
          have R1 := Lib.hid r1; have R2 := Lib.hid r2
          clear r1 r2 hR hkl
          subst hkc
          have h3 : (k : Int) ≤ (k : Int) + 1 := by omega
          go_wp2_with fail
          go_region_law (first | (refine step_concat 22 21 _ _ _ _ [(.slice (some ⟨b, off, none⟩) k (k + 1), xs.take k), (.slice (some ⟨b, off, none⟩) 0 0, xs.drop (k + 1))] rfl (rows_two (heap_new _ rfl) (grown_trans (World.grownBy_alloc _ _ none) (grown_drew _ none)) R1.out R2.out) (by simp; omega) ?_; intro a1 n1 c1 w1 hn1 hco hcg; have C1 := Lib.hid hn1; have C2 := Lib.hid hco; have C3 := Lib.hid hcg; clear hn1 hco hcg) | (refine step_app_row rfl (.tmp 13) (.tmp 23) rfl w'.heap.size _ ps rfl (ho.out.same (grown_trans (grown_trans (World.grownBy_alloc wr _ none) (grown_drew _ none)) (grown_trans C3.out (World.grownBy_alloc w1 _ none)))) w1.heap.size (.slice a1 n1 c1, withoutL xs k) rfl (cell_new rfl) (wl_row HB C2 (World.grownBy_alloc w1 _ none)) (wl_far C2 ho) (by omega) (grown_trans hg.out (grown_trans (grown_trans (World.grownBy_alloc wr _ none) (grown_drew _ none)) (grown_trans C3.out (World.grownBy_alloc w1 _ none)))).size ?_; intro v2 w2 ho2 hg2; have D1 := Lib.hid ho2; have D2 := Lib.hid (grown_then (grown_trans hg.out (grown_trans (grown_trans (World.grownBy_alloc wr _ none) (grown_drew _ none)) (grown_trans C3.out (World.grownBy_alloc w1 _ none)))) hg2 (fun j hj => .inl (ho.out.fresh j hj).1)); clear ho2 hg2))
          clear R1 R2 C1 C2 C3
          go_wp2_with fail
          go_roundw
          case rel => exact ⟨k + 1, ps ++ [(.slice a1 n1 c1, withoutL xs k)], by go_num, by omega, by simp [hlp], Lib.hid (by rw [List.map_append, hm.out, List.range_succ, List.map_append]; rfl), D1, D2⟩
          case measure => simp [intOf]; omega
        · have r2 := RowOk.drop hR hlt
          have R1 := Lib.hid r1; have R2 := Lib.hid r2
          clear r1 r2 hR
          go_wp2_with fail
          go_region_law (first | (refine step_concat 22 21 _ _ _ _ [(.slice (some ⟨b, off, none⟩) k cap, xs.take k), (.slice (some ⟨b, off + (k + 1), none⟩) (xs.length - (k + 1)) (cap - (k + 1)), xs.drop (k + 1))] rfl (rows_two (heap_new _ rfl) (grown_trans (World.grownBy_alloc _ _ none) (grown_drew _ none)) R1.out R2.out) (by simp; omega) ?_; intro a1 n1 c1 w1 hn1 hco hcg; have C1 := Lib.hid hn1; have C2 := Lib.hid hco; have C3 := Lib.hid hcg; clear hn1 hco hcg) | (refine step_app_row rfl (.tmp 13) (.tmp 23) rfl w'.heap.size _ ps rfl (ho.out.same (grown_trans (grown_trans (World.grownBy_alloc wr _ none) (grown_drew _ none)) (grown_trans C3.out (World.grownBy_alloc w1 _ none)))) w1.heap.size (.slice a1 n1 c1, withoutL xs k) rfl (cell_new rfl) (wl_row HB C2 (World.grownBy_alloc w1 _ none)) (wl_far C2 ho) (by omega) (grown_trans hg.out (grown_trans (grown_trans (World.grownBy_alloc wr _ none) (grown_drew _ none)) (grown_trans C3.out (World.grownBy_alloc w1 _ none)))).size ?_; intro v2 w2 ho2 hg2; have D1 := Lib.hid ho2; have D2 := Lib.hid (grown_then (grown_trans hg.out (grown_trans (grown_trans (World.grownBy_alloc wr _ none) (grown_drew _ none)) (grown_trans C3.out (World.grownBy_alloc w1 _ none)))) hg2 (fun j hj => .inl (ho.out.fresh j hj).1)); clear ho2 hg2))
          clear R1 R2 C1 C2 C3
          go_wp2_with fail
          go_roundw
          case rel => exact ⟨k + 1, ps ++ [(.slice a1 n1 c1, withoutL xs k)], by go_num, by omega, by simp [hlp], Lib.hid (by rw [List.map_append, hm.out, List.range_succ, List.map_append]; rfl), D1, D2⟩
          case measure => simp [intOf]; omega
      · clear hc
        have e1 : k = xs.length := by omega
        have HQ := Lib.hid (asc_any _ _ _ _ ho.out (by omega))
        go_wp2_with fail
        refine HQ.out.mono ?_
        clear HQ
        rintro e w1 ⟨v2, qs, rfl, ho2, hq, hg2, -⟩
        have D1 := Lib.hid ho2; have D2 := Lib.hid hq; have D3 := Lib.hid hg2
        clear ho2 hq hg2
        go_wp2_with fail
        go_ret
        exact ⟨_, qs, rfl, D1.out, by rw [D2.out, HR.out, hm.out, e1], grown_then hg.out D3.out (fun j hj => .inl (ho.out.fresh j hj).1)⟩

end Go.Proofs.Ytaenkbcclgpphaa
