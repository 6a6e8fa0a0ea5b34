/- hilbert.minimal: the minimal vectors of a kind. -/
import Derived.Test.YtgcfafjgaifmiaaEh
namespace Go.Proofs.Ytgcfafjgaifmiaa
open Go.RowKit Go.Shelf
set_option linter.unusedVariables false
attribute [local go_sem] Oper.semAt_some

def goodB (ms : List Row) (bs : List Int) (cnt : List Int → Bool) (x : List Int) : Bool := solB ms bs x && cnt x
def MinTo (w : World) (L : List (List Int)) (e : Ending) (w' : World) : Prop := ∃ v qs, e = .returned (.tuple #[v, .int .i64 0]) ∧ MatO w' w.heap.size v qs ∧ qs.map Prod.snd = L ∧ w.grownBy w' none
theorem minL_len (good : List Int → Bool) (xs : List (List Int)) : (minL good xs).length ≤ xs.length := by
  have key : ∀ (l acc : List (List Int)), (l.foldl (minStep good) acc).length ≤ acc.length + l.length := by
    intro l
    induction l with
    | nil => intro acc; simp
    | cons x l ih =>
      intro acc
      have h1 := ih (minStep good acc x)
      have h2 : (minStep good acc x).length ≤ acc.length + 1 := by
        unfold minStep
        split <;> simp
      simp only [List.foldl_cons, List.length_cons]
      omega
  have := key xs []
  simpa [minL] using this
/-- Between two rounds: what has been found lies in rows of its own. -/
structure MinI (w0 : World) (ob bf c : Nat) (good : List Int → Bool) (xs : List (List Int)) (W : World) : Prop where
  grow : w0.grownBy W (some ob)
  out : ∃ vo qs, Boxed W ob 23 vo ∧ MatO W (bf + 1) vo qs ∧ qs.map Prod.snd = minL good xs ∧ ∀ q ∈ qs, VecOk c q.2
theorem MinI.kept {w0 W W' : World} {ob bf c : Nat} {good : List Int → Bool} {xs : List (List Int)} {row : Option Nat} (h : MinI w0 ob bf c good xs W) (hob : ob < w0.heap.size) (g : W.grownBy W' row) (hr : ∀ k, row = some k → w0.heap.size ≤ k ∧ k ≤ bf) : MinI w0 ob bf c good xs W' := by
  obtain ⟨hg, vo, qs, h1, h2, h3, h4⟩ := h
  refine ⟨grown_then hg g (fun j hj => .inl (hr j hj).1), vo, qs, h1.kept g (fun e => ?_), h2.kept g (fun k hk => by have := (hr k hk).2; omega), h3, h4⟩
  have := (hr ob e.symm).1
  omega
theorem mat_cells {w : World} {base : Nat} {v : Value} {qs : List Row} (h : MatO w base v qs) : ∀ (j : Nat) (o : Obj), v.ownBlock = some j → w.heap[j]? = some o → o.isCells = true := by
  intro j o hj ho
  rcases h.own.1.2 with ⟨h', _⟩ | ⟨g, cap, cur, h', _, hb, _⟩
  · rw [h'] at hj; cases hj
  · rw [h'] at hj
    simp only [Value.ownBlock, Option.some.injEq] at hj
    subst hj
    rw [hb] at ho
    cases ho
    rfl
/-- One more row: the builtin's run, and what is known behind it. -/
theorem push_run {W5 : World} {base H : Nat} {a5 ao : Option Addr} {n5 c5 co : Nat} {qs : List Row} {x : List Int} (hm : MatO W5 base (.slice ao qs.length co) qs) (hq : OwnI W5 H (.slice a5 n5 c5) x) (hb : base ≤ H) (hx : ∀ z ∈ x, -9223372036854775808 ≤ z ∧ z ≤ 9223372036854775807)
    (hf : ∀ g, (Value.slice a5 n5 c5).ownBlock = some g → (Value.slice ao qs.length co).ownBlock ≠ some g ∧ ∀ p ∈ qs, p.1.ownBlock ≠ some g) (hl : qs.length ≤ 1000000000) (hs : base ≤ W5.heap.size) :
    ∃ g6 c6 w6, (Builtin.append_ #[23, 23] 23 #[.slice ao qs.length co, .slice (some ⟨W5.heap.size, 0, none⟩) 1 1]).run Try.prog (W5.alloc (.cells #[.slice a5 n5 c5] 22)) = .ok (.slice (some ⟨g6, 0, none⟩) (qs.length + 1) c6) w6 ∧
      MatO w6 base (.slice (some ⟨g6, 0, none⟩) (qs.length + 1) c6) (qs ++ [(.slice a5 n5 c5, x)]) ∧ (W5.alloc (.cells #[.slice a5 n5 c5] 22)).grownBy w6 (Value.slice ao qs.length co).ownBlock := by
  obtain ⟨i0, hi, hz0, hz1, hz2⟩ := info_parts info_row
  have hg := World.grownBy_alloc W5 (.cells #[.slice a5 n5 c5] 22) none
  have hm1 := hm.same hg
  have hq1 : OwnI (W5.alloc (.cells #[.slice a5 n5 c5] 22)) H (.slice a5 n5 c5) x := hq.kept hg (by simp)
  obtain ⟨g6, c6, w6, hrun, hown, hgr, hblk, -⟩ := run_append_lies (P := Try.prog) (w := W5.alloc (.cells #[.slice a5 n5 c5] 22)) 23 23 base 22 i0 (.slice none 0 0) 1 24 Try.underlying23 hi hz0 hz1 hz2 rfl (by decide) (.slice ao qs.length co) qs.length (qs.map Prod.fst) hm1.own.1 ⟨W5.heap.size, 0, none⟩ 1 1 [.slice a5 n5 c5] rfl (cell_one_new _ _ _) (by simp [Value.oneCell']) (by omega) (by unfold maxLen; omega) (by omega) (Nat.le_trans hs hg.size) _ rfl
  have hsz : (W5.alloc (.cells #[.slice a5 n5 c5] 22)).heap.size = W5.heap.size + 1 := by show (W5.heap.push _).size = _; simp
  have hop : OwnP w6 base (.slice (some ⟨g6, 0, none⟩) (qs.length + 1) c6) (qs ++ [(.slice a5 n5 c5, x)]) := by
    refine ⟨by simpa using hown, fun p hp => ?_⟩
    have hp2 : RowOk (W5.alloc (.cells #[.slice a5 n5 c5] 22)) p ∧ (∀ g, p.1.ownBlock = some g → (Value.slice ao qs.length co).ownBlock ≠ some g) ∧ ∀ g, p.1.ownBlock = some g → g < W5.heap.size := by
      rcases List.mem_append.1 hp with hp | hp
      · exact ⟨(hm1.own.2 p hp).1, (hm1.own.2 p hp).2, fun g e => ((hm.rows p hp).fresh g e).2⟩
      · rw [List.mem_singleton.1 hp]; exact ⟨hq1.row hx, fun g e => (hf g e).1, fun g e => (hq.fresh g e).2⟩
    refine ⟨hp2.1.kept hgr (fun k hk e => hp2.2.1 k e hk), fun g e e2 => ?_⟩
    simp only [Value.ownBlock, Option.some.injEq] at e2
    subst e2
    rcases hblk with h | h
    · exact hp2.2.1 _ e h
    · have := hp2.2.2 _ e
      omega
  exact ⟨g6, c6, w6, hrun, MatO.push hm1 (hq1.mono hb) hf hop hgr, hgr⟩
theorem stepIn_append {F : Fence} {n : Nat} {ops : Array Oper} {o : Oper} {a : Act} {w : World} {K : Act → World → Prop} {Q : Exit → Act → World → Prop} {E : Prop} (hgd : o.guard = none) (s x : Operand) (t : TypeId)
    (hop : o.op = .call { callee := .builtin .append, args := #[s, x], argTypes := #[t, t] }) {vs vx v6 : Value} {w6 : World} (hs : a.eval s = vs) (hx : a.eval x = vx) (hrun : (Builtin.append_ #[t, t] o.type #[vs, vx]).run Try.prog w = .ok v6 w6) (h : K (a.put o.dst v6) w6) :
    if Region.wanted o (yielded ops a.tmps) = true then Oper.wpIn F n Try.prog o a w K Q else E := by
  have hw : Region.wanted o (yielded ops a.tmps) = true := by simp [Region.wanted, hgd]
  rw [if_pos hw]
  unfold Oper.wpIn
  refine ⟨?_, ?_⟩
  · simp [Oper.about, hop, resolve, Target.leads, Sem.run_pure]
  · rw [Oper.semAt_plain F _ _ (by rw [hop]; intro c hc'; cases hc')]
    simp [execOp, hop, resolve, invoke, builtin, hs, hx, hrun, Result.andThen]
    exact h
theorem any_congr {α : Type} {l : List α} {f g : α → Bool} (h : ∀ x ∈ l, f x = g x) : l.any f = l.any g := by
  induction l with
  | nil => rfl
  | cons a l ih => rw [List.any_cons, List.any_cons, h a (by simp), ih (fun x hx => h x (by simp [hx]))]
theorem round_end {w2 W W1 W4 W5 w6 : World} {ob bf c qn co c5 g6 c6 : Nat} {ao a5 : Option Addr} {o : Obj} {good : List Int → Bool} {pre : List (List Int)} {x : List Int} {qs : List Row} (hob : ob < w2.heap.size) (hbf : bf < W.heap.size) (hob2 : ob < bf + 1) (G4 : W.grownBy W4 none) (G5 : W4.grownBy W5 none)
    (G6 : (W5.alloc o).grownBy w6 (Value.slice ao qn co).ownBlock) (GR : w2.grownBy W1 (some ob)) (G14 : W1.grownBy W4 none) (HQ1 : MatO W1 (bf + 1) (.slice ao qn co) qs) (HQ5 : MatO W5 (bf + 1) (.slice ao qn co) qs)
    (HB6 : Boxed w6 ob 23 (.slice ao qn co)) (HM6 : MatO w6 (bf + 1) (.slice (some ⟨g6, 0, none⟩) (qn + 1) c6) (qs ++ [(.slice a5 c c5, x)])) (HN : minL good (pre ++ [x]) = qs.map Prod.snd ++ [x]) (HB4 : ∀ q ∈ qs, VecOk c q.2) (HX : VecOk c x) (hw2 : w2.heap.size ≤ bf) :
    KeepsFrom w2.heap.size W (w6.setCell ⟨ob, 0, none⟩ (.slice (some ⟨g6, 0, none⟩) (qn + 1) c6)) ∧ KpB bf W (w6.setCell ⟨ob, 0, none⟩ (.slice (some ⟨g6, 0, none⟩) (qn + 1) c6)) ∧ MinI w2 ob bf c good (pre ++ [x]) (w6.setCell ⟨ob, 0, none⟩ (.slice (some ⟨g6, 0, none⟩) (qn + 1) c6)) := by
  have hA := World.grownBy_alloc W5 o none
  have g5 : W.grownBy (W5.alloc o) none := grown_trans (grown_trans G4 G5) hA
  have hcel := mat_cells (HQ5.same hA)
  have hset : w6.grownBy (w6.setCell ⟨ob, 0, none⟩ (.slice (some ⟨g6, 0, none⟩) (qn + 1) c6)) (some ob) := grown_set w6 _ _
  have hfr : ∀ j, (Value.slice ao qn co).ownBlock = some j → bf + 1 ≤ j := fun j hj => (HQ1.own.fresh j hj).1
  refine ⟨?_, ?_, ?_, _, qs ++ [(.slice a5 c c5, x)], HB6.set _, HM6.kept hset (by rintro k ⟨⟩; exact hob2), ?_, ?_⟩
  · exact (((KeepsOthers.of_grownBy g5 (by simp)).trans (KeepsOthers.of_grownBy G6 hcel)).trans (KeepsOthers.setCell _ _ _)).from _
  · have h1 : bf < (W5.alloc o).heap.size := Nat.lt_of_lt_of_le hbf g5.size
    have e1 := g5.block bf hbf (by simp)
    have e2 := G6.block bf h1 (fun e => by have := hfr bf e.symm; omega)
    have e3 := hset.block bf (Nat.lt_of_lt_of_le h1 G6.size) (fun e => by cases e; omega)
    exact e3.trans (e2.trans e1)
  · refine grown_trans (grown_then (grown_then GR (grown_trans (grown_trans G14 G5) hA) (by simp)) G6 (fun j hj => .inl ?_)) hset
    have := hfr j hj
    omega
  · rw [HN, List.map_append]; rfl
  · intro q hq
    rcases List.mem_append.1 hq with h | h
    · exact HB4 q h
    · rw [List.mem_singleton.1 h]; exact HX
theorem vectors_any (x y : Int) (W : World) :
    Calls Try.prog 51 #[.int .i64 x, .int .i64 y] W fun e w' => e = .returned (.func (.func 64) #[] #[.pointer (some ⟨W.heap.size, 0, none⟩), .pointer (some ⟨W.heap.size + 1, 0, none⟩)]) ∧ (W.alloc (.cells #[.int .i64 x] 3)).alloc (.cells #[.int .i64 y] 3) = w' := by
  go_enter Try.func51, Try.ntmps51
  go_wp2_with fail
  go_ret
  exact ⟨rfl, rfl⟩
set_option maxRecDepth 100000 in
set_option maxHeartbeats 4000000 in
theorem minimal_any {r c mst fc : Nat} {cnt : List Int → Bool} {ms : List Row} {va vb : Value} {bs : List Int} {w : World} (hcn : CntOk fc cnt c) (hfe : ∀ args W, (callFunc fc args).run Try.prog W = .ok (.enter fc args) W) (h : RowsP w va ms) (hm : MatOkP r c ms) (hr : r ≤ 6) (hc : c ≤ 6) (hb : Ints w vb bs) (hbo : RightOk r bs) (hmst : mst ≤ 10) :
    Calls Try.prog 37 #[va, vb, .int .i64 (mst : Int), .func (.func fc) #[] #[]] w (MinTo w (minL (goodB ms bs cnt) (vecs c mst))) := by
  have HM := Lib.hid hm; have HA := Lib.hid h; have HB := Lib.hid hb; have HBO := Lib.hid hbo; have HCN := Lib.hid hcn
  obtain ⟨aa, capa, rfl, -⟩ : ∃ a cap, va = .slice a ms.length cap ∧ True := by obtain ⟨a, cap, h, -⟩ := h; exact ⟨a, cap, h, trivial⟩
  obtain ⟨ab, capb, hvb, -⟩ := id hb
  subst hvb
  have h0 : 0 < ms.length := by have := hm.1; have := hm.2.1; omega
  obtain ⟨b, off, a2, c2, rfl, hc0, -, -⟩ := h.row h0
  rw [(hm.2.2.2.2.2.2 _ (List.getElem_mem h0)).1, Nat.add_zero] at hc0
  have p1 : 0 < (ms.length : Int) := by omega
  have p2 : ¬ (mst : Int) < 0 := by omega
  have p3 : ¬ (10 : Int) < (mst : Int) := by omega
  have HC0 := Lib.hid hc0
  clear h hb hbo hm hcn hc0
  refine callsIn_wide.1 (callsIn_of_wp_marks (n := 20) Try.func37 rfl trivial (wpIn_wide.2 ?_) rfl)
  simp only [Try.ntmps37, List.size_toArray, List.length_cons, List.length_nil, Nat.reduceAdd, Nat.reduceSub, Array.replicate_succ, Array.replicate_zero, List.push_toArray, List.append_toArray, List.nil_append, List.cons_append]
  have d2 : decide ((mst : Int) < 0) = false := by simp
  have d3 : decide ((10 : Int) < (mst : Int)) = false := by simp; omega
  go_wp2_with fail
  generalize hwb : World.alloc (World.alloc (World.alloc _ _) _) _ = wb
  have hwg : w.grownBy wb none := by rw [← hwb]; exact grown_aft (grown_aft (World.grownBy_alloc w _ none))
  have hws : wb.heap.size = w.heap.size + 1 + 1 + 1 := by rw [← hwb]; show (((w.heap.push _).push _).push _).size = _; simp
  have hbx : Boxed wb w.heap.size 23 (.slice (some ⟨b, off, none⟩) ms.length capa) ∧ Boxed wb (w.heap.size + 1) 22 (.slice ab bs.length capb) ∧ Boxed wb (w.heap.size + 1 + 1) 25 (.func (.func fc) #[] #[]) := by
    rw [← hwb]
    exact ⟨heap_old _ (heap_old _ (heap_new _ rfl)), heap_old _ (heap_new _ (by show _ = (w.heap.push _).size; simp)), heap_new _ (by show _ = ((w.heap.push _).push _).size; simp)⟩
  have hc0 := hwg.cell HC0.out (by simp)
  have hx0 := hbx.1.cell; have hx1 := hbx.2.1.cell
  have WG := Lib.hid hwg; have WS := Lib.hid hws; have BX := Lib.hid hbx
  clear hwb hwg hws hbx
  refine (hcheck_any (HA.out.same WG.out) HM.out hr hc (HB.out.same WG.out) HBO.out).mono ?_
  rintro e w1 ⟨rfl, hw1⟩
  replace hw1 := hw1.symm
  subst hw1
  have hc1 : (wb.alloc (.cells #[.slice none 0 0] 23)).cell? ⟨b, off, none⟩ = some (.slice a2 c c2) := (World.grownBy_alloc wb _ none).cell hc0 (by simp)
  have hx2 : (wb.alloc (.cells #[.slice none 0 0] 23)).cell? ⟨w.heap.size, 0, none⟩ = some (.slice (some ⟨b, off, none⟩) ms.length capa) := (World.grownBy_alloc wb _ none).cell hx0 (by simp)
  clear hc0 hx0 hx1
  go_wp2_with fail
  generalize hwo : World.alloc _ _ = wo
  have hog : wb.grownBy wo none := by rw [← hwo]; exact World.grownBy_alloc _ _ none
  have hos : wo.heap.size = wb.heap.size + 1 := by rw [← hwo]; show (wb.heap.push _).size = _; simp
  have hob : Boxed wo wb.heap.size 23 (.slice none 0 0) := by rw [← hwo]; exact heap_new _ rfl
  have OG := Lib.hid hog; have OS := Lib.hid hos; have OB := Lib.hid hob
  clear hwo hog hos hob hc1 hx2
  refine (vectors_any _ _ _).mono ?_
  rintro e w2 ⟨rfl, hw2⟩
  have VG : Hid (wo.grownBy w2 none) := Lib.hid (by rw [← hw2]; exact grown_aft (World.grownBy_alloc _ _ none))
  have VS : Hid (w2.heap.size = wo.heap.size + 1 + 1) := Lib.hid (by rw [← hw2]; show ((wo.heap.push _).push _).size = _; simp)
  have VB : Hid (Boxed w2 wo.heap.size 3 (.int .i64 (c : Int)) ∧ Boxed w2 (wo.heap.size + 1) 3 (.int .i64 (mst : Int))) := Lib.hid (by
    rw [← hw2]
    exact ⟨heap_old _ (heap_new _ rfl), heap_new _ (by show _ = (wo.heap.push _).size; simp)⟩)
  clear hw2
  go_wp2_with fail
  obtain ⟨bf, hbf⟩ : ∃ bf, w2.heap.size + 2 = bf := ⟨_, rfl⟩
  have hob2 : wb.heap.size < w2.heap.size := by have := OS.out; have := VS.out; omega
  have hnb : wo.heap.size < w2.heap.size ∧ wb.heap.size < wo.heap.size := by have := OS.out; have := VS.out; omega
  have OB2 := Lib.hid (OB.out.kept VG.out (by simp))
  refine wpIn_wide.1 (range_law (n := 20) (gf := 64) (lb := #[.pointer (some ⟨wo.heap.size, 0, none⟩), .pointer (some ⟨wo.heap.size + 1, 0, none⟩)]) rfl (enters_of Try.func64 (by kernel_rfl) rfl)
    (fun _ : List Int => #[.slice (some ⟨bf, 0, none⟩) c c]) (fun _ => rfl) (KpB bf) (fun h k => h.trans k) ?kb (MinI w2 wb.heap.size bf c (goodB ms bs cnt))
    (fun pre x W => pre.length < (vecs c mst).length ∧ (x.length = c ∧ ∀ z ∈ x, 0 ≤ z ∧ z ≤ 1000) ∧ Buf W bf c c x)
    (fun pre x a' W => pre.length < (vecs c mst).length ∧ (x.length = c ∧ ∀ z ∈ x, 0 ≤ z ∧ z ≤ 1000) ∧ Buf W bf c c x ∧ ∃ xb, bf < xb ∧ Boxed W xb 22 (.slice (some ⟨bf, 0, none⟩) c c) ∧ (∀ vo, Boxed W wb.heap.size 23 vo → vo.ownBlock ≠ some xb) ∧ a' = { tmps := #[.slice (some ⟨b, off, none⟩) ms.length capa, .slice ab bs.length capb, .int .i64 (mst : Int), .func (.func fc) #[] #[], .pointer (some ⟨w.heap.size, 0, none⟩), .pointer (some ⟨w.heap.size + 1, 0, none⟩), undef, .pointer (some ⟨w.heap.size + 1 + 1, 0, none⟩), .slice none 0 0, .int .i64 0, .int .i64 0, .pointer (some ⟨wb.heap.size, 0, none⟩), .pointer (some ⟨xb, 0, none⟩), undef, .slice (some ⟨b, off, none⟩) ms.length capa, .slice ab bs.length capb, .int .i64 0, .int .i64 0, .bool false, undef, .int .i64 (mst : Int), .bool false, .bool false, .int .i64 (mst : Int), .bool false, .bool false, .slice (some ⟨b, off, none⟩) ms.length capa, .pointer (some ⟨b, off, none⟩), .slice a2 c c2, .int .i64 (c : Int), .int .i64 (mst : Int), .func (.func 64) #[] #[.pointer (some ⟨wo.heap.size, 0, none⟩), .pointer (some ⟨wo.heap.size + 1, 0, none⟩)], .slice (some ⟨bf, 0, none⟩) c c, undef, undef, undef, undef, undef, undef, undef, undef, undef, undef, undef, undef, undef, undef, undef, undef, undef, undef, undef, undef, undef, undef], defers := [] })
    (fun xs => xs = vecs c mst) ?hI ?hAx ?h0 ?hseq ?hassign ?hbody ?hdone)
  case kb =>
    intro W o'
    exact World.putObj_heap_other (by omega)
  case hI =>
    intro xs W o' h
    exact h.kept hob2 (grownBy_putObj' W _ o') (fun k hk => by cases hk; omega)
  case hAx =>
    rintro pre x a' W o' ⟨h1, h2, h3, xb, h4, h5, h6, h7⟩
    exact ⟨h1, h2, h3.blk (World.putObj_heap_other (by omega)), xb, h4, (World.putObj_heap_other (by omega)).trans h5, fun vo hv => h6 vo ((World.putObj_heap_other (by omega)).symm.trans hv), h7⟩
  case h0 =>
    intro W hg
    exact ⟨⟨hg.os, hg.tape, hg.output, hg.size, fun k hk _ => hg.block k hk (by simp)⟩, _, [], OB2.out.kept hg (by simp), MatO.nil _ _, rfl, by simp⟩
  case hseq =>
    intro W1 hg1 hs1 B hB hB1 hI0 hY
    refine callsIn_wide.2 ((vectors1_any (w2.heap.size + 1) bf c mst wo.heap.size (wo.heap.size + 1) (20 - 1 - 1) hc (by omega) (MinI w2 wb.heap.size bf c (goodB ms bs cnt)) B (fun xs A C h g => h.kept hob2 g (by simp)) (fun xs A C h g => h.kept hob2 g (fun k hk => by cases hk; omega)) hB (fun pre x W a1 a2 a3 a4 a5 => hY pre x W a1 ⟨a2, a3, a4⟩ a5) W1 (by omega) (fun xs A h => ⟨h.grow.cell VB.out.1.cell (by simp; omega), h.grow.cell VB.out.2.cell (by simp; omega)⟩) hI0 hB1).mono ?_)
    rintro e W' ⟨h1, h2, h3⟩
    exact ⟨h1, _, rfl, h2, h3⟩
  case hassign =>
    rintro l pre x W K hI ⟨h1, h2, h3⟩ hK
    have hlt := h3.lt
    gi_wp2
    refine hK _ _ ((KeepsOthers.alloc _ _).from _) ((World.grownBy_alloc W _ none).block bf hlt (by simp)) (hI.kept hob2 (World.grownBy_alloc W _ none) (by simp)) ⟨h1, h2, h3.same (World.grownBy_alloc W _ none) (by simp), W.heap.size, hlt, Boxed.new W _ _, fun vo hv e => ?_, rfl⟩
    obtain ⟨-, v1, qs, hb1, hm1, -, -⟩ := hI
    have h5 : Boxed (W.alloc (.cells #[.slice (some ⟨bf, 0, none⟩) c c] 22)) wb.heap.size 23 v1 := hb1.kept (World.grownBy_alloc W _ none) (by simp)
    have h6 : vo = v1 := by
      have := hv.cell.symm.trans h5.cell
      simpa using this
    subst h6
    have := (hm1.own.fresh _ e).2
    omega
  case hbody =>
    rintro l pre x a' W hI ⟨h1, h2, h3, xb, h4, h5, h6, rfl⟩
    have hdd : ∀ k : Nat, ((Fence.wide.inRound l).depth.isSome = true → 1 ≤ k) := fun k h => by cases h
    have g2 : wb.grownBy w2 none := grown_trans OG.out VG.out
    have ews := WS.out
    have bA := (BX.out.1.kept g2 (by simp)).kept hI.grow (by simp; omega)
    have bB := (BX.out.2.1.kept g2 (by simp)).kept hI.grow (by simp; omega)
    have bF := (BX.out.2.2.kept g2 (by simp)).kept hI.grow (by simp; omega)
    have gW : w.grownBy W none := grown_then (grown_trans WG.out g2) hI.grow (by rintro j ⟨⟩; exact .inl (by omega))
    clear ews
    have ca := bA.cell; have cb := bB.cell; have cf := bF.cell; have cx := h5.cell
    have hvx : VecOk c x := ⟨h2.1, fun z hz => by have := h2.2 z hz; omega⟩
    have hxi : Ints W (.slice (some ⟨bf, 0, none⟩) c c) x := h3.ints (fun z hz => by have := h2.2 z hz; omega)
    have HI := Lib.hid hI; have HBUF := Lib.hid h3; have HXB := Lib.hid h5; have HNO := Lib.hid h6; have HVX := Lib.hid hvx; have HXI := Lib.hid hxi; have GW := Lib.hid gW
    have BA := Lib.hid bA; have BB := Lib.hid bB; have BF := Lib.hid bF; have H2 := Lib.hid h2
    clear h2 hI h3 h5 h6 hvx hxi gW bA bB bF g2
    gi_wp2
    refine ⟨trivial, (CallsIn.inRound l (callsIn_wide.2 (hsolves_any (HA.out.same GW.out) HM.out hr hc (HB.out.same GW.out) HBO.out HXI.out HVX.out))).mono ?_⟩
    rintro e W1 ⟨rfl, hg1⟩
    have G1 := Lib.hid hg1
    clear hg1 ca cb cf cx
    cases hs : solB ms bs x with
    | false =>
      have HEND : Hid (KeepsFrom w2.heap.size W W1 ∧ KpB bf W W1 ∧ MinI w2 wb.heap.size bf c (goodB ms bs cnt) (pre ++ [x]) W1) := Lib.hid ⟨KeepsFrom.of_grownBy G1.out (by simp), G1.out.block bf HBUF.out.lt (by simp), by
        obtain ⟨hg, vo, qs, b1, b2, b3, b4⟩ := HI.out
        refine ⟨grown_then hg G1.out (by simp), vo, qs, b1.kept G1.out (by simp), b2.same G1.out, ?_, b4⟩
        rw [b3, minL_snoc]; unfold minStep goodB; rw [hs]; rfl⟩
      clear hs
      gi_wp2
      refine ⟨fun _ h => (by cases h), ?_⟩
      gi_wp2
      refine ⟨trivial, ?_⟩
      gi_wp2
      exact HEND.out
    | true =>
      have HS := Lib.hid hs
      have cf := (BF.out.kept G1.out (by simp)).cell; have cx := (HXB.out.kept G1.out (by simp)).cell
      have HXI1 := Lib.hid (HXI.out.same G1.out)
      clear hs
      gi_wp2
      refine ⟨trivial, ?_⟩
      gi_wp2
      refine (CallsIn.inRound l (callsIn_wide.2 (HCN.out _ _ _ HXI1.out HVX.out))).mono ?_
      rintro e W3 ⟨rfl, hw3⟩
      replace hw3 := hw3.symm
      subst hw3
      clear cf cx
      cases hcx : cnt x with
      | false =>
        have HEND : Hid (KeepsFrom w2.heap.size W W1 ∧ KpB bf W W1 ∧ MinI w2 wb.heap.size bf c (goodB ms bs cnt) (pre ++ [x]) W1) := Lib.hid ⟨KeepsFrom.of_grownBy G1.out (by simp), G1.out.block bf HBUF.out.lt (by simp), by
          obtain ⟨hg, vo, qs, b1, b2, b3, b4⟩ := HI.out
          refine ⟨grown_then hg G1.out (by simp), vo, qs, b1.kept G1.out (by simp), b2.same G1.out, ?_, b4⟩
          rw [b3, minL_snoc]; unfold minStep goodB; rw [hcx, Bool.and_false]; rfl⟩
        clear hcx
        gi_wp2
        refine ⟨trivial, ?_⟩
        gi_wp2
        exact HEND.out
      | true =>
        obtain ⟨hg, vo, qs, b1, b2, b3, b4⟩ := HI.out
        obtain ⟨ao, co, rfl⟩ := b2.slice
        have HQ := Lib.hid (b2.same G1.out); have HB3 := Lib.hid b3; have HB4 := Lib.hid b4; have HCX := Lib.hid hcx
        have HBO1 := Lib.hid (b1.kept G1.out (by simp))
        have HGR := Lib.hid (grown_then hg G1.out (by simp))
        have HH : Hid (Held W1 xb (.slice (some ⟨bf, 0, none⟩) c c, x)) := Lib.hid ⟨(HXB.out.kept G1.out (by simp)).cell, HXI1.out, Good.some _ (Nat.le_refl _), fun g hg => by
          simp only [Value.ownBlock, Option.some.injEq] at hg
          subst hg
          exact Nat.lt_of_lt_of_le HBUF.out.lt G1.out.size⟩
        have cO := HBO1.out.cell
        have HNX := Lib.hid (HNO.out _ b1)
        clear hcx hg b1 b2 b3 b4
        gi_wp2
        refine ⟨trivial, (CallsIn.inRound l (callsIn_wide.2 (contains_any _ qs xb _ _ HQ.out.rowsP HH.out))).mono ?_⟩
        rintro e W4 ⟨rfl, hg4⟩
        have G4 := Lib.hid (grown_trans G1.out hg4); have G14 := Lib.hid hg4
        have HAN : Hid (qs.any (fun q => leqB q.2 x) = (minL (goodB ms bs cnt) pre).any (fun y => leqI y x)) := Lib.hid (by
          rw [← HB3.out, List.any_map]
          apply any_congr
          intro q hq
          exact leqB_is hc (HB4.out q hq) HVX.out)
        clear hg4 cO
        cases han : qs.any (fun q => leqB q.2 x) with
        | true =>
          have HEND : Hid (KeepsFrom w2.heap.size W W4 ∧ KpB bf W W4 ∧ MinI w2 wb.heap.size bf c (goodB ms bs cnt) (pre ++ [x]) W4) := Lib.hid ⟨KeepsFrom.of_grownBy G4.out (by simp), G4.out.block bf HBUF.out.lt (by simp), by
            refine ⟨grown_then HGR.out G14.out (by simp), _, qs, HBO1.out.kept G14.out (by simp), HQ.out.same G14.out, ?_, HB4.out⟩
            rw [HB3.out, minL_snoc]; unfold minStep; rw [← HAN.out, han, Bool.not_true, Bool.and_false]; rfl⟩
          clear han
          gi_wp2
          exact HEND.out
        | false =>
          have HNEW : Hid (minL (goodB ms bs cnt) (pre ++ [x]) = qs.map Prod.snd ++ [x]) := Lib.hid (by
            rw [minL_snoc, ← HB3.out]; unfold minStep goodB; rw [HS.out, HCX.out, HB3.out, ← HAN.out, han]; rfl)
          have cO := (HBO1.out.kept G14.out (by simp)).cell; have fO := (HBO1.out.kept G14.out (by simp)).frozen
          have cx := (HXB.out.kept G4.out (by simp)).cell
          clear han
          have hmx : Try.prog.follows .mixedOrders = true := by kernel_rfl
          have HRX : Hid (RowOk W4 (.slice (some ⟨bf, 0, none⟩) c c, x)) := Lib.hid (HH.out.2.same G14.out)
          have HX1 : Hid (1 ≤ x.length ∧ x.length ≤ 1000000) := Lib.hid (by have := H2.out.1; have := HM.out.2.2.2.1; omega)
          gi_wp2
          have HQN : Hid (qs.length ≤ 1000000000) := Lib.hid (by
            have h7 := minL_len (goodB ms bs cnt) pre
            rw [← HB3.out, List.length_map] at h7
            have h8 := vecs_len c mst
            have h9 : (mst + 1) ^ c ≤ 11 ^ 6 := Nat.le_trans (Nat.pow_le_pow_left (by omega) c) (Nat.pow_le_pow_right (by decide) hc)
            have : (11 : Nat) ^ 6 = 1771561 := by decide
            omega)
          have HXR : Hid (∀ z ∈ x, -9223372036854775808 ≤ z ∧ z ≤ 9223372036854775807) := Lib.hid (fun z hz => by have := H2.out.2 z hz; omega)
          have HB4S : Hid (bf + 1 ≤ W4.heap.size) := Lib.hid (by have := HBUF.out.lt; have := G4.out.size; omega)
          have HOBF : Hid (wb.heap.size < bf + 1) := Lib.hid (by omega)
          have HVX1 : Hid (VecOk c x) := HVX
          refine wpIn_region_any hmx ?_
          change wpAnyIn _ _ _ _ _ _ _ _ _ (World.drew W4)
          refine wpAnyIn_ready (rs := [0, 1]) (by kernel_rfl) (by simp) ?_
          refine AllReadyIn.cons rfl (fun K hK => ?_) (AllReadyIn.cons rfl (fun K hK => ?_) AllReadyIn.nil)
          · go_simp
            refine hK _ _ ?_
            clear hK K
            refine wpAnyIn_ready (rs := [1]) (by kernel_rfl) (by simp) ?_
            refine AllReadyIn.cons rfl (fun K hK => ?_) AllReadyIn.nil
            go_simp
            refine hK _ _ ?_
            clear hK K
            refine wpAnyIn_ready (rs := [2]) (by kernel_rfl) (by simp) ?_
            refine AllReadyIn.cons rfl (fun K hK => ?_) AllReadyIn.nil
            go_simp
            gi_wp2_with (refine ⟨trivial, (CallsIn.inRound l (callsIn_wide.2 (cloneInts_any _ x _ (HRX.out.same (grown_drew _ _)) HX1.out.1 HX1.out.2))).mono ?_⟩; rintro e W5 ⟨v5, rfl, ho5, hg5⟩; obtain ⟨a5, c5, hv5⟩ := ownI_sl' ho5; rw [H2.out.1] at hv5; subst hv5; have HG5 := Lib.hid (grown_trans (grown_drew W4 none) hg5); have HQ5 := Lib.hid ((HQ.out.same G14.out).same HG5.out); obtain ⟨g6, c6, w6, hrun6, hm6, hg6⟩ := push_run (base := bf + 1) (H := W4.drew.heap.size) HQ5.out ho5 HB4S.out HXR.out (fun g hg => own_lt_of (HQ.out.same G14.out) (ho5.fresh g hg).1) HQN.out (Nat.le_trans HB4S.out HG5.out.size); have HM6 := Lib.hid hm6; have HG6 := Lib.hid hg6; have HR6 := Lib.hid hrun6; have HBO5 := Lib.hid (HBO1.out.kept (grown_trans G14.out HG5.out) (by simp)); have HBO5A := Lib.hid (HBO5.out.alloc (.cells #[.slice a5 c c5] 22)); have HBO6 := Lib.hid (HBO5A.out.kept hg6 (HBO5.out.not_row (by decide) HQ5.out.own.1)); have cO5 := HBO5.out.cell; have cO5A := HBO5A.out.cell; have cO6 := HBO6.out.cell; have fO6 := HBO6.out.frozen; clear ho5 hg5 hm6 hg6 hrun6)
            refine wpAnyIn_ready (rs := [3]) (by kernel_rfl) (by simp) ?_
            refine AllReadyIn.cons rfl (fun K hK => ?_) AllReadyIn.nil
            go_simp
            refine hK _ _ ?_
            clear hK K
            refine wpAnyIn_ready (rs := [4]) (by kernel_rfl) (by simp) ?_
            refine AllReadyIn.cons rfl (fun K hK => ?_) AllReadyIn.nil
            refine stepIn_append rfl (.tmp 49) (.tmp 52) 23 rfl rfl rfl HR6.out (hK _ _ ?_)
            clear hK K
            refine wpAnyIn_ready (rs := [5]) (by kernel_rfl) (by simp) ?_
            refine AllReadyIn.cons rfl (fun K hK => ?_) AllReadyIn.nil
            go_simp
            refine hK _ _ ?_
            clear hK K
            refine wpAnyIn_done (by kernel_rfl) ?_ _
            exact round_end hob2 HBUF.out.lt HOBF.out G4.out HG5.out HG6.out HGR.out G14.out HQ.out HQ5.out HBO6.out HM6.out HNEW.out HB4.out HVX1.out (by omega)
          · go_simp
            refine hK _ _ ?_
            clear hK K
            refine wpAnyIn_ready (rs := [0, 2]) (by kernel_rfl) (by simp) ?_
            refine AllReadyIn.cons rfl (fun K hK => ?_) (AllReadyIn.cons rfl (fun K hK => ?_) AllReadyIn.nil)
            · go_simp
              refine hK _ _ ?_
              clear hK K
              refine wpAnyIn_ready (rs := [2]) (by kernel_rfl) (by simp) ?_
              refine AllReadyIn.cons rfl (fun K hK => ?_) AllReadyIn.nil
              go_simp
              gi_wp2_with (refine ⟨trivial, (CallsIn.inRound l (callsIn_wide.2 (cloneInts_any _ x _ (HRX.out.same (grown_drew _ _)) HX1.out.1 HX1.out.2))).mono ?_⟩; rintro e W5 ⟨v5, rfl, ho5, hg5⟩; obtain ⟨a5, c5, hv5⟩ := ownI_sl' ho5; rw [H2.out.1] at hv5; subst hv5; have HG5 := Lib.hid (grown_trans (grown_drew W4 none) hg5); have HQ5 := Lib.hid ((HQ.out.same G14.out).same HG5.out); obtain ⟨g6, c6, w6, hrun6, hm6, hg6⟩ := push_run (base := bf + 1) (H := W4.drew.heap.size) HQ5.out ho5 HB4S.out HXR.out (fun g hg => own_lt_of (HQ.out.same G14.out) (ho5.fresh g hg).1) HQN.out (Nat.le_trans HB4S.out HG5.out.size); have HM6 := Lib.hid hm6; have HG6 := Lib.hid hg6; have HR6 := Lib.hid hrun6; have HBO5 := Lib.hid (HBO1.out.kept (grown_trans G14.out HG5.out) (by simp)); have HBO5A := Lib.hid (HBO5.out.alloc (.cells #[.slice a5 c c5] 22)); have HBO6 := Lib.hid (HBO5A.out.kept hg6 (HBO5.out.not_row (by decide) HQ5.out.own.1)); have cO5 := HBO5.out.cell; have cO5A := HBO5A.out.cell; have cO6 := HBO6.out.cell; have fO6 := HBO6.out.frozen; clear ho5 hg5 hm6 hg6 hrun6)
              refine wpAnyIn_ready (rs := [3]) (by kernel_rfl) (by simp) ?_
              refine AllReadyIn.cons rfl (fun K hK => ?_) AllReadyIn.nil
              go_simp
              refine hK _ _ ?_
              clear hK K
              refine wpAnyIn_ready (rs := [4]) (by kernel_rfl) (by simp) ?_
              refine AllReadyIn.cons rfl (fun K hK => ?_) AllReadyIn.nil
              refine stepIn_append rfl (.tmp 49) (.tmp 52) 23 rfl rfl rfl HR6.out (hK _ _ ?_)
              clear hK K
              refine wpAnyIn_ready (rs := [5]) (by kernel_rfl) (by simp) ?_
              refine AllReadyIn.cons rfl (fun K hK => ?_) AllReadyIn.nil
              go_simp
              refine hK _ _ ?_
              clear hK K
              refine wpAnyIn_done (by kernel_rfl) ?_ _
              exact round_end hob2 HBUF.out.lt HOBF.out G4.out HG5.out HG6.out HGR.out G14.out HQ.out HQ5.out HBO6.out HM6.out HNEW.out HB4.out HVX1.out (by omega)
            · go_simp
              gi_wp2_with (refine ⟨trivial, (CallsIn.inRound l (callsIn_wide.2 (cloneInts_any _ x _ (HRX.out.same (grown_drew _ _)) HX1.out.1 HX1.out.2))).mono ?_⟩; rintro e W5 ⟨v5, rfl, ho5, hg5⟩; obtain ⟨a5, c5, hv5⟩ := ownI_sl' ho5; rw [H2.out.1] at hv5; subst hv5; have HG5 := Lib.hid (grown_trans (grown_drew W4 none) hg5); have HQ5 := Lib.hid ((HQ.out.same G14.out).same HG5.out); obtain ⟨g6, c6, w6, hrun6, hm6, hg6⟩ := push_run (base := bf + 1) (H := W4.drew.heap.size) HQ5.out ho5 HB4S.out HXR.out (fun g hg => own_lt_of (HQ.out.same G14.out) (ho5.fresh g hg).1) HQN.out (Nat.le_trans HB4S.out HG5.out.size); have HM6 := Lib.hid hm6; have HG6 := Lib.hid hg6; have HR6 := Lib.hid hrun6; have HBO5 := Lib.hid (HBO1.out.kept (grown_trans G14.out HG5.out) (by simp)); have HBO5A := Lib.hid (HBO5.out.alloc (.cells #[.slice a5 c c5] 22)); have HBO6 := Lib.hid (HBO5A.out.kept hg6 (HBO5.out.not_row (by decide) HQ5.out.own.1)); have cO5 := HBO5.out.cell; have cO5A := HBO5A.out.cell; have cO6 := HBO6.out.cell; have fO6 := HBO6.out.frozen; clear ho5 hg5 hm6 hg6 hrun6)
              refine wpAnyIn_ready (rs := [0, 3]) (by kernel_rfl) (by simp) ?_
              refine AllReadyIn.cons rfl (fun K hK => ?_) (AllReadyIn.cons rfl (fun K hK => ?_) AllReadyIn.nil)
              · go_simp
                refine hK _ _ ?_
                clear hK K
                refine wpAnyIn_ready (rs := [3]) (by kernel_rfl) (by simp) ?_
                refine AllReadyIn.cons rfl (fun K hK => ?_) AllReadyIn.nil
                go_simp
                refine hK _ _ ?_
                clear hK K
                refine wpAnyIn_ready (rs := [4]) (by kernel_rfl) (by simp) ?_
                refine AllReadyIn.cons rfl (fun K hK => ?_) AllReadyIn.nil
                refine stepIn_append rfl (.tmp 49) (.tmp 52) 23 rfl rfl rfl HR6.out (hK _ _ ?_)
                clear hK K
                refine wpAnyIn_ready (rs := [5]) (by kernel_rfl) (by simp) ?_
                refine AllReadyIn.cons rfl (fun K hK => ?_) AllReadyIn.nil
                go_simp
                refine hK _ _ ?_
                clear hK K
                refine wpAnyIn_done (by kernel_rfl) ?_ _
                exact round_end hob2 HBUF.out.lt HOBF.out G4.out HG5.out HG6.out HGR.out G14.out HQ.out HQ5.out HBO6.out HM6.out HNEW.out HB4.out HVX1.out (by omega)
              · go_simp
                refine hK _ _ ?_
                clear hK K
                refine wpAnyIn_ready (rs := [0]) (by kernel_rfl) (by simp) ?_
                refine AllReadyIn.cons rfl (fun K hK => ?_) AllReadyIn.nil
                go_simp
                refine hK _ _ ?_
                clear hK K
                refine wpAnyIn_ready (rs := [4]) (by kernel_rfl) (by simp) ?_
                refine AllReadyIn.cons rfl (fun K hK => ?_) AllReadyIn.nil
                refine stepIn_append rfl (.tmp 49) (.tmp 52) 23 rfl rfl rfl HR6.out (hK _ _ ?_)
                clear hK K
                refine wpAnyIn_ready (rs := [5]) (by kernel_rfl) (by simp) ?_
                refine AllReadyIn.cons rfl (fun K hK => ?_) AllReadyIn.nil
                go_simp
                refine hK _ _ ?_
                clear hK K
                refine wpAnyIn_done (by kernel_rfl) ?_ _
                exact round_end hob2 HBUF.out.lt HOBF.out G4.out HG5.out HG6.out HGR.out G14.out HQ.out HQ5.out HBO6.out HM6.out HNEW.out HB4.out HVX1.out (by omega)
  case hdone =>
    rintro D xs W hD rfl hI hK
    obtain ⟨hg, vo, qs, b1, b2, b3, b4⟩ := hI
    obtain ⟨ao, co, rfl⟩ := b2.slice
    have cO := b1.cell
    have gW : w.grownBy W none := grown_then (grown_trans WG.out (grown_trans OG.out VG.out)) hg (by rintro j ⟨⟩; exact .inl (by have := WS.out; omega))
    have gP := grownBy_putObj' W D (.deferred none)
    have hdw : w.heap.size ≤ D := by have := (grown_trans WG.out (grown_trans OG.out VG.out)).size; omega
    have hmn : MatO W w.heap.size (.slice ao qs.length co) qs := b2.mono (by have := (grown_trans WG.out (grown_trans OG.out VG.out)).size; omega)
    have hkc : ∀ j, (Value.slice ao qs.length co).ownBlock = some j → j ≠ D := fun j hj e => by
      subst e
      have := mat_cells b2 j _ hj hK
      simp [Obj.isCells] at this
    have hkr : ∀ p ∈ qs, ∀ j, p.1.ownBlock = some j → j ≠ D := fun p hp j hj e => by
      subst e
      rcases (b2.rows p hp).2 with ⟨h', _⟩ | ⟨g, cap, cur, h', _, hb, _⟩
      · rw [h'] at hj; cases hj
      · rw [h'] at hj
        simp only [Value.ownBlock, Option.some.injEq] at hj
        subst hj
        rw [hb] at hK
        cases hK
    have hfin : MatO (W.putObj D (.deferred none)) w.heap.size (.slice ao qs.length co) qs := by
      refine ⟨⟨?_, fun p hp => ⟨(hmn.own.2 p hp).1.kept gP (fun k hk e => by cases hk; exact hkr p hp _ e rfl), (hmn.own.2 p hp).2⟩⟩, fun p hp => (hmn.rows p hp).keptB gP (fun k hk e => by cases hk; exact hkr p hp _ e rfl), hmn.apart⟩
      have := ownsRow_putObj hmn.own.1 (.deferred none) hK rfl
      exact this
    have HF1 := Lib.hid hfin; have HF2 := Lib.hid b3; have HF3 : Hid (w.grownBy (W.putObj D (.deferred none)) none) := Lib.hid (grown_then gW gP (by rintro j ⟨⟩; exact .inl hdw))
    clear hg b1 b2 b3 b4 gW gP hmn hkc hkr hfin
    go_wp2_with fail
    refine ⟨by simp, .inl ⟨_, _, rfl, run_takeDeferred hK, ?_⟩⟩
    exact ⟨_, results_tmp2 rfl _ _ _, _, qs, rfl, HF1.out, HF2.out, HF3.out⟩
end Go.Proofs.Ytgcfafjgaifmiaa
